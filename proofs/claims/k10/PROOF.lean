import PyProof.Rows.All
import Wide.All
import OpenK.AllK
import Wide.FinOn
import Lean
import PyProof.EqAt
import PyProof.EqKinds
import PyProof.TupleCall
import PyProof.NeKinds
import PyProof.ZipIter
import PyProof.WalksEnum
import PyProof.CompUse
import PyProof.ListRange
import PyProof.Rows.SetFrom
import PyProof.Rows.SortWalk
import PyProof.Rows.SeqMore2
import PyProof.SetRoads
import KE.KRevIter
import PyProof.WalksMore
import PyProof.AutoRange
import PyProof.ListNew
import PySem.Challenge.RW_lotmeal_k10_shares_or_none
set_option Elab.async false
set_option linter.all false
set_option maxRecDepth 100000
set_option maxHeartbeats 4000000
namespace L2
open PySem PySem.Spec PyProof.Rows
abbrev Key := Sum Int Str
def keyIs : Key → Value → Bool
  | .inl k, v => Value.isInt k v
  | .inr x, v => Value.isStrOf x v
def keyH (w : World) : Key → Int
  | .inl k => hashInt k
  | .inr x => hashStr w x
theorem keyIs_shape : ∀ {k : Key} {v : Value}, keyIs k v = true → (∃ i t, k = Sum.inl i ∧ v = Value.int i t) ∨ (∃ x t, k = Sum.inr x ∧ v = Value.str x t)
  | .inl i, v, h => by
    obtain ⟨t, e⟩ := Value.isInt_shape (k := i) (v := v) h
    exact .inl ⟨i, t, rfl, e⟩
  | .inr x, v, h => by
    obtain ⟨t, e⟩ := Value.isStrOf_shape (x := x) (v := v) h
    exact .inr ⟨x, t, rfl, e⟩
theorem key_ll (a b : Int) : decide ((Sum.inl a : Key) = Sum.inl b) = (a == b) := by
  by_cases e : a = b
  · subst e; simp
  · have h : ¬ (Sum.inl a : Key) = Sum.inl b := fun q => e (Sum.inl.inj q)
    rw [decide_eq_false h]
    exact (beq_eq_false_iff_ne.mpr e).symm
theorem key_rr (a b : Str) : decide ((Sum.inr a : Key) = Sum.inr b) = decide (a = b) := by
  by_cases e : a = b
  · subst e; simp
  · have h : ¬ (Sum.inr a : Key) = Sum.inr b := fun q => e (Sum.inr.inj q)
    rw [decide_eq_false h, decide_eq_false e]
theorem key_lr (a : Int) (b : Str) : decide ((Sum.inl a : Key) = Sum.inr b) = false := decide_eq_false (fun q => nomatch q)
theorem key_rl (a : Str) (b : Int) : decide ((Sum.inr a : Key) = Sum.inl b) = false := decide_eq_false (fun q => nomatch q)
def mixKind (prog : Program) (w : World) : PySem.KeyKind prog w Key where
  is := keyIs
  hash := keyH w
  inj := fun v a b ha hb => by
    rcases keyIs_shape ha with ⟨i, t, rfl, rfl⟩ | ⟨x, t, rfl, rfl⟩
    · rcases keyIs_shape hb with ⟨j, u, rfl, e⟩ | ⟨y, u, rfl, e⟩
      · injection e with e1 _; rw [e1]
      · exact nomatch e
    · rcases keyIs_shape hb with ⟨j, u, rfl, e⟩ | ⟨y, u, rfl, e⟩
      · exact nomatch e
      · injection e with e1 _; rw [e1]
  byValue := fun k v h => by
    rcases keyIs_shape h with ⟨i, t, rfl, rfl⟩ | ⟨x, t, rfl, rfl⟩ <;> rfl
  pyHash := fun hv h => by
    rcases keyIs_shape hv with ⟨i, t, rfl, rfl⟩ | ⟨x, t, rfl, rfl⟩
    · exact wpAny_pyHash_int h
    · exact wpAny_pyHash_str h
  eqBool := fun hu hv h => by
    rcases keyIs_shape hu with ⟨i, t, rfl, rfl⟩ | ⟨x, t, rfl, rfl⟩
    · rcases keyIs_shape hv with ⟨j, u, rfl, rfl⟩ | ⟨y, u, rfl, rfl⟩
      · rw [key_ll] at h; exact wpAny_eqBool_int h
      · rw [key_lr] at h; exact SeqAt.EqAt.int_str i t y u _ _ _ _ h
    · rcases keyIs_shape hv with ⟨j, u, rfl, rfl⟩ | ⟨y, u, rfl, rfl⟩
      · rw [key_rl] at h; exact SeqAt.EqAt.str_int x t j u _ _ _ _ h
      · rw [key_rr] at h; exact wpAny_eqBool_str h
  «strs» := fun k x t v h => by
    rcases keyIs_shape h with ⟨i, u, rfl, e⟩ | ⟨y, u, rfl, e⟩
    · exact nomatch e
    · injection e with e1 _
      subst e1
      cases v <;> rfl
end L2
namespace L2
open PySem PySem.Spec PyProof.Rows
inductive V where
  | non | bl (b : Bool) | int (i : Int) | str (x : Str) | byt (b : Array UInt8) | flt (b : UInt64) | ref (a : Addr) | ty (n : String)
  deriving DecidableEq
def RelV : V → Value → Prop
  | .non, u => u = Value.none
  | .bl b, u => u = Value.bool b
  | .int i, u => ∃ t, u = Value.int i t
  | .str x, u => ∃ t, u = Value.str x t
  | .byt b, u => ∃ t, u = Value.bytes b t
  | .flt b, u => ∃ t, u = Value.float b t
  | .ref a, u => u = Value.ref a
  | .ty n, u => u = Value.type n
abbrev Vals : List V → List Value → Prop := Paired RelV
theorem Vals.length {xs : List V} {us : List Value} (r : Vals xs us) : xs.length = us.length := Paired.length r
theorem Vals.get : ∀ {xs : List V} {us : List Value} {i : Nat} {x : V}, Vals xs us → xs[i]? = some x → ∃ u, us[i]? = some u ∧ RelV x u
  | _, _, _, _, .nil, e => by simp at e
  | _, _, 0, _, .cons r _, e => by simp at e; subst e; exact ⟨_, rfl, r⟩
  | _, _, i + 1, x, .cons _ t, e => by
    obtain ⟨u, h1, h2⟩ := Vals.get (i := i) (x := x) t (by simpa using e)
    exact ⟨u, by simpa using h1, h2⟩
theorem Vals.set {x : V} {u : Value} (r : RelV x u) : ∀ {xs : List V} {us : List Value} (i : Nat), Vals xs us → Vals (xs.set i x) (us.set i u)
  | _, _, _, .nil => .nil
  | _, _, 0, .cons _ t => .cons r t
  | _, _, i + 1, .cons q t => .cons q (Vals.set r i t)
theorem Vals.append : ∀ {xs ys : List V} {us ws : List Value}, Vals xs us → Vals ys ws → Vals (xs ++ ys) (us ++ ws)
  | _, _, _, _, .nil, s => s
  | _, _, _, _, .cons r t, s => .cons r (Vals.append t s)
theorem Vals.take : ∀ {xs : List V} {us : List Value} (n : Nat), Vals xs us → Vals (xs.take n) (us.take n)
  | _, _, 0, _ => .nil
  | _, _, _ + 1, .nil => .nil
  | _, _, n + 1, .cons r t => .cons r (Vals.take n t)
theorem Vals.drop : ∀ {xs : List V} {us : List Value} (n : Nat), Vals xs us → Vals (xs.drop n) (us.drop n)
  | _, _, 0, r => r
  | _, _, _ + 1, .nil => .nil
  | _, _, n + 1, .cons _ t => Vals.drop n t
def RelO : Option V → Option Value → Prop
  | some v, some u => RelV v u
  | none, none => True
  | _, _ => False
def KV {κ : Type} : List (κ × V) → List (κ × Value) → Prop := Paired fun (p : κ × V) (q : κ × Value) => p.1 = q.1 ∧ RelV p.2 q.2
def kV : Key → V
  | .inl i => .int i
  | .inr x => .str x
inductive HO where
  | lst (xs : List V)
  | tup (xs : List V)
  | dK (kvs : List (Key × V)) | dT (kvs : List (List Key × V))
  | set (S : Int → Bool) (n : Nat)
  | ins (C dx : Addr) (fs : List (Str × V))
  | own (x : Addr)
  | xd (fs : List (Str × V))
  | met (f x : Addr)
  | rng (lo hi : Int)
  | frz (o : Obj) (u : HO)
  | tbl (ps : Array Value)
  | ext (φ : Heap → Prop)
abbrev Hp := Addr → Option HO
def upd (H : Hp) (a : Addr) (o : HO) : Hp := fun b => if b = a then some o else H b
theorem upd_same {H : Hp} {a : Addr} {o : HO} : upd H a o a = some o := by unfold upd; rw [if_pos rfl]
theorem upd_ne {H : Hp} {a b : Addr} {o : HO} (h : b ≠ a) : upd H a o b = H b := by unfold upd; rw [if_neg h]
theorem ne_of_none {H : Hp} {a b : Addr} {o : HO} (h : H a = some o) (h' : H b = none) : a ≠ b := by
  intro e; subst e; rw [h] at h'; cases h'
section
variable (P : Program) (w : World)
def ObjOk (H : Hp) (h : Heap) (a : Addr) : HO → Prop
  | .lst xs => xs.length ≤ sizeLine ∧ ∃ (its : List Value) (n : Nat), Vals xs its ∧ h.get? a = some { cls := .type "list", data := .seq its.toArray n }
  | .tup xs => xs.length ≤ sizeLine ∧ ∃ its : List Value, Vals xs its ∧ IsTup h a its.toArray
  | .dK kvs => kvs.length ≤ sizeLine ∧ (a == sysModules) = false ∧ ∃ vs, KV kvs vs ∧ h.DictOf (mixKind P w) a vs
  | .dT kvs => kvs.length ≤ sizeLine ∧ (a == sysModules) = false ∧ ∃ xs : List (List Key × Addr × Value),
      Paired (fun (p : List Key × V) (q : List Key × Addr × Value) => p.1 = q.1 ∧ H q.2.1 = some (.tup (p.1.map kV)) ∧ RelV p.2 q.2.2) kvs xs ∧
      ∃ o es ep, h.get? a = some o ∧ o.ExactDict ∧ o.data = .dict es ep ∧ es.toList = xs.map (entryOfKey (tupleKind (mixKind P w))) ∧ (xs.map (·.1)).Nodup
  | .set S n => h.SetOf (intKind P w) a S n
  | .ins C dx fs => H dx = some (.own a) ∧ fs.length ≤ 1000 ∧ dx ≠ a ∧ h.get? a = some (PySem.W.instObj C dx) ∧
      ∃ mA, h.Ns1 dx mA ∧ (∀ f, RelO (fs.lookup f) (mA f)) ∧ PySem.Within mA (fs.map (·.1))
  | .own _ => ∃ o, h.get? a = some o
  | .xd fs => ∃ mA, h.Ns1 a mA ∧ ∀ f, RelO (fs.lookup f) (mA f)
  | .rng lo hi => ∃ t u v, h.get? a = some { cls := .type "range", data := .fields #[.int lo t, .int hi u, .int 1 v] }
  | .frz o u => h.get? a = some o ∧ ObjOk H h a u
  | .tbl ps => h.get? a = some { cls := .none, data := .fields ps }
  | .met f x => h.get? a = some (PySem.W.methodObj (.ref f) (.ref x))
  | .ext φ => φ h ∧ (∃ o, h.get? a = some o) ∧ ∀ h1 h2 : Heap, φ h1 → (∀ o, h1.get? a = some o → h2.get? a = some o) → φ h2
def HOk (H : Hp) (h : Heap) : Prop := ∀ a o, H a = some o → ObjOk P w H h a o
end
section
variable {P : Program} {w : World} {H H' : Hp} {h h' : Heap} {a : Addr} {o : HO}
theorem ObjOk.lt (x : ObjOk P w H h a o) : a < h.objs.size := by
  cases o with
  | lst xs => obtain ⟨_, _, _, _, e⟩ := x; exact Heap.lt_size e
  | tup xs => obtain ⟨_, _, _, p⟩ := x; exact p.lt
  | dK kvs => obtain ⟨_, _, _, _, o, _, _, e, _⟩ := x; exact Heap.lt_size e
  | dT kvs => obtain ⟨_, _, _, _, o, _, _, e, _⟩ := x; exact Heap.lt_size e
  | set S n => obtain ⟨o, _, _, _, e, _⟩ := x; exact Heap.lt_size e
  | ins C dx fs => obtain ⟨_, _, _, e, _⟩ := x; exact Heap.lt_size e
  | own y => obtain ⟨_, e⟩ := x; exact Heap.lt_size e
  | xd fs => obtain ⟨_, ⟨_, _, _, e, _⟩, _⟩ := x; exact Heap.lt_size e
  | rng lo hi => obtain ⟨_, _, _, e⟩ := x; exact Heap.lt_size e
  | frz ob u => obtain ⟨e, _⟩ := x; exact Heap.lt_size e
  | tbl ps => exact Heap.lt_size (show h.get? a = some _ from x)
  | met f y => exact Heap.lt_size (show h.get? a = some _ from x)
  | ext φ => obtain ⟨_, ⟨_, e⟩, _⟩ := x; exact Heap.lt_size e
theorem Paired.mapP {α β : Type} {F G : α → β → Prop} : ∀ {l₁ : List α} {l₂ : List β}, Paired F l₁ l₂ → (∀ a b, F a b → G a b) → Paired G l₁ l₂
  | _, _, .nil, _ => .nil
  | _, _, .cons r t, f => .cons (f _ _ r) (Paired.mapP t f)
theorem ObjOk.stay (x : ObjOk P w H h a o) (k : ∀ b u, (b = a ∨ H b = some (.own a)) → h.get? b = some u → h'.get? b = some u)
    (ho : ∀ b, H b = some (.own a) → H' b = some (.own a)) (ht : ∀ b xs, H b = some (.tup xs) → H' b = some (.tup xs)) : ObjOk P w H' h' a o := by
  induction o with
  | lst xs => obtain ⟨z, its, n, r, e⟩ := x; exact ⟨z, its, n, r, k _ _ (.inl rfl) e⟩
  | tup xs => obtain ⟨z, its, r, ob, e, c⟩ := x; exact ⟨z, its, r, ob, k _ _ (.inl rfl) e, c⟩
  | dK kvs => obtain ⟨z, y, vs, r, ob, es, ep, e, c⟩ := x; exact ⟨z, y, vs, r, ob, es, ep, k _ _ (.inl rfl) e, c⟩
  | dT kvs =>
    obtain ⟨z, y, xs, r, ob, es, ep, e, c⟩ := x
    exact ⟨z, y, xs, Paired.mapP r fun p q z => ⟨z.1, ht _ _ z.2.1, z.2.2⟩, ob, es, ep, k _ _ (.inl rfl) e, c⟩
  | set S n => obtain ⟨ob, es, ep, t, e, c⟩ := x; exact ⟨ob, es, ep, t, k _ _ (.inl rfl) e, c⟩
  | ins C dx fs =>
    obtain ⟨d, z, ne, e, mA, ⟨od, es, ep, e2, c⟩, r⟩ := x
    exact ⟨ho _ d, z, ne, k _ _ (.inl rfl) e, mA, ⟨od, es, ep, k _ _ (.inr d) e2, c⟩, r⟩
  | own y => obtain ⟨ob, e⟩ := x; exact ⟨ob, k _ _ (.inl rfl) e⟩
  | xd fs => obtain ⟨mA, ⟨od, es, ep, e, c⟩, r⟩ := x; exact ⟨mA, ⟨od, es, ep, k _ _ (.inl rfl) e, c⟩, r⟩
  | rng lo hi => obtain ⟨t, u, v, e⟩ := x; exact ⟨t, u, v, k _ _ (.inl rfl) e⟩
  | frz ob u ih => obtain ⟨e, q⟩ := x; exact ⟨k _ _ (.inl rfl) e, ih q⟩
  | tbl ps =>
    have e : h.get? a = some { cls := .none, data := .fields ps } := x
    show h'.get? a = some { cls := .none, data := .fields ps }
    exact k a _ (.inl rfl) e
  | met f y =>
    have e : h.get? a = some (PySem.W.methodObj (.ref f) (.ref y)) := x
    show h'.get? a = some (PySem.W.methodObj (.ref f) (.ref y))
    exact k a _ (.inl rfl) e
  | ext φ => obtain ⟨p, ⟨o, e⟩, st⟩ := x; exact ⟨st _ _ p fun o q => k _ _ (.inl rfl) q, ⟨o, k _ _ (.inl rfl) e⟩, st⟩
theorem HOk.lt (x : HOk P w H h) (e : H a = some o) : a < h.objs.size := (x a o e).lt
theorem HOk.fresh (x : HOk P w H h) (e : h.objs.size ≤ a) : H a = none := by
  cases q : H a with
  | none => rfl
  | some u => exact absurd (Nat.lt_of_lt_of_le (x.lt q) e) (Nat.lt_irrefl _)
theorem HOk.kept (x : HOk P w H h) (k : ∀ b u, h.get? b = some u → h'.get? b = some u) : HOk P w H h' := fun a o e =>
  (x a o e).stay (fun b u _ q => k b u q) (fun _ q => q) fun _ _ q => q
theorem HOk.laid (x : HOk P w H h) (k : ∀ b u, h.get? b = some u → h'.get? b = some u) (hp : h.objs.size ≤ a) (new : ObjOk P w (upd H a o) h' a o) : HOk P w (upd H a o) h' := fun b u e => by
  have hn := x.fresh hp
  by_cases hb : b = a
  · subst hb; rw [upd_same] at e; cases e; exact new
  · rw [upd_ne hb] at e
    exact (x b u e).stay (fun c v _ q => k c v q) (fun c q => by rw [upd_ne (ne_of_none q hn)]; exact q) fun c xs q => by rw [upd_ne (ne_of_none q hn)]; exact q
end
def Rd (H : Hp) (a : Addr) (u : HO) : Prop := H a = some u ∨ ∃ o, H a = some (.frz o u)
theorem Rd.ok {P : Program} {w : World} {H : Hp} {h : Heap} {a : Addr} {u : HO} (r : Rd H a u) (x : HOk P w H h) : ObjOk P w H h a u := by
  rcases r with r | ⟨o, r⟩
  · exact x a u r
  · obtain ⟨_, q⟩ := x a _ r
    exact q
def Mut : Option HO → Prop
  | some (.lst _) => True
  | some (.dK _) => True
  | some (.dT _) => True
  | some (.set _ _) => True
  | some (.ins _ _ _) => True
  | some (.ext _) => True
  | _ => False
section
variable {P : Program} {w : World} {H : Hp} {h h' : Heap} {x e : Addr} {o' : HO}
theorem HOk.write (ok : HOk P w H h) (mu : Mut (H x)) (he : e = x ∨ H e = some (.own x)) (k : ∀ b u, b ≠ e → h.get? b = some u → h'.get? b = some u) (heo : ∃ u, h'.get? e = some u)
    (new : ObjOk P w (upd H x o') h' x o') : HOk P w (upd H x o') h' := fun b u q => by
  have nown : ∀ c y, H c = some (.own y) → c ≠ x := fun c y r z => by subst z; rw [r] at mu; exact mu
  have ntup : ∀ c xs, H c = some (.tup xs) → c ≠ x := fun c xs r z => by subst z; rw [r] at mu; exact mu
  by_cases hb : b = x
  · subst hb; rw [upd_same] at q; cases q; exact new
  · rw [upd_ne hb] at q
    by_cases hbe : b = e
    · have q' : H b = some (.own x) := by
        rcases he with z | z
        · exact absurd (hbe.trans z) hb
        · rw [hbe]; exact z
      rw [q] at q'; cases q'
      obtain ⟨v, hv⟩ := heo
      exact ⟨v, by rw [hbe]; exact hv⟩
    · refine (ok b u q).stay (fun c v hc r => k c v ?_ r) (fun c r => by rw [upd_ne (nown c b r)]; exact r) fun c xs r => by rw [upd_ne (ntup c xs r)]; exact r
      rcases hc with rfl | hc
      · exact hbe
      · rintro rfl
        rcases he with z | z
        · exact nown c b hc z
        · rw [hc] at z; cases z; exact hb rfl
end
structure Un (fs ex : List Addr) (H H' : Hp) (h h' : Heap) : Prop where
  keep : ∀ b o, h.get? b = some o → H b = none → b ∉ fs → b ∉ ex → h'.get? b = some o
  slot : ∀ b o, h.get? b = some o → H b = none → b ∈ fs → b ∉ ex → ∃ sl, h'.get? b = some { o with slots := sl }
  free : ∀ b o, h.get? b = some o → H b = none → b ∉ ex → H' b = none
  there : ∀ b o, h.get? b = some o → b ∉ ex → ∃ o', h'.get? b = some o'
  tups : ∀ b xs, H b = some (.tup xs) → H' b = some (.tup xs)
  frzs : ∀ b o u, H b = some (.frz o u) → H' b = some (.frz o u)
  tbls : ∀ b ps, H b = some (.tbl ps) → ∃ more, H' b = some (.tbl (ps ++ more))
section
variable {fs fs' ex ex' : List Addr} {H H1 H2 : Hp} {h h1 h2 h' : Heap} {a x e : Addr} {o : HO}
theorem Un.any (u : Un fs ex H H1 h h1) {b : Addr} {ob : Obj} (q : h.get? b = some ob) (n : H b = none) (hx : b ∉ ex) : ∃ sl, h1.get? b = some { ob with slots := sl } := by
  by_cases hb : b ∈ fs
  · exact u.slot b ob q n hb hx
  · exact ⟨ob.slots, u.keep b ob q n hb hx⟩
theorem Un.kept (k : ∀ b u, h.get? b = some u → h'.get? b = some u) : Un fs ex H H h h' :=
  ⟨fun b ob q _ _ _ => k b ob q, fun b ob q _ _ _ => ⟨ob.slots, k b ob q⟩, fun _ _ _ n _ => n, fun b ob q _ => ⟨ob, k b ob q⟩, fun _ _ q => q, fun _ _ _ q => q, fun _ ps q => ⟨#[], by rw [q]; simp⟩⟩
theorem Un.refl : Un fs ex H H h h := Un.kept fun _ _ q => q
theorem Un.laid (k : ∀ b u, h.get? b = some u → h'.get? b = some u) (hp : h.objs.size ≤ a) (hn : H a = none) : Un fs ex H (upd H a o) h h' where
  keep := fun b u q _ _ _ => k b u q
  slot := fun b u q _ _ _ => ⟨u.slots, k b u q⟩
  free := fun b u q n _ => by rw [upd_ne (Nat.ne_of_lt (Nat.lt_of_lt_of_le (Heap.lt_size q) hp))]; exact n
  there := fun b u q _ => ⟨u, k b u q⟩
  tups := fun b xs q => by rw [upd_ne (ne_of_none q hn)]; exact q
  frzs := fun b u xs q => by rw [upd_ne (ne_of_none q hn)]; exact q
  tbls := fun b ps q => ⟨#[], by rw [upd_ne (ne_of_none q hn), q]; simp⟩
theorem Un.write (mu : Mut (H x)) (he : e = x ∨ H e = some (.own x)) (k : ∀ b u, b ≠ e → h.get? b = some u → h'.get? b = some u) (heo : ∃ u, h'.get? e = some u) : Un fs ex H (upd H x o) h h' := by
  have hx : ∀ b, H b = none → b ≠ x := fun b n z => by subst z; rw [n] at mu; exact mu
  have hb : ∀ b, H b = none → b ≠ e := fun b n z => by
    subst z
    rcases he with r | r
    · exact hx b n r
    · rw [n] at r; cases r
  have hm : ∀ b u, H b = some u → ¬ Mut (some u) → b ≠ x := fun b u q nm z => by subst z; rw [q] at mu; exact nm mu
  refine ⟨fun b u q n _ _ => k b u (hb b n) q, fun b u q n _ _ => ⟨u.slots, k b u (hb b n) q⟩, fun b u q n _ => by rw [upd_ne (hx b n)]; exact n, fun b u q _ => ?_,
    fun b xs q => by rw [upd_ne (hm b _ q fun z => z)]; exact q, fun b u xs q => by rw [upd_ne (hm b _ q fun z => z)]; exact q, fun b ps q => ⟨#[], by rw [upd_ne (hm b _ q fun z => z), q]; simp⟩⟩
  by_cases hbe : b = e
  · subst hbe; exact heo
  · exact ⟨u, k b u hbe q⟩
end
def trk (h : Heap) (H : Hp) : List Addr := (List.range h.objs.size).filter fun a => (H a).isSome
def hidT (h : Heap) (H : Hp) : Heap := PySem.W.hideAll h (trk h H)
theorem hidT_size (h : Heap) (H : Hp) : (hidT h H).objs.size = h.objs.size := PySem.W.hideAll_size _ _
theorem hidT_get {h : Heap} {H : Hp} {b : Addr} {o : Obj} (e : h.get? b = some o) (n : H b = none) : (hidT h H).get? b = some o :=
  PySem.W.hideAll_get _ e fun hm => by
    have q : (H b).isSome = true := (List.mem_filter.mp hm).2
    rw [n] at q; simp at q
theorem of_hidT {h : Heap} {H : Hp} {b : Addr} {o : Obj} (e : (hidT h H).get? b = some o) : h.get? b = some o ∧ H b = none := by
  have e' : h.get? b = some o := PySem.W.of_hideAll (trk h H) e
  refine ⟨e', ?_⟩
  cases q : H b with
  | none => rfl
  | some x =>
    have hm : b ∈ trk h H := List.mem_filter.mpr ⟨List.mem_range.mpr (Heap.lt_size e'), by simp [q]⟩
    have z : (hidT h H).get? b = none := PySem.W.hideAll_none (trk h H) hm
    rw [z] at e; cases e
end L2
namespace L2
open PySem PySem.Spec PyProof.Rows
structure Mod (K : PySem.W.Frag) (mg : Str → Option Value) (base : Heap) : Prop where
  kin : K.In base
  glob : base.Ns mainGlobals mg
  blt : ∃ mb, base.Ns builtinsNs mb ∧ ∀ x : Str, x ≠ "__name__" → mb x = bootBuiltins x
  nolimit : base.NoLimit
structure Cx where
  prog : Program
  w : World
  K : PySem.W.Frag
  mg : Str → Option Value
  base : Heap
  A : Around
  N : List Str
  s₀ : Shared
  H₀ : Hp
  env : Env
  outer : List Env
  stack : List Env
  ex : List Addr
  fn : Str → Bool
  calm : Bool
  pn : List (Addr × Obj)
  xe : Value → Shared → Prop
def frs (l : List Env) : List Addr := l.filterMap (·.frame)
abbrev Cx.fs (X : Cx) : List Addr := frs X.outer
def Vis (sc : Scope) (x : Str) : Prop := sc.names.lookup x = some .local ∨ sc.names.lookup x = some .cell ∨ sc.names.lookup x = some .free
def Loc (sc : Scope) (x : Str) : Prop := sc.names.lookup x = some .local ∨ sc.names.lookup x = some .cell
def Look (env : Env) (h : Heap) (m : Str → Option Value) (x : Str) (u : Value) : Prop :=
  (env.kindOf x = some .local ∧ m x = some u) ∨ ((env.kindOf x = some .cell ∨ env.kindOf x = some .free) ∧ ∃ c, env.cells.lookup x = some c ∧ h.IsCell c (some u))
structure Cx.Ok (X : Cx) : Prop where
  mod : Mod X.K X.mg X.base
  kind : X.env.scope.kind = .function
  glob : X.env.globals = mainGlobals
  blt : X.env.builtins = builtinsNs
  above : X.s₀.heap.objs.size ≤ X.env.locals
  inj : ∀ x y c, X.env.cells.lookup x = some c → X.env.cells.lookup y = some c → x = y
  has : ∀ x, (X.env.kindOf x = some .cell ∨ X.env.kindOf x = some .free) → ∃ c, X.env.cells.lookup x = some c
  cab : ∀ x c, X.fn x = true → X.env.cells.lookup x = some c → X.s₀.heap.objs.size ≤ c
  hd : X.calm = true → X.A.handled = none
  frames : X.A.frames = some X.stack
  stk : X.stack = X.outer ∨ (X.stack = X.env :: X.outer ∧ X.env.frame = some X.env.locals)
  exf : ∀ b ∈ X.ex, b ≠ X.env.locals ∧ ∀ x c, X.env.cells.lookup x = some c → c ≠ b
  bs : ∀ b o, X.base.get? b = some o → X.s₀.heap.get? b = some o ∧ X.H₀ b = none
  bsz : X.base.objs.size ≤ X.s₀.heap.objs.size
  noex : ∀ b o, X.base.get? b = some o → b ∉ X.ex
  exfs : ∀ b ∈ X.ex, b ∉ X.fs
  funs : X.s₀.heap.FunFrames X.base X.outer
  frf : ∀ b ∈ X.fs, X.H₀ b = none
structure Inv (X : Cx) (pins : List (Addr × Obj)) (σ : List (Option V)) (H : Hp) (s : Shared) : Prop where
  ok : X.Ok
  os : s.os = X.s₀.os
  bare : AllBare s.gens
  base : Un X.fs X.ex X.H₀ H X.s₀.heap s.heap
  loc : ∃ m, s.heap.Ns X.env.locals m ∧ ∀ (i : Nat) (x : Str) (v : V), X.N[i]? = some x → σ[i]? = some (some v) → Vis X.env.scope x → ∃ u, RelV v u ∧ Look X.env s.heap m x u
  cell : ∀ x c, X.env.cells.lookup x = some c → ∃ v, s.heap.IsCell c v
  free : H X.env.locals = none
  freeC : ∀ x c, X.env.cells.lookup x = some c → H c = none
  pin : ∀ p ∈ X.pn ++ pins, s.heap.get? p.1 = some p.2 ∧ H p.1 = none ∧ p.1 ≠ X.env.locals ∧ p.1 ∉ X.fs ∧ ∀ v, p.2.data ≠ .cell v
  hok : HOk X.prog X.w H s.heap
  len : σ.length = X.N.length
section
variable {X : Cx} {pins : List (Addr × Obj)} {σ : List (Option V)} {H H' : Hp} {s : Shared} {h' : Heap}
theorem Cx.Ok.nofr (ok : X.Ok) {b : Addr} {o : Obj} (e : X.base.get? b = some o) : b ∉ X.fs := fun hb => by
  have := (ok.funs.mem hb).1
  rw [e] at this; cases this
theorem Inv.bs (I : Inv X pins σ H s) : ∀ b o, X.base.get? b = some o → s.heap.get? b = some o ∧ H b = none := fun b o e =>
  ⟨I.base.keep b o (I.ok.bs b o e).1 (I.ok.bs b o e).2 (I.ok.nofr e) (I.ok.noex b o e), I.base.free b o (I.ok.bs b o e).1 (I.ok.bs b o e).2 (I.ok.noex b o e)⟩
theorem Inv.bk (I : Inv X pins σ H s) : ∀ b o, X.base.get? b = some o → s.heap.get? b = some o := fun b o e => (I.bs b o e).1
theorem Inv.mod (I : Inv X pins σ H s) : Mod X.K X.mg X.base := I.ok.mod
theorem Inv.kIn (I : Inv X pins σ H s) : X.K.In s.heap := I.ok.mod.kin.keeps I.bk
theorem Inv.lt (I : Inv X pins σ H s) : X.env.locals < s.heap.objs.size := let ⟨_, hn, _⟩ := I.loc; hn.lt
theorem Inv.sz (I : Inv X pins σ H s) : X.s₀.heap.objs.size ≤ s.heap.objs.size := Nat.le_trans I.ok.above (Nat.le_of_lt I.lt)
theorem Inv.nofs (I : Inv X pins σ H s) {a : Addr} (h : s.heap.objs.size ≤ a) : a ∉ X.fs := fun hb => by
  obtain ⟨_, o, ho, _⟩ := I.ok.funs.mem hb
  exact absurd (Nat.lt_of_lt_of_le (Heap.lt_size ho) (Nat.le_trans I.sz h)) (Nat.lt_irrefl _)
theorem Inv.cne (I : Inv X pins σ H s) : ∀ x c, X.env.cells.lookup x = some c → c ≠ X.env.locals := fun x c e z => by
  obtain ⟨v, o, ho, hd⟩ := I.cell x c e
  obtain ⟨m, ⟨o', es, ep, ho', hd', _⟩, _⟩ := I.loc
  rw [z, ho'] at ho; cases ho; rw [hd'] at hd; cases hd
theorem Inv.funs (I : Inv X pins σ H s) : s.heap.FunFrames X.base X.outer := by
  have all : ∀ (l : List Env), (∀ b ∈ frs l, b ∈ X.fs) → X.s₀.heap.FunFrames X.base l → s.heap.FunFrames X.base l := by
    intro l
    induction l with
    | nil => intro _ _; trivial
    | cons env r ih =>
      intro hs hl
      obtain ⟨hk, ⟨L, o, hf, hn, ho, hd⟩, hr⟩ := hl
      have hL : L ∈ X.fs := hs L (by unfold frs; rw [List.filterMap_cons, hf]; exact List.mem_cons_self)
      obtain ⟨sl, e⟩ := I.base.slot L o ho (I.ok.frf L hL) hL fun z => I.ok.exfs L z hL
      exact ⟨hk, ⟨L, _, hf, hn, e, hd⟩, ih (fun b hb => hs b (by unfold frs; rw [List.filterMap_cons, hf]; exact List.mem_cons_of_mem _ hb)) hr⟩
  exact all X.outer (fun _ hb => hb) I.ok.funs
theorem Inv.stack (I : Inv X pins σ H s) : s.heap.FunFrames X.base X.stack := by
  rcases I.ok.stk with e | ⟨e, hf⟩
  · rw [e]; exact I.funs
  · rw [e]
    obtain ⟨m, hn, _⟩ := I.loc
    refine .cons (by rw [I.ok.kind]; decide) hf hn ?_ I.funs
    exact Heap.get?_none_of_le (Nat.le_trans I.ok.bsz I.ok.above)
theorem Inv.stkSub (I : Inv X pins σ H s) : ∀ b ∈ frs X.stack, b ∈ X.env.locals :: X.fs := fun b hb => by
  rcases I.ok.stk with e | ⟨e, hf⟩
  · rw [e] at hb; exact List.mem_cons_of_mem _ hb
  · rw [e] at hb
    unfold frs at hb
    rw [List.filterMap_cons, hf] at hb
    exact hb
theorem Inv.stkFree (I : Inv X pins σ H s) : ∀ b ∈ frs X.stack, H b = none := fun b hb => by
  rcases List.mem_cons.mp (I.stkSub b hb) with e | hb
  · rw [e]; exact I.free
  · obtain ⟨_, o, ho, _⟩ := I.ok.funs.mem hb
    exact I.base.free b o ho (I.ok.frf b hb) fun z => I.ok.exfs b z hb
theorem Inv.step {g' : Array GenState} {t' : Nat} {d' : Drawn} {ch : List Addr} (I : Inv X pins σ H s)
    (hch : ∀ b ∈ ch, (b ∈ X.ex ∨ X.s₀.heap.objs.size ≤ b) ∧ b ≠ X.env.locals ∧ (∀ x c, X.env.cells.lookup x = some c → c ≠ b) ∧ ∀ p ∈ X.pn ++ pins, p.1 ≠ b)
    (keep : ∀ b o, b ≠ X.env.locals → b ∉ X.fs → b ∉ ch → s.heap.get? b = some o → H b = none → h'.get? b = some o)
    (slot : ∀ b o, b ≠ X.env.locals → b ∈ X.fs → b ∉ ch → s.heap.get? b = some o → H b = none → ∃ sl, h'.get? b = some { o with slots := sl }) (free : ∀ b o, b ∉ ch → s.heap.get? b = some o → H b = none → H' b = none)
    (there : ∀ b o, b ∉ ch → s.heap.get? b = some o → ∃ o', h'.get? b = some o')
    (tups : ∀ b xs, H b = some (.tup xs) → H' b = some (.tup xs)) (frzs : ∀ b o u, H b = some (.frz o u) → H' b = some (.frz o u)) (tbls : ∀ b ps, H b = some (.tbl ps) → ∃ more, H' b = some (.tbl (ps ++ more)))
    (ns : ∀ m, s.heap.Ns X.env.locals m → h'.Ns X.env.locals m) (hok : HOk X.prog X.w H' h') (hg : AllBare g') :
    Inv X pins σ H' { s with heap := h', gens := g', drawn := d', toks := t' } := by
  have neL : ∀ b o, X.s₀.heap.get? b = some o → b ≠ X.env.locals := fun b o e => Nat.ne_of_lt (Nat.lt_of_lt_of_le (Heap.lt_size e) I.ok.above)
  have neC : ∀ b o, X.s₀.heap.get? b = some o → b ∉ X.ex → b ∉ ch := fun b o e hx hb => by
    rcases (hch b hb).1 with z | z
    · exact hx z
    · exact absurd (Nat.lt_of_lt_of_le (Heap.lt_size e) z) (Nat.lt_irrefl _)
  have cellK : ∀ x c, X.env.cells.lookup x = some c → ∀ v, s.heap.IsCell c v → h'.IsCell c v := fun x c e v ⟨o, ho, hd⟩ => by
    have nch : c ∉ ch := fun z => (hch c z).2.2.1 x c e rfl
    by_cases hc : c ∈ X.fs
    · obtain ⟨sl, q⟩ := slot c o (I.cne x c e) hc nch ho (I.freeC x c e)
      exact ⟨_, q, hd⟩
    · exact ⟨o, keep c o (I.cne x c e) hc nch ho (I.freeC x c e), hd⟩
  refine ⟨I.ok, I.os, hg, ⟨fun b o e n hb hx => ?_, fun b o e n hb hx => ?_, fun b o e n hx => ?_, fun b o e hx => ?_, fun b xs e => tups b xs (I.base.tups b xs e), fun b o xs e => frzs b o xs (I.base.frzs b o xs e), fun b ps e => ?_⟩, ?_, fun x c e => ?_, ?_, fun x c e => ?_, fun p hp => ?_, hok, I.len⟩
  · exact keep b o (neL b o e) hb (neC b o e hx) (I.base.keep b o e n hb hx) (I.base.free b o e n hx)
  · obtain ⟨sl, e1⟩ := I.base.slot b o e n hb hx
    obtain ⟨sl', e2⟩ := slot b _ (neL b o e) hb (neC b o e hx) e1 (I.base.free b o e n hx)
    exact ⟨sl', e2⟩
  · obtain ⟨o', e1⟩ := I.base.there b o e hx
    exact free b o' (neC b o e hx) e1 (I.base.free b o e n hx)
  · obtain ⟨o', e1⟩ := I.base.there b o e hx
    exact there b o' (neC b o e hx) e1
  · obtain ⟨m1, e1⟩ := I.base.tbls b ps e
    obtain ⟨m2, e2⟩ := tbls b _ e1
    exact ⟨m1 ++ m2, by rw [e2, Array.append_assoc]⟩
  · obtain ⟨m, hn, hl⟩ := I.loc
    refine ⟨m, ns m hn, fun i x v e1 e2 e3 => ?_⟩
    obtain ⟨u, r, l⟩ := hl i x v e1 e2 e3
    refine ⟨u, r, ?_⟩
    rcases l with l | ⟨k, c, e, z⟩
    · exact .inl l
    · exact .inr ⟨k, c, e, cellK x c e _ z⟩
  · obtain ⟨v, z⟩ := I.cell x c e
    exact ⟨v, cellK x c e v z⟩
  · obtain ⟨m, ⟨o, _, _, ho, _⟩, _⟩ := I.loc
    exact free _ o (fun z => (hch _ z).2.1 rfl) ho I.free
  · obtain ⟨v, o, ho, hd⟩ := I.cell x c e
    exact free c o (fun z => (hch c z).2.2.1 x c e rfl) ho (I.freeC x c e)
  · obtain ⟨e, n, ne, nf, d⟩ := I.pin p hp
    have nch : p.1 ∉ ch := fun z => (hch p.1 z).2.2.2 p hp rfl
    exact ⟨keep p.1 p.2 ne nf nch e n, free p.1 p.2 nch e n, ne, nf, d⟩
theorem Inv.un {t' : Nat} (I : Inv X pins σ H s) (u : Un X.fs [] H H' s.heap h') (hok : HOk X.prog X.w H' h') : Inv X pins σ H' { s with heap := h', toks := t' } := by
  obtain ⟨m, ⟨o, es, ep, ho, r⟩, _⟩ := id I.loc
  obtain ⟨sl, hL⟩ := u.any ho I.free (by simp)
  exact I.step (g' := s.gens) (d' := s.drawn) (ch := []) (fun _ z => nomatch z) (fun b o _ hb _ e n => u.keep b o e n hb (by simp)) (fun b o _ hb _ e n => u.slot b o e n hb (by simp)) (fun b o _ e n => u.free b o e n (by simp)) (fun b o _ e => u.there b o e (by simp)) u.tups u.frzs u.tbls (fun m' hm => by
    obtain ⟨o', es', ep', ho', r'⟩ := hm
    rw [ho] at ho'; cases ho'
    exact ⟨_, es', ep', hL, r'⟩) hok I.bare
theorem Inv.call {g' : Array GenState} {t' : Nat} {d' : Drawn} {ch : List Addr} (I : Inv X pins σ H s) (u : Un (frs X.stack) ch H H' s.heap h') (hok : HOk X.prog X.w H' h') (hg : AllBare g')
    (hch : ∀ b ∈ ch, (b ∈ X.ex ∨ X.s₀.heap.objs.size ≤ b) ∧ b ≠ X.env.locals ∧ (∀ x c, X.env.cells.lookup x = some c → c ≠ b) ∧ ∀ p ∈ X.pn ++ pins, p.1 ≠ b) :
    Inv X pins σ H' { s with heap := h', gens := g', drawn := d', toks := t' } := by
  obtain ⟨m, ⟨o, es, ep, ho, r⟩, _⟩ := id I.loc
  obtain ⟨sl, hL⟩ := u.any ho I.free fun z => (hch _ z).2.1 rfl
  exact I.step (ch := ch) hch (fun b o hL hb hc e n => u.keep b o e n (fun z => (List.mem_cons.mp (I.stkSub b z)).elim hL hb) hc) (fun b o _ _ hc e n => u.any e n hc) (fun b o hc e n => u.free b o e n hc) (fun b o hc e => u.there b o e hc) u.tups u.frzs u.tbls (fun m' hm => by
    obtain ⟨o', es', ep', ho', r'⟩ := hm
    rw [ho] at ho'; cases ho'
    exact ⟨_, es', ep', hL, r'⟩) hok hg
theorem Inv.turned {t' : Nat} {it : Addr} (I : Inv X pins σ H s) (k : ∀ b o, b ≠ it → s.heap.get? b = some o → h'.get? b = some o) (hn : H it = none) (hL : it ≠ X.env.locals)
    (h1 : it ∈ X.ex ∨ X.s₀.heap.objs.size ≤ it) (h2 : ∀ x c, X.env.cells.lookup x = some c → c ≠ it) (h3 : ∀ p ∈ X.pn ++ pins, p.1 ≠ it) : Inv X pins σ H { s with heap := h', toks := t' } := by
  have nit : ∀ b u, H b = some u → b ≠ it := fun b u e z => by rw [z, hn] at e; cases e
  refine I.step (g' := s.gens) (d' := s.drawn) (ch := [it]) (fun b hb => ?_) (fun b o _ _ hc e _ => k b o (fun z => hc (by simp [z])) e) (fun b o _ _ hc e _ => ⟨o.slots, k b o (fun z => hc (by simp [z])) e⟩) (fun _ _ _ _ n => n)
    (fun b o hc e => ⟨o, k b o (fun z => hc (by simp [z])) e⟩) (fun _ _ e => e) (fun _ _ _ e => e) (fun b ps e => ⟨#[], by rw [e]; simp⟩) (fun m hm => ?_) (fun b u e => ?_) I.bare
  · have e : b = it := by simpa using hb
    subst e
    exact ⟨h1, hL, h2, h3⟩
  · obtain ⟨o, es, ep, ho, r⟩ := hm
    exact ⟨o, es, ep, k _ o (Ne.symm hL) ho, r⟩
  · refine (I.hok b u e).stay (fun c v hc q => k c v ?_ q) (fun _ q => q) fun _ _ q => q
    rcases hc with z | z
    · rw [z]; exact nit b u e
    · exact nit c _ z
theorem Inv.tok (I : Inv X pins σ H s) (t : Nat) : Inv X pins σ H { s with toks := t } := I.un (h' := s.heap) (t' := t) Un.refl I.hok
theorem Inv.kept {t' : Nat} (I : Inv X pins σ H s) (k : ∀ b u, s.heap.get? b = some u → h'.get? b = some u) : Inv X pins σ H { s with heap := h', toks := t' } := I.un (Un.kept k) (I.hok.kept k)
theorem Inv.laid {a : Addr} {o : HO} {t' : Nat} (I : Inv X pins σ H s) (k : ∀ b u, s.heap.get? b = some u → h'.get? b = some u) (hp : s.heap.objs.size ≤ a) (new : ObjOk X.prog X.w (upd H a o) h' a o) :
    Inv X pins σ (upd H a o) { s with heap := h', toks := t' } := I.un (Un.laid k hp (I.hok.fresh hp)) (I.hok.laid k hp new)
theorem Inv.write {x e : Addr} {o : HO} {t' : Nat} (I : Inv X pins σ H s) (mu : Mut (H x)) (he : e = x ∨ H e = some (.own x)) (k : ∀ b u, b ≠ e → s.heap.get? b = some u → h'.get? b = some u) (heo : ∃ u, h'.get? e = some u)
    (new : ObjOk X.prog X.w (upd H x o) h' x o) : Inv X pins σ (upd H x o) { s with heap := h', toks := t' } := I.un (Un.write mu he k heo) (I.hok.write mu he k heo new)
theorem Inv.pins_of {pins' : List (Addr × Obj)} (I : Inv X pins σ H s) (h : ∀ p ∈ pins', s.heap.get? p.1 = some p.2 ∧ H p.1 = none ∧ p.1 ≠ X.env.locals ∧ p.1 ∉ X.fs ∧ ∀ v, p.2.data ≠ .cell v) : Inv X pins' σ H s :=
  ⟨I.ok, I.os, I.bare, I.base, I.loc, I.cell, I.free, I.freeC, fun p hp => (List.mem_append.mp hp).elim (fun z => I.pin p (List.mem_append_left _ z)) (h p), I.hok, I.len⟩
theorem nodup_ix {N : List Str} (hN : N.Nodup) {i j : Nat} {x : Str} (a : N[i]? = some x) (b : N[j]? = some x) : i = j := by
  obtain ⟨h1, e1⟩ := List.getElem?_eq_some_iff.mp a
  obtain ⟨h2, e2⟩ := List.getElem?_eq_some_iff.mp b
  exact (List.getElem_inj hN).mp (e1.trans e2.symm)
theorem store_ok2 {M : Model} {A : Around} {E : Value → Shared → Prop} {i : Nat} {x : Str} {v : V} {u : Value} {Q : Unit → Shared → Prop} (I : Inv X pins σ H s) (hN : X.N.Nodup) (hi : X.N[i]? = some x) (hx : Loc X.env.scope x) (r : RelV v u)
    (h : ∀ s', Inv X pins (σ.set i (some v)) H s' → (∃ a, Heap.SameBut a s.heap s'.heap ∧ (a = X.env.locals ∨ X.env.cells.lookup x = some a)) → Q () s') (hf : X.fn x = true ∨ X.env.scope.names.lookup x = some .local := by first | exact .inl rfl | exact .inr rfl | assumption) : wpAny M A (storeName X.env x u) Q E s := by
  obtain ⟨m, hn, hl⟩ := id I.loc
  have hcls : (X.env.scope.kind == .class || (X.env.scope.kind == .module && X.env.locals != X.env.globals)) = false := by rw [I.ok.kind]; rfl
  have hiσ : i < σ.length := by rw [I.len]; exact (List.getElem?_eq_some_iff.mp hi).1
  have cne := I.cne
  have tracked : ∀ {a : Addr} {h' : Heap}, (∃ o, s.heap.get? a = some o ∧ H a = none) → Heap.SameBut a s.heap h' → HOk X.prog X.w H h' := fun {a h'} ha hs b ob e => by
    obtain ⟨_, _, hfree⟩ := ha
    refine (I.hok b ob e).stay (fun c w' hc q => (hs.2 c ?_).trans q) (fun _ q => q) fun _ _ q => q
    rintro rfl
    rcases hc with rfl | hc
    · rw [hfree] at e; cases e
    · rw [hfree] at hc; cases hc
  rcases hx with hk | hk
  · refine wpAny_storeName_local hk hn (fun h' hn' hs => ?_) hcls
    obtain ⟨oL, _, _, hoL, _⟩ := id hn
    refine h _ ⟨I.ok, I.os, I.bare, ⟨fun b o e n hb hx => ?_, fun b o e n hb hx => ?_, I.base.free, fun b o e hx => ?_, I.base.tups, I.base.frzs, I.base.tbls⟩, ⟨_, hn', fun j y v' e1 e2 e3 => ?_⟩, fun y c e => ?_, I.free, I.freeC, fun p hp => ?_, tracked ⟨oL, hoL, I.free⟩ hs, by simpa using I.len⟩ ⟨_, hs, .inl rfl⟩
    · exact (hs.2 b (Nat.ne_of_lt (Nat.lt_of_lt_of_le (Heap.lt_size e) I.ok.above))).trans (I.base.keep b o e n hb hx)
    · obtain ⟨sl, e1⟩ := I.base.slot b o e n hb hx
      exact ⟨sl, (hs.2 b (Nat.ne_of_lt (Nat.lt_of_lt_of_le (Heap.lt_size e) I.ok.above))).trans e1⟩
    · obtain ⟨o', e1⟩ := I.base.there b o e hx
      exact ⟨o', (hs.2 b (Nat.ne_of_lt (Nat.lt_of_lt_of_le (Heap.lt_size e) I.ok.above))).trans e1⟩
    · by_cases hj : j = i
      · subst hj
        rw [hi] at e1; cases e1
        rw [List.getElem?_set_self hiσ] at e2
        cases e2
        exact ⟨u, r, .inl ⟨hk, by simp⟩⟩
      · rw [List.getElem?_set_ne (Ne.symm hj)] at e2
        obtain ⟨u', r', q⟩ := hl j y v' e1 e2 e3
        refine ⟨u', r', ?_⟩
        rcases q with ⟨k, e⟩ | ⟨k, c, e, z⟩
        · refine .inl ⟨k, ?_⟩
          have : y ≠ x := fun e => hj (nodup_ix hN e1 (e ▸ hi))
          simp [this, e]
        · exact .inr ⟨k, c, e, z.sameBut hs (cne y c e)⟩
    · obtain ⟨w', z⟩ := I.cell y c e
      exact ⟨w', z.sameBut hs (cne y c e)⟩
    · obtain ⟨e, n, ne, nf, d⟩ := I.pin p hp
      exact ⟨(hs.2 p.1 ne).trans e, n, ne, nf, d⟩
  · have hfn : X.fn x = true := by
      rcases hf with z | z
      · exact z
      · rw [z] at hk; cases hk
    obtain ⟨c, hc⟩ := I.ok.has x (.inl hk)
    obtain ⟨w', z⟩ := I.cell x c hc
    refine wpAny_storeName_cell I.ok.kind hk hc z (fun h' hc' hs => ?_)
    obtain ⟨oc, hoc, hocd⟩ := id z
    refine h { s with heap := h' } ⟨I.ok, I.os, I.bare, ⟨fun b o e n hb hx => ?_, fun b o e n hb hx => ?_, I.base.free, fun b o e hx => ?_, I.base.tups, I.base.frzs, I.base.tbls⟩, ⟨m, hn.sameBut hs (Ne.symm (cne x c hc)), fun j y v' e1 e2 e3 => ?_⟩, fun y c' e => ?_, I.free, I.freeC, fun p hp => ?_, tracked ⟨oc, hoc, I.freeC x c hc⟩ hs, by simpa using I.len⟩ ⟨c, hs, .inr hc⟩
    · exact (hs.2 b (Nat.ne_of_lt (Nat.lt_of_lt_of_le (Heap.lt_size e) (I.ok.cab x c hfn hc)))).trans (I.base.keep b o e n hb hx)
    · obtain ⟨sl, e1⟩ := I.base.slot b o e n hb hx
      exact ⟨sl, (hs.2 b (Nat.ne_of_lt (Nat.lt_of_lt_of_le (Heap.lt_size e) (I.ok.cab x c hfn hc)))).trans e1⟩
    · obtain ⟨o', e1⟩ := I.base.there b o e hx
      exact ⟨o', (hs.2 b (Nat.ne_of_lt (Nat.lt_of_lt_of_le (Heap.lt_size e) (I.ok.cab x c hfn hc)))).trans e1⟩
    · by_cases hj : j = i
      · subst hj
        rw [hi] at e1; cases e1
        rw [List.getElem?_set_self hiσ] at e2
        cases e2
        exact ⟨u, r, .inr ⟨.inl hk, c, hc, hc'⟩⟩
      · rw [List.getElem?_set_ne (Ne.symm hj)] at e2
        obtain ⟨u', r', q⟩ := hl j y v' e1 e2 e3
        refine ⟨u', r', ?_⟩
        rcases q with q | ⟨k, c', e, z'⟩
        · exact .inl q
        · refine .inr ⟨k, c', e, z'.sameBut hs ?_⟩
          rintro rfl
          exact hj (nodup_ix hN e1 (I.ok.inj _ _ _ e hc ▸ hi))
    · by_cases hcc : c' = c
      · subst hcc; exact ⟨_, hc'⟩
      · obtain ⟨w2, z2⟩ := I.cell y c' e
        exact ⟨w2, z2.sameBut hs hcc⟩
    · obtain ⟨e, n, ne, nf, d⟩ := I.pin p hp
      refine ⟨(hs.2 p.1 ?_).trans e, n, ne, nf, d⟩
      intro q
      rw [q, hoc] at e
      have q' : oc = p.2 := Option.some.inj e
      exact d w' (by rw [← q']; exact hocd)
theorem store_ok {M : Model} {A : Around} {E : Value → Shared → Prop} {i : Nat} {x : Str} {v : V} {u : Value} {Q : Unit → Shared → Prop} (I : Inv X pins σ H s) (hN : X.N.Nodup) (hi : X.N[i]? = some x) (hx : Loc X.env.scope x) (r : RelV v u)
    (h : ∀ s', Inv X pins (σ.set i (some v)) H s' → Q () s') (hf : X.fn x = true ∨ X.env.scope.names.lookup x = some .local := by first | exact .inl rfl | exact .inr rfl | assumption) : wpAny M A (storeName X.env x u) Q E s :=
  store_ok2 I hN hi hx r (fun s' I' _ => h s' I') hf
theorem Inv.call' {s' : Shared} {ch : List Addr} (I : Inv X pins σ H s) (ho : s'.os = s.os) (u : Un (frs X.stack) ch H H' s.heap s'.heap) (hok : HOk X.prog X.w H' s'.heap) (hg : AllBare s'.gens)
    (hch : ∀ b ∈ ch, (b ∈ X.ex ∨ X.s₀.heap.objs.size ≤ b) ∧ b ≠ X.env.locals ∧ (∀ x c, X.env.cells.lookup x = some c → c ≠ b) ∧ ∀ p ∈ X.pn ++ pins, p.1 ≠ b) : Inv X pins σ H' s' := by
  obtain ⟨h', g', d', t', o'⟩ := s'
  have e : o' = s.os := ho
  subst e
  exact I.call (g' := g') (t' := t') (d' := d') u hok hg hch
end
abbrev XK := Value → Option Addr → Hp → Prop
abbrev St := List (Option V)
abbrev VK := V → Hp → Prop
abbrev TE := St → Hp → VK → Prop
abbrev TT := St → Hp → (Bool → Hp → Prop) → Prop
abbrev TA := St → Hp → (List V → Hp → Prop) → Prop
structure Ends where
  nx : St → Hp → Prop
  rt : VK
  bk : St → Hp → Prop := fun _ _ => False
  ct : St → Hp → Prop := fun _ _ => False
abbrev TS := Ends → St → Hp → Prop
def EP (X : Cx) (pins : List (Addr × Obj)) (σ : St) (Q : VK) (u : Value) (s' : Shared) : Prop := ∃ v H', Inv X pins σ H' s' ∧ RelV v u ∧ Q v H'
def TP (X : Cx) (pins : List (Addr × Obj)) (σ : St) (Q : Bool → Hp → Prop) (b : Bool) (s' : Shared) : Prop := ∃ H', Inv X pins σ H' s' ∧ Q b H'
def AP (X : Cx) (pins : List (Addr × Obj)) (σ : St) (Q : List V → Hp → Prop) (us : List Value) (s' : Shared) : Prop := ∃ vs H', Inv X pins σ H' s' ∧ Vals vs us ∧ Q vs H'
def SP (X : Cx) (pins : List (Addr × Obj)) (D : Ends) (f : Flow) (s' : Shared) : Prop :=
  match f with
  | .next => ∃ σ' H', Inv X pins σ' H' s' ∧ D.nx σ' H'
  | .brk => ∃ σ' H', Inv X pins σ' H' s' ∧ D.bk σ' H'
  | .cont => ∃ σ' H', Inv X pins σ' H' s' ∧ D.ct σ' H'
  | .ret u => ∃ v σ' H', Inv X pins σ' H' s' ∧ RelV v u ∧ D.rt v H'
def PE (X : Cx) (e : Expr) (t : TE) : Prop :=
  ∀ (pins : List (Addr × Obj)) (s : Shared) (σ : St) (H : Hp) (Q : VK), Inv X pins σ H s → t σ H Q → wpAny (model X.prog X.w) X.A (eval e X.env) (EP X pins σ Q) X.xe s
def PT (X : Cx) (e : Expr) (t : TT) : Prop :=
  ∀ (pins : List (Addr × Obj)) (s : Shared) (σ : St) (H : Hp) (Q : Bool → Hp → Prop), Inv X pins σ H s → t σ H Q → wpAny (model X.prog X.w) X.A (isTrue e X.env (eval e X.env)) (TP X pins σ Q) X.xe s
def PW (X : Cx) (e : Expr) (t : TT) : Prop :=
  ∀ (whole : Sem Value) (pins : List (Addr × Obj)) (s : Shared) (σ : St) (H : Hp) (Q : Bool → Hp → Prop), Inv X pins σ H s → t σ H Q → wpAny (model X.prog X.w) X.A (isTrue e X.env whole) (TP X pins σ Q) X.xe s
theorem PW.pt {X : Cx} {e : Expr} {t : TT} (h : PW X e t) : PT X e t := h _
def PA (X : Cx) (es : List Expr) (t : TA) : Prop :=
  ∀ (pos : Pos) (pins : List (Addr × Obj)) (s : Shared) (σ : St) (H : Hp) (Q : List V → Hp → Prop), Inv X pins σ H s → t σ H Q → wpAny (model X.prog X.w) X.A (spliced (backTo pos (starEach es X.env))) (AP X pins σ Q) X.xe s
def PS (X : Cx) (st : Stmt) (t : TS) : Prop :=
  ∀ (pins : List (Addr × Obj)) (s : Shared) (σ : St) (H : Hp) (D : Ends), Inv X pins σ H s → t D σ H → wpAny (model X.prog X.w) X.A (exec st X.env) (SP X pins D) X.xe s
def PSs (X : Cx) (st : List Stmt) (t : TS) : Prop :=
  ∀ (pins : List (Addr × Obj)) (s : Shared) (σ : St) (H : Hp) (D : Ends), Inv X pins σ H s → t D σ H → wpAny (model X.prog X.w) X.A (execs st X.env) (SP X pins D) X.xe s
theorem thn {α : Type} {t : Sem α} {Q Q' : α → Shared → Prop} {M : Model} {A : Around} {E : Value → Shared → Prop} {s : Shared} (h : wpAny M A t Q E s) (hQ : ∀ a s, Q a s → Q' a s) : wpAny M A t Q' E s := wpAny_mono h hQ fun _ _ x => x
end L2
namespace L2
open PySem PySem.Spec PyProof.Rows
section
variable {X : Cx}
def tVar (i : Nat) : TE := fun σ H Q => ∃ v, σ[i]? = some (some v) ∧ Q v H
def tC (v : V) : TE := fun _ H Q => Q v H
theorem pe_var {i : Nat} {x : Str} {pos : Pos} (hN : X.N[i]? = some x) (hv : Vis X.env.scope x) (hd : (x == ("__debug__" : Str)) = false := by decide) (hcd : (x == ("__classdict__" : Str)) = false := by decide) : PE X (.Name x pos) (tVar i) := by
  intro pins s σ H Q I h
  obtain ⟨v, e, h⟩ := h
  obtain ⟨m, hn, hl⟩ := I.loc
  obtain ⟨u, r, l⟩ := hl i x v hN e hv
  have fin : EP X pins σ Q u s := ⟨v, H, I, r, h⟩
  rcases l with ⟨hk, hm⟩ | ⟨hk, c, hc, hcell⟩
  · exact wpAny_Name (wpAny_loadName_local I.ok.kind hk hn hm fin) hd
  · rcases hk with hk | hk
    · exact wpAny_Name (wpAny_loadName_cell I.ok.kind hk hc hcell fin) hd
    · exact wpAny_Name (wpAny_loadName_free I.ok.kind hk hc hcell fin hcd) hd
theorem pe_int {i j pos} : PE X (.Constant (.int i) j pos) (tC (.int i)) := fun _ _ _ H _ I h => wpAny_Constant_int ⟨.int i, H, I.tok _, ⟨_, rfl⟩, h⟩
theorem pe_bl {b j pos} : PE X (.Constant (.bool b) j pos) (tC (.bl b)) := fun _ _ _ H _ I h => Constant_bool ⟨.bl b, H, I, rfl, h⟩
def Gl (X : Cx) (x : Str) : Prop := X.env.kindOf x = some .globalImplicit
theorem ld_glob {E : Value → Shared → Prop} {pins : List (Addr × Obj)} {s : Shared} {σ : St} {H : Hp} {x : Str} {u : Value} {pos : Pos} {Q : Value → Shared → Prop} (I : Inv X pins σ H s) (hg : Gl X x) (hm : X.mg x = some u) (h : Q u s)
    (hd : (x == ("__debug__" : Str)) = false := by decide) : wpAny (model X.prog X.w) X.A (eval (.Name x pos) X.env) Q E s :=
  Calls.Name_function_global I.ok.kind hg (Calls.loadGlobal_global (by rw [I.ok.glob]; exact I.mod.glob.keeps I.bk) hm h) hd
theorem ld_blt {E : Value → Shared → Prop} {pins : List (Addr × Obj)} {s : Shared} {σ : St} {H : Hp} {x : Str} {u : Value} {pos : Pos} {Q : Value → Shared → Prop} (I : Inv X pins σ H s) (hg : Gl X x) (hm : X.mg x = none) (hv : bootBuiltins x = some u) (h : Q u s)
    (hn : x ≠ "__name__" := by decide) (hd : (x == ("__debug__" : Str)) = false := by decide) : wpAny (model X.prog X.w) X.A (eval (.Name x pos) X.env) Q E s := by
  obtain ⟨mb, h1, h2⟩ := I.mod.blt
  exact Calls.Name_function_global I.ok.kind hg (Calls.loadGlobal_builtin (by rw [I.ok.glob]; exact I.mod.glob.keeps I.bk) hm (by rw [I.ok.blt]; exact h1.keeps I.bk) ((h2 x hn).trans hv) h) hd
theorem pe_glob {x : Str} {v : V} {u : Value} {pos : Pos} (hg : Gl X x) (hm : X.mg x = some u) (r : RelV v u) (hd : (x == ("__debug__" : Str)) = false := by decide) : PE X (.Name x pos) (tC v) :=
  fun _ _ _ H _ I h => ld_glob I hg hm ⟨v, H, I, r, h⟩ hd
theorem pe_bltn {x : Str} {v : V} {u : Value} {pos : Pos} (hg : Gl X x) (hm : X.mg x = none) (hv : bootBuiltins x = some u) (r : RelV v u) (hn : x ≠ "__name__" := by decide) (hd : (x == ("__debug__" : Str)) = false := by decide) : PE X (.Name x pos) (tC v) :=
  fun _ _ _ H _ I h => ld_blt I hg hm hv ⟨v, H, I, r, h⟩ hn hd
variable {a b : Expr} {ta tb : TE} {pos : Pos}
def tB (t : TE) : TT := fun σ H Q => t σ H fun x H1 => ∃ c, x = .bl c ∧ Q c H1
theorem pt_val {e : Expr} {t : TE} (h : PE X e t) (he : ∀ whole, isTrue e X.env whole = (do let v ← whole; standAt e.pos; holding [v] (truthy v)) := by intro _; rfl) : PT X e (tB t) := by
  intro pins s σ H Q I hw
  refine isTrue_plain (thn (h pins s σ H _ I hw) fun v s1 ⟨x, H1, I1, r1, q1⟩ => ?_) (he _)
  obtain ⟨d, rfl, q⟩ := q1
  cases r1
  exact wpAny_truthy_bool ⟨H1, I1, q⟩
variable {tA tB' : TT} {rest : List Expr}
def tAnd (t u : TT) : TT := fun σ H Q => t σ H fun c H1 => if c = true then u σ H1 Q else Q false H1
def tOr (t u : TT) : TT := fun σ H Q => t σ H fun c H1 => if c = true then Q true H1 else u σ H1 Q
def tNot (t : TT) : TT := fun σ H Q => t σ H fun c H1 => Q (!c) H1
theorem pw_and1 (ha : PT X a tA) : PW X (.BoolOp .And [a] pos) tA := by
  intro wh pins s σ H Q I h
  refine isTrue_and (thn (ha pins s σ H Q I h) fun c s1 e => ?_)
  cases c with
  | true => exact isTrue_and_nil e
  | false => exact e
theorem pw_or1 (ha : PT X a tA) : PW X (.BoolOp .Or [a] pos) tA := by
  intro wh pins s σ H Q I h
  refine isTrue_or (thn (ha pins s σ H Q I h) fun c s1 e => ?_)
  cases c with
  | false => exact isTrue_or_nil e
  | true => exact e
theorem pw_and (ha : PT X a tA) (hb : PW X (.BoolOp .And (b :: rest) pos) tB') : PW X (.BoolOp .And (a :: b :: rest) pos) (tAnd tA tB') := by
  intro wh pins s σ H Q I h
  refine isTrue_and (thn (ha pins s σ H _ I h) fun c s1 ⟨H1, I1, q1⟩ => ?_)
  cases c with
  | true => exact hb wh pins s1 σ H1 Q I1 q1
  | false => exact ⟨H1, I1, q1⟩
theorem pw_or (ha : PT X a tA) (hb : PW X (.BoolOp .Or (b :: rest) pos) tB') : PW X (.BoolOp .Or (a :: b :: rest) pos) (tOr tA tB') := by
  intro wh pins s σ H Q I h
  refine isTrue_or (thn (ha pins s σ H _ I h) fun c s1 ⟨H1, I1, q1⟩ => ?_)
  cases c with
  | true => exact ⟨H1, I1, q1⟩
  | false => exact hb wh pins s1 σ H1 Q I1 q1
theorem pt_not (ha : PT X a tA) : PT X (.UnaryOp .Not a pos) (tNot tA) := by
  intro pins s σ H Q I h
  exact isTrue_not (ha pins s σ H (fun c H1 => Q (!c) H1) I h)
def tAndV (ta tb : TE) : TE := fun σ H Q => ta σ H fun x H1 => ∃ c, x = .bl c ∧ if c = true then tb σ H1 Q else Q (.bl false) H1
def tOrV (ta tb : TE) : TE := fun σ H Q => ta σ H fun x H1 => ∃ c, x = .bl c ∧ if c = true then Q (.bl true) H1 else tb σ H1 Q
def tNotV (ta : TE) : TE := fun σ H Q => ta σ H fun x H1 => ∃ c, x = .bl c ∧ Q (.bl (!c)) H1
theorem pe_one {op} {t : TE} (h : PE X a t) : PE X (.BoolOp op [a] pos) t := fun pins s σ H Q I hw => BoolOp_one (h pins s σ H Q I hw)
theorem pe_and (ha : PE X a ta) (hb : PE X (.BoolOp .And (b :: rest) pos) tb) : PE X (.BoolOp .And (a :: b :: rest) pos) (tAndV ta tb) := by
  intro pins s σ H Q I h
  refine BoolOp_and (thn (ha pins s σ H _ I h) fun v s1 ⟨x, H1, I1, r1, q1⟩ => ?_)
  obtain ⟨c, rfl, q1⟩ := q1
  cases r1
  refine wpAny_truthy_bool ?_
  cases c with
  | true => exact hb pins s1 σ H1 Q I1 q1
  | false => exact ⟨.bl false, H1, I1, rfl, q1⟩
theorem pe_or (ha : PE X a ta) (hb : PE X (.BoolOp .Or (b :: rest) pos) tb) : PE X (.BoolOp .Or (a :: b :: rest) pos) (tOrV ta tb) := by
  intro pins s σ H Q I h
  refine BoolOp_or (thn (ha pins s σ H _ I h) fun v s1 ⟨x, H1, I1, r1, q1⟩ => ?_)
  obtain ⟨c, rfl, q1⟩ := q1
  cases r1
  refine wpAny_truthy_bool ?_
  cases c with
  | false => exact hb pins s1 σ H1 Q I1 q1
  | true => exact ⟨.bl true, H1, I1, rfl, q1⟩
theorem pe_not (ha : PE X a ta) : PE X (.UnaryOp .Not a pos) (tNotV ta) := by
  intro pins s σ H Q I h
  refine UnaryOp_ (thn (ha pins s σ H _ I h) fun v s1 ⟨x, H1, I1, r1, q1⟩ => ?_)
  obtain ⟨c, rfl, q1⟩ := q1
  cases r1
  exact not_of (wpAny_truthy_bool ⟨.bl (!c), H1, I1, rfl, q1⟩)
end
end L2
namespace L2
open PySem PySem.Spec PyProof.Rows
def SqL (K : PySem.W.Frag) (H : Hp) (a : Addr) (xs : List V) : Prop :=
  Rd H a (.lst xs) ∨
    ∃ (o : Obj) (its : Array Value) (n : Nat), K.lookup a = some o ∧ o.cls = .type "list" ∧ o.dict = none ∧ o.data = .seq its n ∧ its.size ≤ sizeLine ∧ Vals xs its.toList
def SqT (K : PySem.W.Frag) (H : Hp) (a : Addr) (xs : List V) : Prop :=
  Rd H a (.tup xs) ∨
    ∃ (o : Obj) (its : Array Value) (n : Nat), K.lookup a = some o ∧ o.cls = .type "tuple" ∧ o.data = .seq its n ∧ its.size ≤ sizeLine ∧ Vals xs its.toList
def absV : Value → Option V
  | .none => some .non
  | .bool b => some (.bl b)
  | .int i _ => some (.int i)
  | .str x _ => some (.str x)
  | .bytes b _ => some (.byt b)
  | .float b _ => some (.flt b)
  | .ref a => some (.ref a)
  | .type n => some (.ty n)
  | _ => none
theorem RelV.abs {x : V} {u : Value} (r : RelV x u) : absV u = some x := by
  cases x with
  | non => cases r; rfl
  | bl _ => cases r; rfl
  | int _ => obtain ⟨t, rfl⟩ := r; rfl
  | str _ => obtain ⟨t, rfl⟩ := r; rfl
  | byt _ => obtain ⟨t, rfl⟩ := r; rfl
  | flt _ => obtain ⟨t, rfl⟩ := r; rfl
  | ref _ => cases r; rfl
  | ty _ => cases r; rfl
theorem RelV.inj {x y : V} {u : Value} (r : RelV x u) (q : RelV y u) : x = y := Option.some.inj (r.abs.symm.trans q.abs)
theorem Vals.inj : ∀ {xs ys : List V} {us : List Value}, Vals xs us → Vals ys us → xs = ys
  | _, _, _, .nil, .nil => rfl
  | _, _, _, .cons r t, .cons r' t' => by rw [r.inj r', Vals.inj t t']
section
variable {X : Cx} {pins : List (Addr × Obj)} {σ : St} {H : Hp} {s : Shared} {a : Addr} {xs ys : List V}
theorem SqL.of {K : PySem.W.Frag} (h : H a = some (.lst xs)) : SqL K H a xs := .inl (.inl h)
theorem SqT.of {K : PySem.W.Frag} (h : H a = some (.tup xs)) : SqT K H a xs := .inl (.inl h)
theorem Inv.list (I : Inv X pins σ H s) (h : SqL X.K H a xs) : ∃ its : List Value, Vals xs its ∧ PlainL s.heap a its.toArray ∧ xs.length ≤ sizeLine := by
  rcases h with h | ⟨o, its, n, hk, hc, hd, hs, hz, r⟩
  · obtain ⟨z, its, n, r, e⟩ := h.ok I.hok
    exact ⟨its, r, ⟨_, n, e, rfl, rfl, rfl⟩, z⟩
  · refine ⟨its.toList, r, ⟨o, n, I.kIn a o hk, hc, hd, by simpa using hs⟩, ?_⟩
    have e := r.length
    simp only [Array.length_toList] at e
    omega
theorem Inv.tuple (I : Inv X pins σ H s) (h : SqT X.K H a xs) : ∃ its : List Value, Vals xs its ∧ IsTup s.heap a its.toArray ∧ xs.length ≤ sizeLine := by
  rcases h with h | ⟨o, its, n, hk, hc, hs, hz, r⟩
  · obtain ⟨z, its, r, p⟩ := h.ok I.hok
    exact ⟨its, r, p, z⟩
  · refine ⟨its.toList, r, ⟨o, I.kIn a o hk, hc, n, by simpa using hs⟩, ?_⟩
    have e := r.length
    simp only [Array.length_toList] at e
    omega
theorem Inv.list_inj (I : Inv X pins σ H s) (h : SqL X.K H a xs) (h' : SqL X.K H a ys) : xs = ys := by
  obtain ⟨its, r, ⟨o, n, e, _, _, d⟩, _⟩ := I.list h
  obtain ⟨its', r', ⟨o', n', e', _, _, d'⟩, _⟩ := I.list h'
  rw [e] at e'; cases e'
  rw [d] at d'
  injection d' with d1 _
  have : its = its' := by simpa using congrArg Array.toList d1
  subst this
  exact r.inj r'
theorem Inv.tuple_inj (I : Inv X pins σ H s) (h : SqT X.K H a xs) (h' : SqT X.K H a ys) : xs = ys := by
  obtain ⟨its, r, ⟨o, e, _, n, d⟩, _⟩ := I.tuple h
  obtain ⟨its', r', ⟨o', e', _, n', d'⟩, _⟩ := I.tuple h'
  rw [e] at e'; cases e'
  rw [d] at d'
  injection d' with d1 _
  have : its = its' := by simpa using congrArg Array.toList d1
  subst this
  exact r.inj r'
end
abbrev Cx.wish (X : Cx) (E : Value → Shared → Prop) : Cx := { X with xe := E }
abbrev Cx.nox (X : Cx) : Cx := X.wish fun _ _ => False
theorem Cx.Ok.wish {X : Cx} (ok : X.Ok) (E : Value → Shared → Prop) : (X.wish E).Ok :=
  ⟨ok.mod, ok.kind, ok.glob, ok.blt, ok.above, ok.inj, ok.has, ok.cab, ok.hd, ok.frames, ok.stk, ok.exf, ok.bs, ok.bsz, ok.noex, ok.exfs, ok.funs, ok.frf⟩
theorem Cx.Ok.unwish {X : Cx} {E : Value → Shared → Prop} (ok : (X.wish E).Ok) : X.Ok :=
  ⟨ok.mod, ok.kind, ok.glob, ok.blt, ok.above, ok.inj, ok.has, ok.cab, ok.hd, ok.frames, ok.stk, ok.exf, ok.bs, ok.bsz, ok.noex, ok.exfs, ok.funs, ok.frf⟩
section
variable {X : Cx} {pins : List (Addr × Obj)} {σ : St} {H : Hp} {s : Shared} {E : Value → Shared → Prop}
theorem Inv.wish (I : Inv X pins σ H s) (E : Value → Shared → Prop) : Inv (X.wish E) pins σ H s := ⟨I.ok.wish E, I.os, I.bare, I.base, I.loc, I.cell, I.free, I.freeC, I.pin, I.hok, I.len⟩
theorem Inv.unwish (I : Inv (X.wish E) pins σ H s) : Inv X pins σ H s := ⟨I.ok.unwish, I.os, I.bare, I.base, I.loc, I.cell, I.free, I.freeC, I.pin, I.hok, I.len⟩
theorem SP.unwish {D : Ends} {f : Flow} {s' : Shared} (h : SP (X.wish E) pins D f s') : SP X pins D f s' := by
  cases f with
  | next => obtain ⟨σ', H', I, q⟩ := h; exact ⟨σ', H', I.unwish, q⟩
  | brk => obtain ⟨σ', H', I, q⟩ := h; exact ⟨σ', H', I.unwish, q⟩
  | cont => obtain ⟨σ', H', I, q⟩ := h; exact ⟨σ', H', I.unwish, q⟩
  | ret u => obtain ⟨v, σ', H', I, r, q⟩ := h; exact ⟨v, σ', H', I.unwish, r, q⟩
theorem PSs.nox {st : List Stmt} {t : TS} (h : PSs X.nox st t) : PSs X st t := fun pins s σ H D I hw =>
  wpAny_mono (h pins s σ H D (I.wish _) hw) (fun _ _ q => q.unwish) fun _ _ z => False.elim z
end
section
variable {X : Cx} {st : Stmt} {rest : List Stmt} {t u : TS} {e : Expr} {te : TE} {pos : Pos}
def tNext : TS := fun D σ H => D.nx σ H
def tSeq (t u : TS) : TS := fun D σ H => t { D with nx := u D } σ H
theorem pss_nil : PSs X [] tNext := fun _ _ σ H _ I h => wpAny_execs_nil ⟨σ, H, I, h⟩
theorem pss_cons (h1 : PS X st t) (h2 : PSs X rest u) : PSs X (st :: rest) (tSeq t u) := by
  intro pins s σ H D I h
  refine wpAny_execs_cons (thn (h1 pins s σ H { D with nx := u D } I h) fun f s1 q => ?_)
  cases f with
  | next =>
    obtain ⟨σ', H', I', q⟩ := q
    exact h2 pins s1 σ' H' D I' q
  | ret v => exact q
  | brk => exact q
  | cont => exact q
theorem pss_one (h1 : PS X st t) : PSs X [st] t := by
  intro pins s σ H D I h
  refine wpAny_execs_cons (thn (h1 pins s σ H D I h) fun f s1 q => ?_)
  cases f with
  | next => exact wpAny_execs_nil q
  | ret v => exact q
  | brk => exact q
  | cont => exact q
theorem Inv.quiet {pins : List (Addr × Obj)} {σ : St} {H : Hp} {s : Shared} (I : Inv X pins σ H s) : interactive X.env = false := by simp [interactive, I.ok.kind]
def tDrop (te : TE) : TS := fun D σ H => te σ H fun _ H1 => D.nx σ H1
theorem ps_expr (he : PE X e te) (hs : swapsWith e none pos.line X.env = pure false := by rfl) : PS X (.Expr e pos) (tDrop te) := by
  intro pins s σ H D I h
  exact wpAny_Expr_any (thn (he pins s σ H _ I h) fun v s1 ⟨x, H1, I1, r1, q1⟩ => ⟨σ, H1, I1, q1⟩) I.quiet hs
def tRet (te : TE) : TS := fun D σ H => te σ H D.rt
theorem ps_ret (he : PE X e te) : PS X (.Return (some e) pos) (tRet te) := by
  intro pins s σ H D I h
  exact wpAny_Return_some (thn (he pins s σ H _ I h) fun v s1 ⟨x, H1, I1, r1, q1⟩ => ⟨x, σ, H1, I1, r1, q1⟩)
def tIfS (c : TT) (t u : TS) : TS := fun D σ H => c σ H fun b H1 => if b = true then t D σ H1 else u D σ H1
theorem ps_if {c : Expr} {a b : List Stmt} {tc : TT} (hc : PT X c tc) (ha : PSs X a t) (hb : PSs X b u) : PS X (.If c a b pos) (tIfS tc t u) := by
  intro pins s σ H D I h
  refine wpAny_If (thn (hc pins s σ H _ I h) fun d s1 ⟨H1, I1, q1⟩ => ?_)
  cases d with
  | true => exact ha pins s1 σ H1 D I1 q1
  | false => exact hb pins s1 σ H1 D I1 q1
def tNever : TS := fun _ _ _ => False
theorem pss_never {sts : List Stmt} : PSs X sts tNever := fun _ _ _ _ _ _ h => h.elim
end
abbrev TG := V → St → Hp → (St → Hp → Prop) → Prop
abbrev TGs := List V → St → Hp → (St → Hp → Prop) → Prop
def PG (X : Cx) (target : Expr) (t : TG) : Prop :=
  ∀ (pins : List (Addr × Obj)) (s : Shared) (σ : St) (H : Hp) (v : V) (u : Value) (Q : St → Hp → Prop), Inv X pins σ H s → RelV v u → t v σ H Q →
    wpAny (model X.prog X.w) X.A (assign target X.env u) (fun _ s' => ∃ σ' H', Inv X pins σ' H' s' ∧ Q σ' H') X.xe s
def PGs (X : Cx) (ts : List Expr) (t : TGs) : Prop :=
  ∀ (pins : List (Addr × Obj)) (s : Shared) (σ : St) (H : Hp) (vs : List V) (us : List Value) (Q : St → Hp → Prop), Inv X pins σ H s → Vals vs us → t vs σ H Q →
    wpAny (model X.prog X.w) X.A (assignInOrder ((assignEach ts X.env).map (·.2)) us) (fun _ s' => ∃ σ' H', Inv X pins σ' H' s' ∧ Q σ' H') X.xe s
abbrev TSet := V → V → V → Hp → (Hp → Prop) → Prop
def PSet (X : Cx) (t : TSet) : Prop :=
  ∀ (pins : List (Addr × Obj)) (s : Shared) (σ : St) (H : Hp) (o i v : V) (ov iv u : Value) (Q : Hp → Prop), Inv X pins σ H s → RelV o ov → RelV i iv → RelV v u → t o i v H Q →
    wpAny (model X.prog X.w) X.A (setItem ov iv u) (fun _ s' => ∃ H', Inv X pins σ H' s' ∧ Q H') X.xe s
section
variable {X : Cx} {pos : Pos}
def gName (i : Nat) : TG := fun v σ H Q => Q (σ.set i (some v)) H
theorem pg_name {i : Nat} {x : Str} (hN : X.N.Nodup) (hi : X.N[i]? = some x) (hx : Loc X.env.scope x) (hf : X.fn x = true ∨ X.env.scope.names.lookup x = some .local := by first | exact .inl rfl | exact .inr rfl | assumption) : PG X (.Name x pos) (gName i) := by
  intro pins s σ H v u Q I r h
  exact wpAny_assign_Name (store_ok I hN hi hx r (fun s' I' => ⟨_, H, I', h⟩) hf)
def gNil : TGs := fun vs σ H Q => vs = [] ∧ Q σ H
def gCons (t : TG) (u : TGs) : TGs := fun vs σ H Q => ∃ v r, vs = v :: r ∧ t v σ H fun σ' H' => u r σ' H' Q
theorem pgs_nil : PGs X [] gNil := by
  intro pins s σ H vs us Q I r h
  obtain ⟨e, h⟩ := h
  subst e
  cases r
  exact assignInOrder_nil ⟨σ, H, I, h⟩
theorem pgs_cons {e : Expr} {es : List Expr} {t : TG} {u : TGs} (h1 : PG X e t) (h2 : PGs X es u)
    (hs : (assignEach (e :: es) X.env).map (·.2) = assign e X.env :: (assignEach es X.env).map (·.2) := by rfl) : PGs X (e :: es) (gCons t u) := by
  intro pins s σ H vs us Q I r h
  obtain ⟨v, vr, e1, h⟩ := h
  subst e1
  cases r with
  | cons r rr =>
    rw [hs]
    refine assignInOrder_cons (thn (h1 pins s σ H _ _ _ I r h) fun _ s1 ⟨σ1, H1, I1, q1⟩ => ?_)
    exact h2 pins s1 σ1 H1 _ _ Q I1 rr q1
def gTup (K : PySem.W.Frag) (n : Nat) (t : TGs) : TG := fun v σ H Q => ∃ a xs, v = .ref a ∧ SqT K H a xs ∧ xs.length = n ∧ t xs σ H Q
theorem pg_tup {es : List Expr} {k : Nat} {t : TGs} {n : Nat} (hc : X.calm = true) (h : PGs X es t)
    (hn : (assignEach es X.env).length = n := by rfl) (hst : (assignEach es X.env).findIdx? (·.1) = none := by rfl) : PG X (.Tuple es k pos) (gTup X.K n t) := by
  intro pins s σ H v u Q I r hw
  obtain ⟨a, xs, e1, hq, hl, hw⟩ := hw
  subst e1
  cases r
  obtain ⟨its, rv, ht, hz⟩ := I.tuple hq
  refine assign_Tuple_tuple (I.ok.hd hc) ht (by simp [hn, ← hl, rv.length]) hst fun h' hx => ?_
  have I1 : Inv X pins σ H { s with heap := h' } := I.kept (t' := s.toks) fun b o e => hx b o (Nat.ne_of_lt (Heap.lt_size e)) e
  exact h pins _ σ H xs _ Q I1 (by simpa using rv) hw
def gSub (to ti : TE) (t : TSet) : TG := fun v σ H Q => to σ H fun o H1 => ti σ H1 fun i H2 => t o i v H2 fun H3 => Q σ H3
theorem pg_sub {o i : Expr} {to ti : TE} {t : TSet} (ho : PE X o to) (hi : PE X i ti) (hs : PSet X t)
    (ha : ∀ v, assign (.Subscript o i pos) X.env v = (do
      let ov ← holding [v] (eval o X.env)
      let iv ← holding [v, ov] (eval i X.env)
      standAt pos
      holding [v, ov, iv] (setItem ov iv v)
      release [v, ov, iv] []) := by intro _; rfl) : PG X (.Subscript o i pos) (gSub to ti t) := by
  intro pins s σ H v u Q I r h
  rw [ha]
  refine wpAny_bind (wpAny_holding (thn (ho pins s σ H _ I h) fun ov s1 ⟨x, H1, I1, r1, q1⟩ => ?_))
  refine wpAny_bind (wpAny_holding (thn (hi pins s1 σ H1 _ I1 q1) fun iv s2 ⟨y, H2, I2, r2, q2⟩ => ?_))
  refine wpAny_bind (wpAny_standAt (wpAny_bind (wpAny_holding (thn (hs pins s2 σ H2 x y v ov iv u _ I2 r1 r2 r q2) fun _ s3 ⟨H3, I3, q3⟩ => ?_))))
  exact wpAny_release ⟨σ, H3, I3, q3⟩
def tAsg (te : TE) (g : TG) : TS := fun D σ H => te σ H fun x H1 => g x σ H1 D.nx
theorem ps_asg {tg e : Expr} {te : TE} {g : TG} (he : PE X e te) (hg : PG X tg g) (hs : swapsWithSole [tg] e pos.line X.env = pure false := by rfl) (hw : swappedStores [tg] e X.env = pure none := by rfl)
    (h1 : (assignEach [tg] X.env).map (·.2) = [assign tg X.env] := by rfl) : PS X (.Assign [tg] e pos) (tAsg te g) := by
  intro pins s σ H D I h
  refine wpAny_Assign_stores (thn (he pins s σ H _ I h) fun v s1 ⟨x, H1, I1, r1, q1⟩ => ?_) hs hw
  rw [h1]
  exact thn (hg pins s1 σ H1 x v _ I1 r1 q1) fun _ s2 q => q
theorem ps_set {i : Nat} {x : Str} {e : Expr} {te : TE} {pos' : Pos} (hN : X.N.Nodup) (hi : X.N[i]? = some x) (hx : Loc X.env.scope x) (he : PE X e te) (hs : swapsWith e (some (.Name x pos')) pos.line X.env = pure false := by rfl) (hf : X.fn x = true ∨ X.env.scope.names.lookup x = some .local := by first | exact .inl rfl | exact .inr rfl | assumption) :
    PS X (.Assign [.Name x pos'] e pos) (tAsg te (gName i)) := by
  intro pins s σ H D I h
  refine wpAny_Assign_Name (thn (he pins s σ H _ I h) fun v s1 ⟨y, H1, I1, r1, q1⟩ => ?_) hs
  exact store_ok I1 hN hi hx r1 (fun s2 I2 => ⟨_, H1, I2, q1⟩) hf
def tPar (i j : Nat) (ta : TA) : TS := fun D σ H => ta σ H fun vs H1 => ∃ v w, vs = [v, w] ∧ D.nx ((σ.set i (some v)).set j (some w)) H1
theorem ps_par {i j : Nat} {x y : Str} {a b : Expr} {ta : TA} {px py pt : Pos} {kt k2 pt2} (hc : X.calm = true) (hN : X.N.Nodup) (hi : X.N[i]? = some x) (hj : X.N[j]? = some y) (hij : i ≠ j)
    (hx : X.env.scope.names.lookup x = some .local) (hy : X.env.scope.names.lookup y = some .local) (ha : PA X [a, b] ta)
    (hw : swappedStores [.Tuple [.Name x px, .Name y py] kt pt] (.Tuple [a, b] k2 pt2) X.env = pure (some [x, y]))
    (hs : swapsWithSole [.Tuple [.Name x px, .Name y py] kt pt] (.Tuple [a, b] k2 pt2) pos.line X.env = pure false := by rfl) :
    PS X (.Assign [.Tuple [.Name x px, .Name y py] kt pt] (.Tuple [a, b] k2 pt2) pos) (tPar i j ta) := by
  intro pins s σ H D I h
  rw [exec_Assign_arm]
  refine wpAny_bind (wpAny_standAt ?_)
  rw [hs]
  refine wpAny_bind (wpAny_pure ?_)
  rw [if_neg (by decide)]
  refine wpAny_bind (Tuple_ (thn (ha _ pins s σ H _ I h) fun us s1 ⟨vs, H1, I1, r1, q1⟩ => ?_))
  obtain ⟨v, w, e1, q1⟩ := q1
  subst e1
  obtain ⟨u1, u2, rfl, rv, rw'⟩ : ∃ u1 u2, us = [u1, u2] ∧ RelV v u1 ∧ RelV w u2 := by
    cases r1 with
    | cons p q =>
      cases q with
      | cons p' q' =>
        cases q'
        exact ⟨_, _, rfl, p, p'⟩
  refine wpAny_newObj_type ?_ (by show 2 ≤ sizeLine; decide)
  have I2 : Inv X pins σ H1 { s1 with heap := s1.heap.push { cls := .type "tuple", data := .seq [u1, u2].toArray } } := I1.kept (t' := s1.toks) fun b o e => Heap.get?_push_of_some _ e
  rw [hw]
  refine wpAny_bind (wpAny_pure ?_)
  show wpAny (model X.prog X.w) X.A (do rule "assign.swapped-stores"; let items ← unpackItems (.ref s1.heap.objs.size) 2 none; assignInOrder [fun v => bindName X.env y v, fun v => bindName X.env x v] items.reverse; pure Flow.next) _ _ _
  refine wpAny_bind (wpAny_rule (wpAny_bind (unpackItems_tuple (items := #[u1, u2]) (I.ok.hd hc) (IsTup.new s1.heap _) fun h' hx' => ?_)))
  have I3 := I2.kept (h' := h') (t' := s1.toks) fun b o e => hx' b o (Nat.ne_of_lt (Heap.lt_size e)) e
  show wpAny _ _ (assignInOrder [fun v => bindName X.env y v, fun v => bindName X.env x v] [u2, u1] >>= fun _ => pure Flow.next) _ _ _
  refine wpAny_bind (assignInOrder_cons (wpAny_bindName (store_ok I3 hN hj (.inl hy) rw' (fun s2 I4 => ?_) (.inr hy))))
  refine assignInOrder_cons (wpAny_bindName (store_ok I4 hN hi (.inl hx) rv (fun s3 I5 => assignInOrder_nil (wpAny_pure ?_)) (.inr hx)))
  rw [List.set_comm _ _ (Ne.symm hij)] at I5
  exact ⟨_, H1, I5, q1⟩
end
section
variable {X : Cx} {pos : Pos}
def tWhile (c : TT) (tb : TS) : TS := fun D σ H => ∃ W : Nat → St → Hp → Prop, (∃ m, W m σ H) ∧ ∀ m σ H, W m σ H →
  c σ H fun b H1 => if b = true then ∃ N : St → Hp → Prop, (∀ σ' H', N σ' H' → ∃ m', m' < m ∧ W m' σ' H') ∧ tb { D with nx := N, ct := N, bk := D.nx } σ H1 else D.nx σ H1
theorem ps_while {c : Expr} {body : List Stmt} {tc : TT} {tb : TS} (hp : PassesOwn (model X.prog X.w) X.A X.env X.xe) (hc : PT X c tc) (hb : PSs X body tb) : PS X (.While c body [] pos) (tWhile tc tb) := by
  intro pins s σ H D I h
  obtain ⟨W, ⟨m0, w0⟩, turn⟩ := h
  refine wpAny_While (codeAny_whileLoop (fun n s' => ∃ σ' H', Inv X pins σ' H' s' ∧ W n σ' H') ?_ m0 ⟨σ, H, I, w0⟩)
  rintro n s1 ⟨σ1, H1, I1, w1⟩
  refine wpAny_passesOwn hp (thn (hc pins s1 σ1 H1 _ I1 (turn n σ1 H1 w1)) fun b s2 ⟨H2, I2, q2⟩ => ?_)
  cases b with
  | true =>
    obtain ⟨N, hN, q2⟩ := q2
    rw [if_pos rfl]
    refine wpAny_passesOwn hp (thn (hb pins s2 σ1 H2 _ I2 q2) fun f s3 q3 => ?_)
    cases f with
    | next =>
      obtain ⟨σ3, H3, I3, n3⟩ := q3
      obtain ⟨m', hm, w3⟩ := hN σ3 H3 n3
      exact ⟨m', hm, σ3, H3, I3, w3⟩
    | cont =>
      obtain ⟨σ3, H3, I3, n3⟩ := q3
      obtain ⟨m', hm, w3⟩ := hN σ3 H3 n3
      exact ⟨m', hm, σ3, H3, I3, w3⟩
    | brk => exact q3
    | ret v => exact q3
  | false =>
    rw [if_neg Bool.false_ne_true]
    exact wpAny_execs_nil ⟨σ1, H2, I2, q2⟩
end
structure It where
  go : Nat → Hp → Prop
  yld : Nat → Hp → V → Hp → Prop
  stop : Nat → Hp → Prop
def FpOk (X : Cx) (pins : List (Addr × Obj)) (H : Hp) (b : Addr) : Prop :=
  H b = none ∧ b ≠ X.env.locals ∧ b ∉ X.fs ∧ (b ∈ X.ex ∨ X.s₀.heap.objs.size ≤ b) ∧ (∀ x c, X.env.cells.lookup x = some c → c ≠ b) ∧ ∀ p ∈ X.pn ++ pins, p.1 ≠ b
theorem Inv.fpOk {X : Cx} {pins : List (Addr × Obj)} {σ : St} {H H' : Hp} {s : Shared} {b : Addr} (I : Inv X pins σ H s) (hb : s.heap.objs.size ≤ b) (hn : H' b = none) : FpOk X pins H' b := by
  refine ⟨hn, Nat.ne_of_gt (Nat.lt_of_lt_of_le I.lt hb), I.nofs hb, .inr (Nat.le_trans I.sz hb), fun x c e z => ?_, fun p hp z => ?_⟩
  · obtain ⟨v, q⟩ := I.cell x c e
    exact absurd (Nat.lt_of_lt_of_le q.lt (by rw [z]; exact hb)) (Nat.lt_irrefl _)
  · exact absurd (Nat.lt_of_lt_of_le (Heap.lt_size (I.pin p hp).1) (by rw [z]; exact hb)) (Nat.lt_irrefl _)
structure Turn (P : Program) (w : World) (K : PySem.W.Frag) (tg : Expr) (J : It) (fp : List Addr) (it : Addr) (tn : Nat → Heap → Prop) : Prop where
  mem : it ∈ fp
  obj : ∀ i h, tn i h → ∀ b ∈ fp, ∃ o, h.get? b = some o ∧ ∀ v, o.data ≠ .cell v
  keep : ∀ i h h', tn i h → (∀ b ∈ fp, ∀ o, h.get? b = some o → h'.get? b = some o) → tn i h'
  item : ∀ (X : Cx), X.prog = P → X.w = w → X.K = K → X.calm = true → ∀ (i : Nat) (pins : List (Addr × Obj)) (s : Shared) (σ : St) (H : Hp) (E : Value → Shared → Prop), Inv X pins σ H s → (∀ b ∈ fp, FpOk X pins H b) → tn i s.heap → J.go i H →
    wpAny (model P w) X.A (pyNext (.ref it)) (fun r s1 => ∃ u, r = some u ∧
      wpAny (model P w) X.A (letOwnedTupleGo tg (.ref it) u) (fun _ s2 => ∃ x H', Inv X pins σ H' s2 ∧ RelV x u ∧ J.yld i H x H' ∧ tn (i + 1) s2.heap ∧ ∀ b ∈ fp, H' b = none) E s1) E s
  done : ∀ (X : Cx), X.prog = P → X.w = w → X.K = K → X.calm = true → ∀ (i : Nat) (pins : List (Addr × Obj)) (s : Shared) (σ : St) (H : Hp) (E : Value → Shared → Prop), Inv X pins σ H s → (∀ b ∈ fp, FpOk X pins H b) → tn i s.heap → J.stop i H →
    wpAny (model P w) X.A (pyNext (.ref it)) (fun r s1 => r = none ∧ Inv X pins σ H s1) E s
  self : ∀ (A : Around) (i : Nat) (s : Shared) (Q : Value → Shared → Prop) (E : Value → Shared → Prop), tn i s.heap → Q (.ref it) s → wpAny (model P w) A (pyIter (.ref it)) Q E s
abbrev TI := St → Hp → (It → Hp → Prop) → Prop
def PIE (X : Cx) (pins : List (Addr × Obj)) (σ : St) (tg : Expr) (R : It → Hp → Prop) (itv : Value) (s2 : Shared) : Prop :=
  ∃ (it : Addr) (fp : List Addr) (tn : Nat → Heap → Prop) (J : It) (H' : Hp), itv = .ref it ∧ Inv X pins σ H' s2 ∧ Turn X.prog X.w X.K tg J fp it tn ∧ tn 0 s2.heap ∧ (∀ b ∈ fp, FpOk X pins H' b) ∧ R J H'
def PI (X : Cx) (tg iter : Expr) (wi : TI) : Prop :=
  ∀ (pins : List (Addr × Obj)) (s : Shared) (σ : St) (H : Hp) (R : It → Hp → Prop), Inv X pins σ H s → wi σ H R →
    wpAny (model X.prog X.w) X.A (eval iter X.env) (fun v s1 => wpAny (model X.prog X.w) X.A (pyIter v) (PIE X pins σ tg R) X.xe s1) X.xe s
theorem go_of {M : Model} {A : Around} {E : Value → Shared → Prop} {s : Shared} {tg : Expr} {it : Addr} {u : Value} {o : Obj} {n : String} {vs : Array Value} {Q : Unit → Shared → Prop} (ho : s.heap.get? it = some o) (hc : o.cls = .type n) (hd : o.data = .fields vs)
    (hn : ["enumerate", "zip", "dict_itemiterator", "dict_reverseitemiterator", "odict_iterator", "itertools.zip_longest", "itertools.pairwise"].contains n = false) (hQ : Q () s) : wpAny M A (letOwnedTupleGo tg (.ref it) u) Q E s := by
  unfold letOwnedTupleGo
  cases tg <;> first
    | exact wpAny_pure hQ
    | (cases u <;> first
        | exact wpAny_pure hQ
        | (refine wpAny_bind (wpAny_load ho ?_)
           rw [hc, hd]
           show wpAny M A (if (["enumerate", "zip", "dict_itemiterator", "dict_reverseitemiterator", "odict_iterator", "itertools.zip_longest", "itertools.pairwise"].contains n && vs[0]? == some (rawInt _)) = true then _ else _) Q E s
           rw [if_neg (by intro h; rw [hn, Bool.false_and] at h; cases h)]
           exact wpAny_pure hQ))
def Itl (K : PySem.W.Frag) (a : Addr) : It :=
  ⟨fun i H => ∃ xs x, SqL K H a xs ∧ xs[i]? = some x, fun i H x H' => H' = H ∧ ∀ xs, SqL K H a xs → xs[i]? = some x, fun i H => ∃ xs, SqL K H a xs ∧ xs.length ≤ i⟩
def Itr (lo : Int) (n : Nat) : It := ⟨fun i _ => i < n, fun i H x H' => H' = H ∧ x = .int (lo + i), fun i _ => n ≤ i⟩
theorem turn_list {P : Program} {w : World} {K : PySem.W.Frag} {tg : Expr} (a it : Addr) : Turn P w K tg (Itl K a) [it] it (fun i h => h.IsListIter it a i) where
  mem := by simp
  obj := fun i h st b hb => by
    have e : b = it := by simpa using hb
    subst e
    obtain ⟨o, e, c, d⟩ := st
    exact ⟨o, e, fun v z => by rw [d] at z; cases z⟩
  keep := fun i h h' st k => st.at fun o e => k it (by simp) o e
  item := by
    intro X hP hw hK hc i pins s σ H E I hf st hg
    subst hP hw hK
    obtain ⟨xs, x, hq, hx⟩ := hg
    obtain ⟨its, rv, p, hz⟩ := I.list hq
    obtain ⟨u, hu, ru⟩ := rv.get hx
    obtain ⟨f0, f1, f2, f3, f4, f5⟩ := hf it (by simp)
    refine wpAny_pyNext_list_item st p.isList (x := u) (by simpa using hu) fun h' st' sb => ?_
    have I1 : Inv X pins σ H { s with heap := h' } := I.turned (t' := s.toks) (fun b o hb e => (sb.2 b hb).trans e) f0 f1 f3 f4 f5
    obtain ⟨o, e, c, d⟩ := id st'
    exact ⟨u, rfl, go_of (s := { s with heap := h' }) e c d (by decide) ⟨x, H, I1, ru, ⟨rfl, fun ys hy => by rw [I.list_inj hy hq]; exact hx⟩, st', fun b hb => (hf b hb).1⟩⟩
  done := by
    intro X hP hw hK hc i pins s σ H E I hf st hg
    subst hP hw hK
    obtain ⟨xs, hq, hx⟩ := hg
    obtain ⟨its, rv, p, hz⟩ := I.list hq
    obtain ⟨f0, f1, f2, f3, f4, f5⟩ := hf it (by simp)
    have hl := rv.length
    exact wpAny_pyNext_list_end (I.ok.hd hc) st p.isList (by simp; omega) fun h' eb => ⟨rfl, I.turned (t' := s.toks) (fun b o hb e => eb b o hb e) f0 f1 f3 f4 f5⟩
  self := fun _ _ _ _ _ st h => wpAny_pyIter_listiter st h
theorem turn_range {P : Program} {w : World} {K : PySem.W.Frag} {tg : Expr} (it : Addr) (lo : Int) (n : Nat) : Turn P w K tg (Itr lo n) [it] it (fun i h => IsRangeIter h it (lo + (i : Nat) * 1) ((n : Int) - (i : Nat)) 1) where
  mem := by simp
  obj := fun i h st b hb => by
    have e : b = it := by simpa using hb
    subst e
    exact ⟨_, st, fun v z => by
      have z' : Data.fields _ = Data.cell v := z
      cases z'⟩
  keep := fun i h h' st k => k it (by simp) _ st
  item := by
    intro X hP hw hK hc i pins s σ H E I hf st hg
    subst hP hw hK
    obtain ⟨f0, f1, f2, f3, f4, f5⟩ := hf it (by simp)
    have W := Walks.range (prog := X.prog) (w := X.w) (I.ok.hd hc) it lo 1 n
    refine W.item i s _ _ hg st fun v h' tk hv st' kk => ?_
    obtain ⟨t, rfl⟩ := hv
    have I1 : Inv X pins σ H { s with heap := h', toks := tk } := I.turned (fun b o hb e => kk b o (by simpa using hb) e) f0 f1 f3 f4 f5
    refine ⟨_, rfl, go_of (s := { s with heap := h', toks := tk }) (n := "range_iterator") st' rfl rfl (by decide) ⟨.int (lo + i), H, I1, ⟨t, ?_⟩, ⟨rfl, rfl⟩, st', fun b hb => (hf b hb).1⟩⟩
    rw [Int.mul_one]
  done := by
    intro X hP hw hK hc i pins s σ H E I hf st hg
    subst hP hw hK
    obtain ⟨f0, f1, f2, f3, f4, f5⟩ := hf it (by simp)
    exact wpAny_pyNext_range_end (I.ok.hd hc) st (by have : n ≤ i := hg; omega) fun h' eb => ⟨rfl, I.turned (t' := s.toks) (fun b o hb e => eb b o hb e) f0 f1 f3 f4 f5⟩
  self := fun _ _ _ _ _ st h => wpAny_pyIter_rangeiter st h
end L2
namespace L2
open PySem PySem.Spec PyProof.Rows
section
variable {X : Cx} {tg : Expr}
def iList (K : PySem.W.Frag) (tl : TE) : TI := fun σ H R => tl σ H fun x H1 => ∃ a, x = .ref a ∧ (∃ xs, SqL K H1 a xs) ∧ R (Itl K a) H1
theorem pi_list {l : Expr} {tl : TE} (hl : PE X l tl) : PI X tg l (iList X.K tl) := by
  intro pins s σ H R I h
  refine thn (hl pins s σ H _ I h) fun v s1 ⟨x, H1, I1, r1, q1⟩ => ?_
  obtain ⟨a, e, ⟨xs, hq⟩, q⟩ := q1
  subst e
  cases r1
  obtain ⟨its, rv, p, hz⟩ := I1.list hq
  refine wpAny_pyIter_list p.isList ?_
  refine ⟨s1.heap.objs.size, [s1.heap.objs.size], _, _, H1, rfl, I1.kept (t' := s1.toks) fun b o e => Heap.get?_push_of_some _ e, turn_list a _, ⟨_, Heap.get?_push_size _ rfl, rfl, rfl⟩, fun b hb => ?_, q⟩
  have e : b = s1.heap.objs.size := by simpa using hb
  subst e
  exact I1.fpOk (Nat.le_refl _) (I1.hok.fresh (Nat.le_refl _))
theorem range_it {pins : List (Addr × Obj)} {σ : St} {H : Hp} {s : Shared} {R : It → Hp → Prop} {E : Value → Shared → Prop} {lo hi : Int} {t u v : Tok} {tk : Nat} (I : Inv X pins σ H s) (h1 : -(2 ^ 62) ≤ lo) (h2 : lo < 2 ^ 62) (h3 : -(2 ^ 62) ≤ hi) (h4 : hi < 2 ^ 62)
    (q : R (Itr lo (hi - lo).toNat) H) : wpAny (model X.prog X.w) X.A (pyIter (.ref s.heap.objs.size)) (PIE X pins σ tg R) E { s with heap := s.heap.push { cls := .type "range", data := .fields #[.int lo t, .int hi u, .int 1 v] }, toks := tk } := by
  refine wpAny_pyIter_range (IsRange.new ..) (small_one h1 h2 h3 h4) ?_
  have I1 : Inv X pins σ H { s with heap := s.heap.push { cls := .type "range", data := .fields #[.int lo t, .int hi u, .int 1 v] }, toks := tk } := I.kept fun b o e => Heap.get?_push_of_some _ e
  refine ⟨(s.heap.push { cls := .type "range", data := .fields #[.int lo t, .int hi u, .int 1 v] }).objs.size, [(s.heap.push { cls := .type "range", data := .fields #[.int lo t, .int hi u, .int 1 v] }).objs.size], _, _, H, rfl,
    I1.kept (t' := tk) fun b o e => Heap.get?_push_of_some _ e, turn_range _ lo (hi - lo).toNat, ?_, fun b hb => ?_, q⟩
  · have e1 : lo + ((0 : Nat) : Int) * 1 = lo := by simp
    have e2 : (((hi - lo).toNat : Nat) : Int) - ((0 : Nat) : Int) = Builtin.Range.rangeSize lo hi 1 := by rw [rangeSize_one]; split <;> omega
    show IsRangeIter _ _ (lo + ((0 : Nat) : Int) * 1) ((((hi - lo).toNat : Nat) : Int) - ((0 : Nat) : Int)) 1
    rw [e1, e2]
    exact Heap.get?_push_size _ rfl
  · have e : b = (s.heap.push { cls := .type "range", data := .fields #[.int lo t, .int hi u, .int 1 v] }).objs.size := by simpa using hb
    subst e
    exact I1.fpOk (Nat.le_refl _) (I1.hok.fresh (Nat.le_refl _))
def iRng1 (ta : TA) : TI := fun σ H R => ta σ H fun vs H1 => ∃ j : Int, vs = [.int j] ∧ -(2 ^ 62) ≤ j ∧ j < 2 ^ 62 ∧ R (Itr 0 j.toNat) H1
theorem pi_range1 {a : Expr} {ta : TA} {p pos : Pos} (hg : Gl X "range") (hm : X.mg "range" = none) (ha : PA X [a] ta) (hs : starEach [a] X.env = [(false, eval a X.env)] := by rfl) : PI X tg (.Call (.Name "range" p) [a] [] pos) (iRng1 ta) := by
  intro pins s σ H R I h
  refine Call_ (ld_blt I hg hm boot_range (PyProof.Rows.callWith_type1 (thn (ha pos pins s σ H _ I h) fun us s1 ⟨vs, H1, I1, r1, q1⟩ => ?_) hs rfl))
  obtain ⟨j, e, q1, q2, q⟩ := q1
  subst e
  cases r1 with
  | cons r rr =>
    cases rr
    obtain ⟨t, rfl⟩ := r
    exact call_range_1 (range_it I1 (by omega) (by omega) q1 q2 (by simpa using q))
def tFor (wi : TI) (g : TG) (tb : TS) : TS := fun D σ H => wi σ H fun J H1 => ∃ W : Nat → Nat → St → Hp → Prop, (∃ m, W 0 m σ H1) ∧ ∀ i m σ H, W i m σ H →
  (J.stop i H ∧ D.nx σ H) ∨ (J.go i H ∧ ∃ N : St → Hp → Prop, (∀ σ' H', N σ' H' → ∃ m', m' < m ∧ W (i + 1) m' σ' H') ∧ ∀ x H', J.yld i H x H' → g x σ H' fun σ2 H2 => tb { D with nx := N, ct := N, bk := D.nx } σ2 H2)
def pinsAt (fp : List Addr) (h : Heap) : List (Addr × Obj) := fp.filterMap fun b => (h.get? b).map fun o => (b, o)
theorem mem_pinsAt {fp : List Addr} {h : Heap} {b : Addr} {o : Obj} (hb : b ∈ fp) (e : h.get? b = some o) : (b, o) ∈ pinsAt fp h := List.mem_filterMap.mpr ⟨b, hb, by rw [e]; rfl⟩
theorem of_pinsAt {fp : List Addr} {h : Heap} {p : Addr × Obj} (hp : p ∈ pinsAt fp h) : p.1 ∈ fp ∧ h.get? p.1 = some p.2 := by
  obtain ⟨b, hb, e⟩ := List.mem_filterMap.mp hp
  cases q : h.get? b with
  | none => rw [q] at e; cases e
  | some o =>
    rw [q] at e
    have e' : (b, o) = p := Option.some.inj e
    subst e'
    exact ⟨hb, q⟩
theorem Inv.pinned {pins : List (Addr × Obj)} {σ : St} {H : Hp} {s : Shared} {fp : List Addr} (I : Inv X pins σ H s) (hf : ∀ b ∈ fp, FpOk X pins H b) (ho : ∀ b ∈ fp, ∃ o, s.heap.get? b = some o ∧ ∀ v, o.data ≠ .cell v) : Inv X (pins ++ pinsAt fp s.heap) σ H s :=
  I.pins_of fun p hp => (List.mem_append.mp hp).elim (fun z => I.pin p (List.mem_append_right _ z)) fun z => by
    obtain ⟨hb, e⟩ := of_pinsAt z
    obtain ⟨f0, f1, f2, _⟩ := hf p.1 hb
    obtain ⟨o, e', d⟩ := ho p.1 hb
    rw [e] at e'; cases e'
    exact ⟨e, f0, f1, f2, d⟩
theorem Inv.unpinned {pins pl : List (Addr × Obj)} {σ : St} {H : Hp} {s : Shared} (I : Inv X (pins ++ pl) σ H s) : Inv X pins σ H s := I.pins_of fun p hp => I.pin p (List.mem_append_right _ (List.mem_append_left _ hp))
theorem ps_for {iter : Expr} {body : List Stmt} {wi : TI} {g : TG} {tb : TS} {pos : Pos} (hp : PassesOwn (model X.prog X.w) X.A X.env X.xe) (hc : X.calm = true) (hi : PI X tg iter wi) (hg : PG X tg g) (hb : PSs X body tb)
    (hs : ∀ x, foldedSetIterable iter X.env x = pure x := by intro _; rfl) : PS X (.For tg iter body [] pos) (tFor wi g tb) := by
  intro pins s σ H D I h
  refine wpAny_For (thn (hi pins s σ H _ I h) fun v s1 h1 => thn h1 fun itv s2 h2 => ?_) hs
  obtain ⟨it, fp, tn, J, H2, e, I2, T, st2, f2, W, ⟨m0, w0⟩, turn⟩ := h2
  subst e
  have stat : ∀ {H' : Hp}, (∀ b ∈ fp, H' b = none) → ∀ b ∈ fp, FpOk X pins H' b := fun hn b hb => ⟨hn b hb, (f2 b hb).2⟩
  refine codeAny_forLoop_any (fun n s' => ∃ i σ' H', Inv X pins σ' H' s' ∧ tn i s'.heap ∧ (∀ b ∈ fp, H' b = none) ∧ W i n σ' H') ?_ m0 ⟨0, σ, H2, I2, st2, fun b hb => (f2 b hb).1, w0⟩
  rintro n s3 ⟨i, σ3, H3, I3, st3, fr3, w3⟩
  rcases turn i n σ3 H3 w3 with ⟨stop, qn⟩ | ⟨go, N, hN, step⟩
  · refine wpAny_passesOwn hp (thn (T.done X rfl rfl rfl hc i pins s3 σ3 H3 X.xe I3 (stat fr3) st3 stop) fun r s4 ⟨hr, I4⟩ => ?_)
    subst hr
    exact wpAny_execs_nil ⟨σ3, H3, I4, qn⟩
  · refine wpAny_passesOwn hp (thn (T.item X rfl rfl rfl hc i pins s3 σ3 H3 X.xe I3 (stat fr3) st3 go) fun r s4 ⟨u, hr, h4⟩ => ?_)
    subst hr
    refine wpAny_passesOwn hp (thn h4 fun _ s5 ⟨x, H5, I5, r5, y5, st5, fr5⟩ => ?_)
    have I5' := I5.pinned (stat fr5) (T.obj _ _ st5)
    refine wpAny_passesOwn hp (thn (hg _ s5 σ3 H5 x u _ I5' r5 (step x H5 y5)) fun _ s6 ⟨σ6, H6, I6, q6⟩ => ?_)
    refine wpAny_passesOwn hp (thn (hb _ s6 σ6 H6 _ I6 q6) fun f s7 q7 => ?_)
    have again : ∀ {σ7 : St} {H7 : Hp}, Inv X (pins ++ pinsAt fp s5.heap) σ7 H7 s7 → N σ7 H7 → ∃ m, m < n ∧ ∃ i σ' H', Inv X pins σ' H' s7 ∧ tn i s7.heap ∧ (∀ b ∈ fp, H' b = none) ∧ W i m σ' H' := fun {σ7 H7} I7 n7 => by
      obtain ⟨m', hm, w7⟩ := hN σ7 H7 n7
      refine ⟨m', hm, i + 1, σ7, H7, I7.unpinned, T.keep _ _ _ st5 fun b hb o e => (I7.pin (b, o) (List.mem_append_right _ (List.mem_append_right _ (mem_pinsAt hb e)))).1, fun b hb => ?_, w7⟩
      obtain ⟨o, e, d⟩ := T.obj _ _ st5 b hb
      exact (I7.pin (b, o) (List.mem_append_right _ (List.mem_append_right _ (mem_pinsAt hb e)))).2.1
    cases f with
    | next => obtain ⟨σ7, H7, I7, n7⟩ := q7; exact again I7 n7
    | cont => obtain ⟨σ7, H7, I7, n7⟩ := q7; exact again I7 n7
    | brk => obtain ⟨σ7, H7, I7, q7⟩ := q7; exact ⟨σ7, H7, I7.unpinned, q7⟩
    | ret v => obtain ⟨x7, σ7, H7, I7, r7, q7⟩ := q7; exact ⟨x7, σ7, H7, I7.unpinned, r7, q7⟩
end
end L2
namespace L2
open PySem PySem.Spec PyProof.Rows
abbrev R2 := V → V → Hp → VK → Prop
def OpR (X : Cx) (f : Value → Value → Sem Value) (r : R2) : Prop :=
  ∀ (pins : List (Addr × Obj)) (s : Shared) (σ : St) (H : Hp) (x y : V) (v u : Value) (Q : VK), Inv X pins σ H s → RelV x v → RelV y u → r x y H Q →
    wpAny (model X.prog X.w) X.A (f v u) (EP X pins σ Q) X.xe s
def UnR (X : Cx) (f : Value → Sem Value) (r : V → Hp → VK → Prop) : Prop :=
  ∀ (pins : List (Addr × Obj)) (s : Shared) (σ : St) (H : Hp) (x : V) (v : Value) (Q : VK), Inv X pins σ H s → RelV x v → r x H Q →
    wpAny (model X.prog X.w) X.A (f v) (EP X pins σ Q) X.xe s
def CallR (X : Cx) (f : Value) (r : List V → Hp → VK → Prop) : Prop :=
  ∀ (pins : List (Addr × Obj)) (s : Shared) (σ : St) (H : Hp) (xs : List V) (us : List Value) (Q : VK), Inv X pins σ H s → Vals xs us → r xs H Q →
    wpAny (model X.prog X.w) X.A (call f us) (EP X pins σ Q) X.xe s
def tOp (r : R2) (ta tb : TE) : TE := fun σ H Q => ta σ H fun x H1 => tb σ H1 fun y H2 => r x y H2 Q
def tUn (r : V → Hp → VK → Prop) (ta : TE) : TE := fun σ H Q => ta σ H fun x H1 => r x H1 Q
def rI (C : Int → Int → Prop) (g : Int → Int → V) : R2 := fun x y H Q => ∃ i j, x = .int i ∧ y = .int j ∧ C i j ∧ Q (g i j) H
def rI0 (g : Int → Int → V) : R2 := fun x y H Q => ∃ i j, x = .int i ∧ y = .int j ∧ Q (g i j) H
def rU (g : Int → V) : V → Hp → VK → Prop := fun x H Q => ∃ i, x = .int i ∧ Q (g i) H
section
variable {X : Cx} {a b c : Expr} {ta tb tc : TE} {pos : Pos}
theorem binT (ha : PE X a ta) (hb : PE X b tb) {pins : List (Addr × Obj)} {s : Shared} {σ : St} {H : Hp} {R : V → V → Hp → Prop} (I : Inv X pins σ H s)
    (h : ta σ H fun x H1 => tb σ H1 fun y H2 => R x y H2) {Q : Value → Shared → Prop} {f : Value → Value → Sem Value}
    (hf : ∀ v u s2 x y H2, Inv X pins σ H2 s2 → RelV x v → RelV y u → R x y H2 → wpAny (model X.prog X.w) X.A (f v u) Q X.xe s2) :
    wpAny (model X.prog X.w) X.A (eval a X.env) (fun v s₁ => wpAny (model X.prog X.w) X.A (eval b X.env) (fun u s₂ => wpAny (model X.prog X.w) X.A (f v u) Q X.xe s₂) X.xe s₁) X.xe s := by
  refine thn (ha pins s σ H _ I h) fun v s1 ⟨x, H1, I1, r1, q1⟩ => ?_
  refine thn (hb pins s1 σ H1 _ I1 q1) fun u s2 ⟨y, H2, I2, r2, q2⟩ => ?_
  exact hf v u s2 x y H2 I2 r1 r2 q2
theorem pe_op {op : Operator} {r : R2} (ho : OpR X (binaryOp op) r) (ha : PE X a ta) (hb : PE X b tb) : PE X (.BinOp a op b pos) (tOp r ta tb) := by
  intro pins s σ H Q I h
  exact wpAny_BinOp (binT ha hb I h fun v u s2 x y H2 I2 rx ry q => ho pins s2 σ H2 x y v u Q I2 rx ry q)
theorem pe_un {op : UnaryOp} {r : V → Hp → VK → Prop} (ho : UnR X (unaryOp op) r) (ha : PE X a ta) : PE X (.UnaryOp op a pos) (tUn r ta) := by
  intro pins s σ H Q I h
  exact UnaryOp_ (thn (ha pins s σ H _ I h) fun v s1 ⟨x, H1, I1, r1, q1⟩ => ho pins s1 σ H1 x v Q I1 r1 q1)
theorem opI {f : Value → Value → Sem Value} {C : Int → Int → Prop} {g : Int → Int → Int}
    (rule : ∀ (i j : Int) (t u : Tok) (s : Shared) (Q : Value → Shared → Prop) (E : Value → Shared → Prop), C i j → Q (.int (g i j) s.toks) { s with toks := s.toks + 1 } → wpAny (model X.prog X.w) X.A (f (.int i t) (.int j u)) Q E s) :
    OpR X f (rI C fun i j => .int (g i j)) := by
  intro pins s σ H x y v u Q I rx ry h
  obtain ⟨i, j, rfl, rfl, hc, q⟩ := h
  obtain ⟨t, rfl⟩ := rx
  obtain ⟨t', rfl⟩ := ry
  exact rule i j t t' s _ _ hc ⟨.int (g i j), H, I.tok _, ⟨_, rfl⟩, q⟩
theorem opI0 {f : Value → Value → Sem Value} {g : Int → Int → Int}
    (rule : ∀ (i j : Int) (t u : Tok) (s : Shared) (Q : Value → Shared → Prop) (E : Value → Shared → Prop), Q (.int (g i j) s.toks) { s with toks := s.toks + 1 } → wpAny (model X.prog X.w) X.A (f (.int i t) (.int j u)) Q E s) :
    OpR X f (rI0 fun i j => .int (g i j)) := by
  intro pins s σ H x y v u Q I rx ry h
  obtain ⟨i, j, rfl, rfl, q⟩ := h
  obtain ⟨t, rfl⟩ := rx
  obtain ⟨t', rfl⟩ := ry
  exact rule i j t t' s _ _ ⟨.int (g i j), H, I.tok _, ⟨_, rfl⟩, q⟩
theorem opB0 {f : Value → Value → Sem Value} {g : Int → Int → Bool}
    (rule : ∀ (i j : Int) (t u : Tok) (s : Shared) (Q : Value → Shared → Prop) (E : Value → Shared → Prop), Q (.bool (g i j)) s → wpAny (model X.prog X.w) X.A (f (.int i t) (.int j u)) Q E s) :
    OpR X f (rI0 fun i j => .bl (g i j)) := by
  intro pins s σ H x y v u Q I rx ry h
  obtain ⟨i, j, rfl, rfl, q⟩ := h
  obtain ⟨t, rfl⟩ := rx
  obtain ⟨t', rfl⟩ := ry
  exact rule i j t t' s _ _ ⟨.bl (g i j), H, I, rfl, q⟩
def CPow (i j : Int) : Prop := 0 ≤ j ∧ j ≤ 1000000 ∧ i.natAbs < 2 ^ 64
def CMul (i j : Int) : Prop := (-(2 ^ 64) < i ∧ i < 2 ^ 64) ∨ (-(2 ^ 64) < j ∧ j < 2 ^ 64)
theorem CMul.ok {i j : Int} (h : CMul i j) : IntMulOk i j := by
  rcases h with ⟨h1, h2⟩ | ⟨h1, h2⟩
  · exact .of_left (intBits_le_64 h1 h2)
  · exact .of_right (intBits_le_64 h1 h2)
theorem op_add : OpR X (binaryOp .Add) (rI0 fun i j => .int (i + j)) := opI0 fun _ _ _ _ _ _ _ q => add_int q
theorem op_sub : OpR X (binaryOp .Sub) (rI0 fun i j => .int (i - j)) := opI0 fun _ _ _ _ _ _ _ q => sub_int q
theorem op_mul : OpR X (binaryOp .Mult) (rI CMul fun i j => .int (i * j)) := opI fun _ _ _ _ _ _ _ hc q => mul_int q hc.ok
theorem op_mod : OpR X (binaryOp .Mod) (rI (fun _ j => 0 < j) fun i j => .int (i % j)) := opI fun i j _ _ _ _ _ hc q => by
  have h1 : (0 : Int) < j := hc
  exact mod_int' (by omega) (by rw [Int.fmod_eq_emod_of_nonneg i (by omega)]; exact q)
theorem op_pow : OpR X (binaryOp .Pow) (rI CPow fun i j => .int (i ^ j.toNat)) := opI fun _ _ _ _ _ _ _ hc q => pow_int_small hc.1 hc.2.1 hc.2.2 q
theorem unI {f : Value → Sem Value} {g : Int → Int}
    (rule : ∀ (i : Int) (t : Tok) (s : Shared) (Q : Value → Shared → Prop) (E : Value → Shared → Prop), Q (.int (g i) s.toks) { s with toks := s.toks + 1 } → wpAny (model X.prog X.w) X.A (f (.int i t)) Q E s) :
    UnR X f (rU fun i => .int (g i)) := by
  intro pins s σ H x v Q I rx h
  obtain ⟨i, rfl, q⟩ := h
  obtain ⟨t, rfl⟩ := rx
  exact rule i t s _ _ ⟨.int (g i), H, I.tok _, ⟨_, rfl⟩, q⟩
theorem un_neg : UnR X (unaryOp .USub) (rU fun i => .int (-i)) := unI fun _ _ _ _ _ q => neg_int q
end
def scal : V → V → Bool
  | .non, .non => true | .non, .int _ => true | .int _, .non => true | .non, .bl _ => true | .bl _, .non => true | .non, .str _ => true | .str _, .non => true
  | .int _, .int _ => true | .bl _, .bl _ => true | .str _, .str _ => true | .byt _, .byt _ => true
  | .int _, .str _ => true | .str _, .int _ => true | .bl _, .str _ => true | .str _, .bl _ => true
  | _, _ => false
def rEq : R2 := fun x y H Q => scal x y = true ∧ Q (.bl (decide (x = y))) H
def rNe : R2 := fun x y H Q => scal x y = true ∧ Q (.bl (!decide (x = y))) H
theorem dec_int {i j : Int} : decide (V.int i = V.int j) = (i == j) := by
  rw [Bool.eq_iff_iff]
  simp
theorem dec_bl {i j : Bool} : decide (V.bl i = V.bl j) = (i == j) := by
  rw [Bool.eq_iff_iff]
  simp
theorem dec_str {i j : Str} : decide (V.str i = V.str j) = (i == j) := by
  rw [Bool.eq_iff_iff]
  simp
theorem dec_byt {i j : Array UInt8} : decide (V.byt i = V.byt j) = (i.toList == j.toList) := by
  rw [Bool.eq_iff_iff]
  cases i
  cases j
  simp
section
variable {X : Cx} {a b c : Expr} {ta tb tc : TE} {pos : Pos}
theorem fin_bl {pins : List (Addr × Obj)} {σ : St} {H : Hp} {s : Shared} {Q : VK} {k k' : Bool} (I : Inv X pins σ H s) (q : Q (.bl k) H) (e : k = k') : EP X pins σ Q (.bool k') s := by
  subst e
  exact ⟨.bl k, H, I, rfl, q⟩
theorem op_eq : OpR X (compareOp .Eq) rEq := by
  intro pins s σ H x y v u Q I rx ry h
  obtain ⟨hs, q⟩ := h
  cases x with
  | non =>
    cases rx
    cases y with
    | non => cases ry; exact PySem.EqNone.eq_none_none (fin_bl I q (by simp))
    | bl j => cases ry; exact PySem.EqNone.eq_none_bool (fin_bl I q (by simp))
    | int j => obtain ⟨t', rfl⟩ := ry; exact PySem.EqNone.eq_none_int (fin_bl I q (by simp))
    | str j => obtain ⟨t', rfl⟩ := ry; exact PySem.EqNone.eq_none_str (fin_bl I q (by simp))
    | _ => exact absurd (show false = true from hs) Bool.false_ne_true
  | bl i =>
    cases rx
    cases y with
    | non => cases ry; exact PySem.EqNone.eq_bool_none (fin_bl I q (by simp))
    | bl j => cases ry; exact eq_bool (fin_bl I q dec_bl)
    | str j => obtain ⟨t', rfl⟩ := ry; exact PySem.EqMixed.eq_bool_str (fin_bl I q (by simp))
    | _ => exact absurd (show false = true from hs) Bool.false_ne_true
  | int i =>
    obtain ⟨t, rfl⟩ := rx
    cases y with
    | non => cases ry; exact PySem.EqNone.eq_int_none (fin_bl I q (by simp))
    | int j => obtain ⟨t', rfl⟩ := ry; exact eq_int (fin_bl I q dec_int)
    | str j => obtain ⟨t', rfl⟩ := ry; exact PySem.EqMixed.eq_int_str (fin_bl I q (by simp))
    | _ => exact absurd (show false = true from hs) Bool.false_ne_true
  | str i =>
    obtain ⟨t, rfl⟩ := rx
    cases y with
    | non => cases ry; exact PySem.EqNone.eq_str_none (fin_bl I q (by simp))
    | bl j => cases ry; exact PySem.EqMixed.eq_str_bool (fin_bl I q (by simp))
    | int j => obtain ⟨t', rfl⟩ := ry; exact PySem.EqMixed.eq_str_int (fin_bl I q (by simp))
    | str j => obtain ⟨t', rfl⟩ := ry; exact eq_str (fin_bl I q dec_str)
    | _ => exact absurd (show false = true from hs) Bool.false_ne_true
  | byt i =>
    obtain ⟨t, rfl⟩ := rx
    cases y with
    | byt j => obtain ⟨t', rfl⟩ := ry; exact PySem.W.eq_bytes (fin_bl I q dec_byt)
    | _ => exact absurd (show false = true from hs) Bool.false_ne_true
  | _ => cases y <;> exact absurd (show false = true from hs) Bool.false_ne_true
theorem op_ne : OpR X (compareOp .NotEq) rNe := by
  intro pins s σ H x y v u Q I rx ry h
  obtain ⟨hs, q⟩ := h
  cases x with
  | non =>
    cases rx
    cases y with
    | non => cases ry; exact PySem.EqNone.ne_none_none (fin_bl I q (by simp))
    | bl j => cases ry; exact PySem.EqNone.ne_none_bool (fin_bl I q (by simp))
    | int j => obtain ⟨t', rfl⟩ := ry; exact PySem.EqNone.ne_none_int (fin_bl I q (by simp))
    | str j => obtain ⟨t', rfl⟩ := ry; exact PySem.EqNone.ne_none_str (fin_bl I q (by simp))
    | _ => exact absurd (show false = true from hs) Bool.false_ne_true
  | bl i =>
    cases rx
    cases y with
    | non => cases ry; exact PySem.EqNone.ne_bool_none (fin_bl I q (by simp))
    | bl j => cases ry; exact ne_bool (fin_bl I q (congrArg not dec_bl))
    | str j => obtain ⟨t', rfl⟩ := ry; exact PySem.EqMixed.ne_bool_str (fin_bl I q (by simp))
    | _ => exact absurd (show false = true from hs) Bool.false_ne_true
  | int i =>
    obtain ⟨t, rfl⟩ := rx
    cases y with
    | non => cases ry; exact PySem.EqNone.ne_int_none (fin_bl I q (by simp))
    | int j => obtain ⟨t', rfl⟩ := ry; exact ne_int (fin_bl I q (congrArg not dec_int))
    | str j => obtain ⟨t', rfl⟩ := ry; exact PySem.EqMixed.ne_int_str (fin_bl I q (by simp))
    | _ => exact absurd (show false = true from hs) Bool.false_ne_true
  | str i =>
    obtain ⟨t, rfl⟩ := rx
    cases y with
    | non => cases ry; exact PySem.EqNone.ne_str_none (fin_bl I q (by simp))
    | bl j => cases ry; exact PySem.EqMixed.ne_str_bool (fin_bl I q (by simp))
    | int j => obtain ⟨t', rfl⟩ := ry; exact PySem.EqMixed.ne_str_int (fin_bl I q (by simp))
    | str j => obtain ⟨t', rfl⟩ := ry; exact ne_str (fin_bl I q (congrArg not dec_str))
    | _ => exact absurd (show false = true from hs) Bool.false_ne_true
  | byt i =>
    obtain ⟨t, rfl⟩ := rx
    cases y with
    | byt j => obtain ⟨t', rfl⟩ := ry; exact PySem.W.ne_bytes (fin_bl I q (congrArg not dec_byt))
    | _ => exact absurd (show false = true from hs) Bool.false_ne_true
  | _ => cases y <;> exact absurd (show false = true from hs) Bool.false_ne_true
theorem op_lt : OpR X (compareOp .Lt) (rI0 fun i j => .bl (decide (i < j))) := opB0 fun _ _ _ _ _ _ _ q => lt_int q
theorem op_gt : OpR X (compareOp .Gt) (rI0 fun i j => .bl (decide (j < i))) := opB0 fun _ _ _ _ _ _ _ q => gt_int q
theorem op_ge : OpR X (compareOp .GtE) (rI0 fun i j => .bl (decide (j ≤ i))) := opB0 fun _ _ _ _ _ _ _ q => ge_int q
theorem nomark (b : Expr) {op : CmpOp} (h : op ≠ .In := by decide) (h2 : op ≠ .NotIn := by decide) : behindInMarks op b = false := by
  have e1 : (op == CmpOp.In) = false := by cases op <;> first | rfl | exact absurd rfl h
  have e2 : (op == CmpOp.NotIn) = false := by cases op <;> first | rfl | exact absurd rfl h2
  cases b <;> simp [behindInMarks, e1, e2]
theorem pe_cmpR {op : CmpOp} {r : R2} (ho : OpR X (compareOp op) r) (ha : PE X a ta) (hb : PE X b tb) (hm : behindInMarks op b = false) : PE X (.Compare a [op] [b] pos) (tOp r ta tb) := by
  intro pins s σ H Q I h
  exact wpAny_Compare1 (binT ha hb I h fun v u s2 x y H2 I2 rx ry q => ho pins s2 σ H2 x y v u Q I2 rx ry q) hm
def tTest (t : TE) : TT := fun σ H Q => t σ H fun x H' => ∃ k, x = .bl k ∧ Q k H'
theorem pt_cmpR {op : CmpOp} {r : R2} (ho : OpR X (compareOp op) r) (ha : PE X a ta) (hb : PE X b tb) (hm : behindInMarks op b = false) : PT X (.Compare a [op] [b] pos) (tTest (tOp r ta tb)) := by
  intro pins s σ H Q I h
  refine wpAny_isTrue_Compare1 (thn (ha pins s σ H _ I h) fun v s1 ⟨x, H1, I1, r1, q1⟩ => thn (hb pins s1 σ H1 _ I1 q1) fun u s2 ⟨y, H2, I2, r2, q2⟩ =>
    thn (ho pins s2 σ H2 x y v u _ I2 r1 r2 q2) fun c s3 ⟨z, H3, I3, r3, k, e, q3⟩ => ?_) hm
  subst e
  cases r3
  exact wpAny_truthy_bool ⟨H3, I3, q3⟩
theorem line63 : (sizeLine : Nat) < 2 ^ 63 := by rw [sizeLine_eq]; decide
theorem vals1 {x : V} {us : List Value} (r : Vals [x] us) : ∃ u, us = [u] ∧ RelV x u := by
  cases r with
  | cons r1 r2 => cases r2; exact ⟨_, rfl, r1⟩
theorem call_abs : CallR X (.builtin "abs") (fun xs H Q => ∃ i, xs = [.int i] ∧ Q (.int (if i < 0 then -i else i)) H) := by
  intro pins s σ H xs us Q I r h
  obtain ⟨i, rfl, q⟩ := h
  obtain ⟨u, rfl, t, rfl⟩ := vals1 r
  exact call_abs_int fun u tk => ⟨.int (if i < 0 then -i else i), H, I.tok _, ⟨_, rfl⟩, q⟩
theorem call_int1 : CallR X (.type "int") (fun xs H Q => (∃ i, xs = [.int i] ∧ Q (.int i) H) ∨ ∃ k, xs = [.bl k] ∧ Q (.int (if k then 1 else 0)) H) := by
  intro pins s σ H xs us Q I r h
  rcases h with ⟨i, rfl, q⟩ | ⟨k, rfl, q⟩
  · obtain ⟨u, rfl, t, rfl⟩ := vals1 r
    exact call_int_int ⟨.int i, H, I, ⟨_, rfl⟩, q⟩
  · obtain ⟨u, rfl, r1⟩ := vals1 r
    cases r1
    exact call_int_bool ⟨.int (if k then 1 else 0), H, I.tok _, ⟨_, rfl⟩, q⟩
end
end L2
namespace L2
open PySem PySem.Spec PyProof.Rows
structure ObjM (h : Heap) (x dx C : Addr) (mA : Str → Option Value) : Prop where
  obj : h.get? x = some (PySem.W.instObj C dx)
  ns : h.Ns1 dx mA
  ne : dx ≠ x
theorem lookIn_ns {h : Heap} {dx : Addr} {mA : Str → Option Value} (n : h.Ns1 dx mA) : ∃ od, h.get? dx = some od ∧ ∀ name, PySem.W.lookIn name od = some (mA name) := by
  obtain ⟨o, es, ep, ho, hd, hk, _, hm⟩ := n
  refine ⟨o, ho, fun name => ?_⟩
  have e := hm name
  unfold nsFind findBy at e
  rw [← Array.find?_toList] at e
  unfold PySem.W.lookIn
  rw [hd]
  dsimp only
  split
  · rename_i y q
    rw [q] at e
    exact congrArg some e
  · rename_i q
    rw [q] at e
    have a : es.toList.any (·.refKey) = false := by
      rw [List.any_eq_false]
      intro y hy
      obtain ⟨z, t, hkey⟩ := hk y (Array.mem_toList_iff.mp hy)
      simp [DictEntry.refKey, hkey]
    have a' : ¬ es.toList.any (·.refKey) = true := by rw [a]; exact Bool.false_ne_true
    rw [if_neg a']
    exact congrArg some e
theorem ObjM.look {h : Heap} {x dx C : Addr} {mA : Str → Option Value} (I : ObjM h x dx C mA) : ∃ od, PySem.W.InstAt h x (PySem.W.instObj C dx) C (some od) ∧ ∀ name, PySem.W.lookIn name od = some (mA name) :=
  let ⟨od, ho, hl⟩ := lookIn_ns I.ns
  ⟨od, ⟨I.obj, rfl, rfl, ho⟩, hl⟩
section
variable {prog : Program} {w : World} {A : Around} {E : Value → Shared → Prop} {s : Shared} {K : PySem.W.Frag} {x dx C f : Addr} {mA : Str → Option Value} {name : Str} {v : Value}
end
section
variable {P : Program} {w : World} {H H' : Hp} {h h' : Heap} {a C dx : Addr} {fs fs' : List (Str × V)}
theorem ins_get (hok : HOk P w H h) (e : H a = some (.ins C dx fs)) : ∃ mA, ObjM h a dx C mA ∧ (∀ f, RelO (fs.lookup f) (mA f)) ∧ PySem.Within mA (fs.map (·.1)) ∧ fs.length ≤ 1000 ∧ H dx = some (.own a) := by
  obtain ⟨d, z, ne, ob, mA, n, r, q⟩ := (show ObjOk P w H h a (.ins C dx fs) from hok a _ e)
  exact ⟨mA, ⟨ob, n, ne⟩, r, q, z, d⟩
end
structure Cls (K : PySem.W.Frag) (C : Addr) : Prop where
  pg : PySem.W.plainGet K C Str.empty = true
  hd : PySem.W.hasDictIn K C = true
  po : PySem.W.plainOver K C = true
  sa : PySem.W.findIn K (.ref C) "__setattr__" = some (some (.builtin "object.__setattr__"))
theorem Cls.get {K : PySem.W.Frag} {C : Addr} (c : Cls K C) (f : Str) : PySem.W.plainGet K C f = true := c.pg
section
variable {X : Cx} {pins : List (Addr × Obj)} {σ : St} {H : Hp} {s : Shared} {a C dx : Addr} {fs : List (Str × V)} {f : Str} {v : V} {A : Around} {E : Value → Shared → Prop}
end
section
variable {X : Cx} {o e value : Expr} {f : Str} {pos pos' tpos : Pos} {ta tv : TE}
end
section
variable {X : Cx} {pins : List (Addr × Obj)} {σ : St} {H : Hp} {s : Shared} {A : Around} {E : Value → Shared → Prop} {Q : Value → Shared → Prop} {c : Value} {b : Bool}
inductive TyOf (K : PySem.W.Frag) (H : Hp) : V → Value → Prop where
  | non : TyOf K H .non (.type "NoneType")
  | bl (x : Bool) : TyOf K H (.bl x) (.type "bool")
  | int (i : Int) : TyOf K H (.int i) (.type "int")
  | str (x : Str) : TyOf K H (.str x) (.type "str")
  | flt (x : UInt64) : TyOf K H (.flt x) (.type "float")
  | lst {a : Addr} {xs : List V} (e : H a = some (.lst xs)) : TyOf K H (.ref a) (.type "list")
  | frz {a : Addr} {o : Obj} {xs : List V} (e : H a = some (.frz o (.lst xs))) : TyOf K H (.ref a) (.type "list")
  | tup {a : Addr} {xs : List V} (e : H a = some (.tup xs)) : TyOf K H (.ref a) (.type "tuple")
  | dK {a : Addr} {kvs : List (Key × V)} (e : H a = some (.dK kvs)) : TyOf K H (.ref a) (.type "dict")
  | dT {a : Addr} {kvs : List (List Key × V)} (e : H a = some (.dT kvs)) : TyOf K H (.ref a) (.type "dict")
  | ins {a C dx : Addr} {fs : List (Str × V)} (e : H a = some (.ins C dx fs)) (cl : Cls K C) (ha : PySem.W.findIn K (.ref C) "__class__" = some (some (.builtin "object.__class__")))
      (hn : PySem.W.specialIn K (.builtin "object.__class__") "__get__" = some (some (.builtin "getset_descriptor.__get__"))) (htk : PySem.W.takesIn K (.builtin "object.__class__") = some true)
      (hm : PySem.W.mroIn K C (.type "object") = some true) : TyOf K H (.ref a) (.ref C)
theorem isinst_ok {x : V} {u t : Value} (I : Inv X pins σ H s) (rx : RelV x u) (ty : TyOf X.K H x t) (e : PySem.W.kitOne X.K t c = some b) (h : ∀ tk, Q (.bool b) { s with toks := tk }) :
    wpAny (model X.prog X.w) A (call (.builtin "isinstance") [u, c]) Q E s := by
  cases ty with
  | non => cases (show u = Value.none from rx); exact PySem.W.kia_one PySem.W.kitx_none I.kIn True.intro e (fun z => nomatch z) h
  | bl y => cases (show u = Value.bool y from rx); exact PySem.W.kia_one PySem.W.kitx_bool I.kIn True.intro e (fun z => nomatch z) h
  | int i => obtain ⟨t, q⟩ := (show ∃ t, u = Value.int i t from rx); cases q; exact PySem.W.kia_one PySem.W.kitx_int I.kIn True.intro e (fun z => nomatch z) h
  | str y => obtain ⟨t, q⟩ := (show ∃ t, u = Value.str y t from rx); cases q; exact PySem.W.kia_one PySem.W.kitx_str I.kIn True.intro e (fun z => nomatch z) h
  | flt y => obtain ⟨t, q⟩ := (show ∃ t, u = Value.float y t from rx); cases q; exact PySem.W.kia_one PySem.W.kitx_float I.kIn True.intro e (fun z => nomatch z) h
  | @lst a xs ea =>
    cases (show u = Value.ref a from rx)
    obtain ⟨_, _, n, _, h1⟩ := (show ObjOk X.prog X.w H s.heap a (.lst xs) from I.hok a _ ea)
    exact PySem.W.kia_one PySem.W.kitx_list I.kIn ⟨_, h1, rfl⟩ e (fun z => nomatch z) h
  | @frz a ob xs ea =>
    cases (show u = Value.ref a from rx)
    obtain ⟨_, _, _, n, _, h1⟩ := (show ObjOk X.prog X.w H s.heap a (.frz ob (.lst xs)) from I.hok a _ ea)
    exact PySem.W.kia_one PySem.W.kitx_list I.kIn ⟨_, h1, rfl⟩ e (fun z => nomatch z) h
  | @tup a xs ea =>
    cases (show u = Value.ref a from rx)
    obtain ⟨_, _, _, p⟩ := (show ObjOk X.prog X.w H s.heap a (.tup xs) from I.hok a _ ea)
    obtain ⟨o, h1, h2, _⟩ := p
    exact PySem.W.kia_one PySem.W.kitx_tuple I.kIn ⟨o, h1, h2⟩ e (fun z => nomatch z) h
  | @dK a kvs ea =>
    cases (show u = Value.ref a from rx)
    obtain ⟨_, _, vs, _, p⟩ := (show ObjOk X.prog X.w H s.heap a (.dK kvs) from I.hok a _ ea)
    obtain ⟨o, es, ep, h1, h2, _⟩ := p
    exact PySem.W.kia_one PySem.W.kitx_dict I.kIn ⟨o, h1, h2.1⟩ e (fun z => nomatch z) h
  | @dT a kvs ea =>
    cases (show u = Value.ref a from rx)
    obtain ⟨_, _, xs, _, o, es, ep, h1, h2, _⟩ := (show ObjOk X.prog X.w H s.heap a (.dT kvs) from I.hok a _ ea)
    exact PySem.W.kia_one PySem.W.kitx_dict I.kIn ⟨o, h1, h2.1⟩ e (fun z => nomatch z) h
  | @ins a C dx fs ea cl ha hn htk hm =>
    cases (show u = Value.ref a from rx)
    obtain ⟨mA, O, _⟩ := ins_get I.hok ea
    obtain ⟨od, J, _⟩ := O.look
    exact PySem.W.kia_one (PySem.W.kitx_own (cl.get _) cl.hd ha hn htk hm) I.kIn J e (fun z => nomatch z) h
end
end L2
namespace L2
open PySem PySem.Spec PyProof.Rows
structure Room (k : Nat) (A : Around) : Prop where
  hd : A.handled = none
  dp : A.depth + 3 * k + 5 < recursionLimit
  un : A.units + 16 * k + 200 < cLine
theorem Room.mono {j k : Nat} {A : Around} (r : Room k A) (h : j ≤ k) : Room j A := ⟨r.hd, by have := r.dp; omega, by have := r.un; omega⟩
theorem Room.deeper {k : Nat} {A : Around} (r : Room (k + 1) A) (env : Env) : Room k (A.deeper env) :=
  ⟨r.hd, by have := r.dp; show A.depth + 1 + 3 * k + 5 < _; omega, by have := r.un; show A.units + 3 + 16 * k + 200 < _; omega⟩
theorem Room.depth {k : Nat} {A : Around} (r : Room k A) : A.depth < recursionLimit := by have := r.dp; omega
theorem Room.units {k : Nat} {A : Around} (r : Room k A) : A.units + 64 < cLine := by have := r.un; omega
def tNil : TA := fun _ H Q => Q [] H
def tCons (ta : TE) (tr : TA) : TA := fun σ H Q => ta σ H fun x H1 => tr σ H1 fun xs H2 => Q (x :: xs) H2
section
variable {X : Cx} {e : Expr} {es : List Expr} {te : TE} {t : TA} {pos : Pos}
theorem pa_nil : PA X [] tNil := fun _ _ _ _ H Q I h => Calls.spliced_nil ⟨[], H, I, .nil, h⟩
theorem pa_cons (ha : PE X e te) (hr : PA X es t) (hs : starEach (e :: es) X.env = (false, eval e X.env) :: starEach es X.env := by rfl) : PA X (e :: es) (tCons te t) := by
  intro pos pins s σ H Q I h
  rw [hs]
  show wpAny _ _ (spliced ((false, eval e X.env) :: backTo pos (starEach es X.env))) _ _ s
  refine Calls.spliced_cons (thn (ha pins s σ H _ I h) fun u s1 ⟨x, H1, I1, r1, q1⟩ => ?_)
  exact thn (hr pos pins s1 σ H1 _ I1 q1) fun us s2 ⟨xs, H2, I2, r2, q2⟩ => ⟨x :: xs, H2, I2, .cons r1 r2, q2⟩
def tTup (t : TA) : TE := fun σ H Q => t σ H fun xs H1 => xs.length ≤ sizeLine ∧ ∀ p, H1 p = none → Q (.ref p) (upd H1 p (.tup xs))
def tLst (t : TA) : TE := fun σ H Q => t σ H fun xs H1 => xs.length ≤ sizeLine ∧ ∀ p, H1 p = none → Q (.ref p) (upd H1 p (.lst xs))
theorem pe_tup {x1} (h : PA X es t) : PE X (.Tuple es x1 pos) (tTup t) := by
  intro pins s σ H Q I hq
  refine wpAny_Tuple_spliced (thn (h pos pins s σ H _ I hq) fun us s1 ⟨xs, H1, I1, r, z, q⟩ => ⟨by rw [← r.length]; exact z, ?_⟩)
  have hf : H1 s1.heap.objs.size = none := I1.hok.fresh (Nat.le_refl _)
  refine ⟨.ref s1.heap.objs.size, upd H1 s1.heap.objs.size (.tup xs), I1.laid (t' := s1.toks) (fun b u e => Heap.get?_push_of_some _ e) (Nat.le_refl _) ?_, rfl, q _ hf⟩
  exact ⟨z, us, r, ⟨_, Heap.get?_push_size _ rfl, rfl, _, rfl⟩⟩
theorem pe_lst (h : PA X es t) : PE X (.List es pos) (tLst t) := by
  intro pins s σ H Q I hq
  refine wpAny_List_spliced (thn (h pos pins s σ H _ I hq) fun us s1 ⟨xs, H1, I1, r, z, q⟩ => ⟨by rw [← r.length]; exact z, ?_⟩)
  have hf : H1 s1.heap.objs.size = none := I1.hok.fresh (Nat.le_refl _)
  refine ⟨.ref s1.heap.objs.size, upd H1 s1.heap.objs.size (.lst xs), I1.laid (t' := s1.toks) (fun b u e => Heap.get?_push_of_some _ e) (Nat.le_refl _) ?_, rfl, q _ hf⟩
  exact ⟨z, us, 0, r, Heap.get?_push_size _ rfl⟩
end
abbrev Sp := List V → Hp → VK → XK → Prop
abbrev CXT := List Env → Hp → Shared → XK → Value → Shared → Prop
structure Env0 (P : Program) (w : World) (K : PySem.W.Frag) (mg : Str → Option Value) (base : Heap) (A : Around) (outer : List Env) (s : Shared) (H : Hp) : Prop where
  frames : A.frames = some outer
  mod : Mod K mg base
  bs : ∀ b o, base.get? b = some o → s.heap.get? b = some o ∧ H b = none
  bsz : base.objs.size ≤ s.heap.objs.size
  funs : s.heap.FunFrames base outer
  frf : ∀ b ∈ frs outer, H b = none
  hok : HOk P w H s.heap
  bare : AllBare s.gens
def CE (outer : List Env) (P : Program) (w : World) (H : Hp) (s : Shared) (Q : VK) (u : Value) (s' : Shared) : Prop :=
  ∃ v H', s'.os = s.os ∧ AllBare s'.gens ∧ Un (frs outer) [] H H' s.heap s'.heap ∧ HOk P w H' s'.heap ∧ RelV v u ∧ Q v H'
def CR (CX : CXT) (outer : List Env) (P : Program) (w : World) (H : Hp) (s : Shared) (Q : VK) (E : XK) (r : Result) (s' : Shared) : Prop :=
  match r with
  | .ok (.ret u) => CE outer P w H s Q u s'
  | .ok _ => False
  | .error e => CX outer H s E e s'
structure FnOk (P : Program) (w : World) (K : PySem.W.Frag) (mg : Str → Option Value) (base : Heap) (CX : CXT) (k : Nat) (f : Addr) (fd : FuncData) (ps : List Str) (sp : Sp) : Prop where
  len : ∀ vs H Q E, sp vs H Q E → vs.length = ps.length
  run : ∀ (A : Around) (outer : List Env) (s : Shared) (H : Hp) (args : Args) (us : List Value) (vs : List V) (Q : VK) (E : XK), Room k A → Env0 P w K mg base A outer s H → BindsTo s fd args (ps.zip us) → Vals vs us → sp vs H Q E →
    codeAny (model P w) A (.call (.ref f) args) (CR CX outer P w H s Q E) s
theorem FnOk.imp {P : Program} {w : World} {K : PySem.W.Frag} {mg : Str → Option Value} {base : Heap} {CX : CXT} {k : Nat} {f : Addr} {fd : FuncData} {ps : List Str} {sp sp' : Sp} (F : FnOk P w K mg base CX k f fd ps sp)
    (h : ∀ vs H Q E, sp' vs H Q E → sp vs H Q E) : FnOk P w K mg base CX k f fd ps sp' :=
  ⟨fun vs H Q E q => F.len vs H Q E (h _ _ _ _ q), fun A outer s H args us vs Q E hr he hb hv hs => F.run A outer s H args us vs Q E hr he hb hv (h _ _ _ _ hs)⟩
section
variable {X : Cx} {pins : List (Addr × Obj)} {σ : St} {H : Hp} {s s' : Shared}
theorem Inv.env0 (I : Inv X pins σ H s) : Env0 X.prog X.w X.K X.mg X.base X.A X.stack s H :=
  ⟨I.ok.frames, I.ok.mod, I.bs, Nat.le_trans I.ok.bsz I.sz, I.stack, I.stkFree, I.hok, I.bare⟩
theorem Inv.after {Q : VK} {u : Value} (I : Inv X pins σ H s) (h : CE X.stack X.prog X.w H s Q u s') : EP X pins σ Q u s' := by
  obtain ⟨v, H', os, bare, un, hok, r, q⟩ := h
  obtain ⟨hh, g, d, t, os'⟩ := s'
  obtain rfl : os' = s.os := os
  exact ⟨v, H', I.call (h' := hh) (g' := g) (d' := d) (t' := t) (ch := []) un hok bare (fun b z => absurd z (by simp)), r, q⟩
end
def tCall (sp : Sp) (dvs : List V) (E : XK) (t : TA) : TE := fun σ H Q => t σ H fun vs H1 => sp (vs ++ dvs) H1 Q E
def Binds (K : PySem.W.Frag) (fd : FuncData) (ps : List Str) (ds : List Value) : Prop :=
  ∀ (s : Shared) (us : List Value), K.In s.heap → (us ++ ds).length = ps.length → BindsTo s fd ⟨us, []⟩ (ps.zip (us ++ ds))
theorem Binds.all {K : PySem.W.Frag} {fd : FuncData} {ps : List Str} (h : ∀ us : List Value, us.length = ps.length → bindArgs fd ⟨us, []⟩ = pure (ps.zip us)) : Binds K fd ps [] := fun s us _ hl => by
  rw [List.append_nil] at hl ⊢
  exact .of_eq (h us hl)
def Passes (CX : CXT) (X : Cx) (E : XK) : Prop := ∀ (pins : List (Addr × Obj)) (σ : St) (H : Hp) (s : Shared) (e : Value) (s' : Shared), Inv X pins σ H s → CX X.stack H s E e s' → X.xe e s'
section
variable {X : Cx} {CX : CXT} {k : Nat} {f C : Addr} {fd : FuncData} {ps : List Str} {sp : Sp} {dvs : List V} {ds : List Value} {E : XK} {x m : Str} {p pos apos : Pos} {e o : Expr} {es : List Expr} {ta : TE} {t : TA}
theorem run_fn {pins : List (Addr × Obj)} {σ : St} {H : Hp} {s : Shared} {Q : VK} {us : List Value} {vs : List V} (F : FnOk X.prog X.w X.K X.mg X.base CX k f fd ps sp) (hr : Room k X.A) (hb : Binds X.K fd ps ds) (hd : Vals dvs ds) (hx : Passes CX X E)
    (I : Inv X pins σ H s) (r : Vals vs us) (h : sp (vs ++ dvs) H Q E) : wpAny (model X.prog X.w) X.A (call (.ref f) us) (EP X pins σ Q) X.xe s := by
  have r2 : Vals (vs ++ dvs) (us ++ ds) := r.append hd
  have hl : (us ++ ds).length = ps.length := by rw [← r2.length]; exact F.len _ _ _ _ h
  refine wpAny_call (codeAny_mono (F.run X.A X.stack s H ⟨us, []⟩ (us ++ ds) (vs ++ dvs) Q E hr I.env0 (hb s us I.kIn hl) r2 h) fun r s' hq => ?_)
  cases r with
  | error e => exact hx pins σ H s e s' I hq
  | ok fl =>
    cases fl with
    | ret u => exact I.after hq
    | next => exact False.elim hq
    | brk => exact False.elim hq
    | cont => exact False.elim hq
theorem pe_call (F : FnOk X.prog X.w X.K X.mg X.base CX k f fd ps sp) (hr : Room k X.A) (hg : Gl X x) (hm : X.mg x = some (.ref f)) (hk : PySem.W.keepIn X.K (.ref f) = true) (hb : Binds X.K fd ps ds) (hd : Vals dvs ds) (hx : Passes CX X E)
    (ha : PA X (e :: es) t) (hdb : (x == ("__debug__" : Str)) = false := by decide) (he : starEach (e :: es) X.env = (false, eval e X.env) :: starEach es X.env := by rfl) (hpl : (backTo pos (starEach es X.env)).any (·.1) = false := by rfl) :
    PE X (.Call (.Name x p) (e :: es) [] pos) (tCall sp dvs E t) := by
  intro pins s σ H Q I h
  refine wpAny_Call_Name_kw (ld_glob I hg hm ?_ hdb)
  refine PySem.W.callWith_K (h₀ := X.base) I.ok.mod.kin hk (thn (ha pos pins s σ H _ I h) fun us s1 ⟨vs, H1, I1, r, q⟩ => ⟨I1.kIn, ?_⟩) he hpl
  exact run_fn F hr hb hd hx I1 r q
end
section
variable {X : Cx} {CX : CXT} {k : Nat} {f C : Addr} {fd : FuncData} {ps ks : List Str} {sp : Sp} {E : XK} {x m : Str} {p pos apos kpos : Pos} {e o : Expr} {es : List Expr} {kws : List Keyword} {te ta : TE} {t tk : TA} {nm : Option Str}
variable {g : List Value → List Value → List Value} {gV : List V → List V → List V}
end
structure FnScope (N P : List Str) (sc : Scope) : Prop where
  kind : sc.kind = .function
  co : sc.isCoroutine = false
  gen : sc.isGenerator = false
  nd : N.Nodup
  pre : N.take P.length = P
  par : ∀ x ∈ P, sc.names.lookup x = some .local ∨ sc.names.lookup x = some .cell
  nofree : ∀ y ∈ sc.names, y.2 ≠ .free
theorem bindL_out {kindOf : Str → Option NameKind} {x : Str} : ∀ {binds : List (Str × Value)} {m : Str → Option Value}, (∀ v, (x, v) ∉ binds) → bindL kindOf binds m x = m x
  | [], _, _ => rfl
  | (n, v) :: r, m, h => by
    unfold bindL
    rw [bindL_out fun w hw => h w (List.mem_cons_of_mem _ hw)]
    split
    · have : x ≠ n := by rintro rfl; exact h v List.mem_cons_self
      simp [this]
    · rfl
theorem bindC_out {kindOf : Str → Option NameKind} {x : Str} : ∀ {binds : List (Str × Value)} {m : Str → Option Value}, (∀ v, (x, v) ∉ binds) → bindC kindOf binds m x = m x
  | [], _, _ => rfl
  | (n, v) :: r, m, h => by
    unfold bindC
    rw [bindC_out fun w hw => h w (List.mem_cons_of_mem _ hw)]
    split
    · rfl
    · have : x ≠ n := by rintro rfl; exact h v List.mem_cons_self
      simp [this]
theorem bindL_get {kindOf : Str → Option NameKind} {x : Str} {v : Value} : ∀ {P : List Str} {vs : List Value} {i : Nat} {m : Str → Option Value}, P.Nodup → P[i]? = some x → vs[i]? = some v → kindOf x = some .local →
    bindL kindOf (P.zip vs) m x = some v
  | [], _, _, _, _, h, _, _ => by simp at h
  | _ :: _, [], _, _, _, _, h, _ => by simp at h
  | p :: P, w :: vs, 0, m, nd, h1, h2, hk => by
    simp at h1 h2; subst h1; subst h2
    show bindL kindOf ((p, w) :: P.zip vs) m p = _
    unfold bindL
    rw [bindL_out fun v hv => (List.nodup_cons.mp nd).1 (List.of_mem_zip hv).1, if_pos hk]
    simp
  | p :: P, w :: vs, i + 1, m, nd, h1, h2, hk => by
    show bindL kindOf ((p, w) :: P.zip vs) m x = _
    unfold bindL
    exact bindL_get (i := i) (List.nodup_cons.mp nd).2 (by simpa using h1) (by simpa using h2) hk
theorem bindC_get {kindOf : Str → Option NameKind} {x : Str} {v : Value} : ∀ {P : List Str} {vs : List Value} {i : Nat} {m : Str → Option Value}, P.Nodup → P[i]? = some x → vs[i]? = some v → kindOf x ≠ some .local →
    bindC kindOf (P.zip vs) m x = some v
  | [], _, _, _, _, h, _, _ => by simp at h
  | _ :: _, [], _, _, _, _, h, _ => by simp at h
  | p :: P, w :: vs, 0, m, nd, h1, h2, hk => by
    simp at h1 h2; subst h1; subst h2
    show bindC kindOf ((p, w) :: P.zip vs) m p = _
    unfold bindC
    rw [bindC_out fun v hv => (List.nodup_cons.mp nd).1 (List.of_mem_zip hv).1, if_neg hk]
    simp
  | p :: P, w :: vs, i + 1, m, nd, h1, h2, hk => by
    show bindC kindOf ((p, w) :: P.zip vs) m x = _
    unfold bindC
    exact bindC_get (i := i) (List.nodup_cons.mp nd).2 (by simpa using h1) (by simpa using h2) hk
def start (N : List Str) (vs : List V) : St := vs.map some ++ List.replicate (N.length - vs.length) none
def cxOf (CX : CXT) (P : Program) (w : World) (K : PySem.W.Frag) (mg : Str → Option Value) (base : Heap) (N : List Str) (qual : Str) (scope : Scope) (f : Addr) (cd : Value) (A : Around) (outer : List Env) (s : Shared) (H : Hp) (E : XK) : Cx where
  prog := P
  w := w
  K := K
  mg := mg
  base := base
  A := A.deeper (envOfC qual scope s.heap.objs.size f cd)
  N := N
  s₀ := s
  H₀ := H
  env := envOfC qual scope s.heap.objs.size f cd
  outer := outer
  stack := envOfC qual scope s.heap.objs.size f cd :: outer
  ex := []
  calm := true
  fn := fun _ => true
  pn := []
  xe := fun e s' => wpAny (model P w) (A.deeper (envOfC qual scope s.heap.objs.size f cd)) (leaving (envOfC qual scope s.heap.objs.size f cd) e) (fun _ s'' => CX outer H s E e s'') (fun e' s'' => CX outer H s E e' s'') s'
theorem cell_has {sc : Scope} {n : Nat} {x : Str} (h : sc.names.lookup x = some .cell) : ∃ c, (cellsFrom n sc.names []).lookup x = some c := by
  have q := PySem.W.cellsFrom_some sc.names n [] (.inl h)
  exact Option.isSome_iff_exists.mp q
theorem inv_start {CX : CXT} {P : Program} {w : World} {K : PySem.W.Frag} {mg : Str → Option Value} {base : Heap} {N ps : List Str} {qual : Str} {scope : Scope} {f : Addr} {cd : Value} {A : Around} {outer : List Env} {s s1 : Shared} {H : Hp} {E : XK} {us : List Value} {vs : List V}
    (S : FnScope N ps scope) (hd : A.handled = none) (e0 : Env0 P w K mg base A outer s H) (hl : vs.length = ps.length) (r : Vals vs us)
    (x : InCallC s s.heap.objs.size (bindL (envOfC qual scope s.heap.objs.size f cd).kindOf (ps.zip us) fun _ => none) (cellsFrom (s.heap.objs.size + 1) scope.names []) (bindC (envOfC qual scope s.heap.objs.size f cd).kindOf (ps.zip us) fun _ => none) s1) :
    Inv (cxOf CX P w K mg base N qual scope f cd A outer s H E) [] (start N vs) H s1 := by
  have hpl : ps.length ≤ N.length := by have := congrArg List.length S.pre; rw [List.length_take] at this; omega
  obtain ⟨h1, tk, rfl, hk⟩ := x.done
  have noA : ∀ b : Addr, b ∉ (cxOf CX P w K mg base N qual scope f cd A outer s H E).ex := fun b z => absurd (show b ∈ ([] : List Addr) from z) (by simp)
  refine ⟨⟨e0.mod, S.kind, rfl, rfl, Nat.le_refl _, fun y z c h1 h2 => ?_, fun y hy => ?_, fun y c _ h => ?_, fun _ => hd, Around.frames_deeper e0.frames, .inr ⟨rfl, rfl⟩, fun b z => absurd z (noA b), e0.bs, e0.bsz, fun b _ _ => noA b, fun b z => absurd z (noA b), e0.funs, e0.frf⟩,
    rfl, e0.bare, Un.kept hk, ⟨_, x.toInCall.ns, fun i y v h1 h2 h3 => ?_⟩, fun y c h => ⟨_, x.cell y c h⟩, e0.hok.fresh (Nat.le_refl _), fun y c h => ?_, fun p hp => absurd (show p ∈ ([] : List (Addr × Obj)) from hp) (by simp), e0.hok.kept hk, ?_⟩
  · exact name_of_addr x.apart (PySem.mem_of_lookup h1) (PySem.mem_of_lookup h2)
  · have hy : scope.names.lookup y = some .cell ∨ scope.names.lookup y = some .free := hy
    rcases hy with hy | hy
    · exact cell_has hy
    · exact absurd rfl (S.nofree _ (PySem.mem_of_lookup hy))
  · exact Nat.le_of_lt (x.above y c (PySem.mem_of_lookup h))
  · have hi : i < vs.length := by
      unfold start at h2
      by_cases hi : i < vs.length
      · exact hi
      · rw [List.getElem?_append_right (by simpa using hi)] at h2
        rw [List.getElem?_replicate] at h2
        split at h2 <;> cases h2
    have ha : vs[i]? = some v := by
      unfold start at h2
      rw [List.getElem?_append_left (by simpa using hi), List.getElem?_map] at h2
      cases e : vs[i]? with
      | none => rw [e] at h2; cases h2
      | some a => rw [e] at h2; cases h2; rfl
    obtain ⟨u, hu, rv⟩ := r.get ha
    have hp : ps[i]? = some y := by
      rw [← S.pre, List.getElem?_take_of_lt (by omega)]; exact h1
    have ndP : ps.Nodup := by rw [← S.pre]; exact S.nd.sublist (List.take_sublist _ _)
    refine ⟨u, rv, ?_⟩
    rcases S.par y (List.mem_of_getElem? hp) with k | k
    · exact .inl ⟨k, bindL_get ndP hp hu k⟩
    · obtain ⟨c, e⟩ := cell_has (n := s.heap.objs.size + 1) k
      refine .inr ⟨.inl k, c, e, ?_⟩
      have q := x.cell y c e
      rw [bindC_get ndP hp hu (by show scope.names.lookup y ≠ _; rw [k]; decide)] at q
      exact q
  · exact e0.hok.fresh (Nat.le_of_lt (x.above y c (PySem.mem_of_lookup h)))
  · unfold start
    show _ = N.length
    rw [List.length_append, List.length_map, List.length_replicate]
    omega
theorem fn_of {CX : CXT} {P : Program} {w : World} {K : PySem.W.Frag} {mg : Str → Option Value} {base : Heap} {k : Nat} {f : Addr} {name qual : Str} {params : Arguments} {body : List Stmt} {scope : Scope} {dV kV doc pm cdv ct oc : Value} {an od : Option Addr}
    {osl : Array (Option Value)} {N ps : List Str} {sp : Sp} (lk : K.lookup f = some ⟨oc, od, .func (PySem.W.fnOf name qual params body scope dV kV doc pm an cdv ct), osl⟩) (hcd : PySem.W.codeIn K cdv qual = true) (S : FnScope N ps scope)
    (len : ∀ vs H Q E, sp vs H Q E → vs.length = ps.length)
    (hbody : ∀ (A : Around) (outer : List Env) (s : Shared) (H : Hp) (vs : List V) (Q : VK) (E : XK), Room k (A.deeper (envOfC qual scope s.heap.objs.size f cdv)) → sp vs H Q E →
      ∃ t, PSs (cxOf CX P w K mg base N qual scope f cdv A outer s H E) body t ∧ t { nx := fun _ H' => Q .non H', rt := Q } (start N vs) H) :
    FnOk P w K mg base CX (k + 1) f (PySem.W.fnOf name qual params body scope dV kV doc pm an cdv ct) ps sp := by
  refine ⟨len, fun A outer s H args us vs Q E hr e0 hb r hsp => ?_⟩
  have hl := len _ _ _ _ hsp
  have KX : K.In s.heap := e0.mod.kin.keeps fun b o e => (e0.bs b o e).1
  have lim : s.heap.NoLimit := e0.mod.nolimit.keeps fun b o e => (e0.bs b o e).1
  have hkind : ∀ y ∈ ps.zip us, scope.names.lookup y.1 = some .local ∨ (scope.names.lookup y.1 = some .cell ∧ ((cellsFrom (s.heap.objs.size + 1) scope.names []).lookup y.1).isSome = true) := fun ⟨n, v⟩ hy => by
    rcases S.par n (List.of_mem_zip hy).1 with q | q
    · exact .inl q
    · exact .inr ⟨q, PySem.W.cellsFrom_some _ _ _ (.inl q)⟩
  refine codeAny_call_function hr.depth (KX _ _ lk) rfl S.co S.gen rfl (PySem.W.codeRec_of KX hcd) (hb _ _ _ _ ?_)
  refine wpAny_newFunctionEnv_cells S.kind hkind fun env he s1 x => ?_
  subst he
  refine ⟨lim.keeps x.toInCall.keep, codeAny_func ?_⟩
  obtain ⟨t, ht, hq⟩ := hbody A outer s H vs Q E (hr.deeper _) hsp
  have I : Inv (cxOf CX P w K mg base N qual scope f cdv A outer s H E) [] (start N vs) H s1 := inv_start S hr.hd e0 hl r x
  refine wpAny_mono (ht [] s1 (start N vs) H _ I hq) (fun fl s' hs => ?_) fun e s' hs => hs
  have fin : ∀ {σ' : St} {H' : Hp} {v : V} {u : Value}, Inv (cxOf CX P w K mg base N qual scope f cdv A outer s H E) [] σ' H' s' → RelV v u → Q v H' → CE outer P w H s Q u s' :=
    fun {σ' H' v u} J rv q => ⟨v, H', J.os, J.bare, J.base, J.hok, rv, q⟩
  cases fl with
  | ret u =>
    obtain ⟨v, σ', H', J, rv, q⟩ := hs
    exact fin J rv q
  | next =>
    obtain ⟨σ', H', J, q⟩ := hs
    exact fin (v := V.non) (u := Value.none) J rfl q
  | brk =>
    obtain ⟨_, _, _, q⟩ := hs
    exact False.elim q
  | cont =>
    obtain ⟨_, _, _, q⟩ := hs
    exact False.elim q
end L2
namespace L2
open PySem PySem.Spec PyProof.Rows
section
variable {X : Cx} {x : Str} {p pos : Pos} {e : Expr} {es : List Expr} {t : TA} {id T : String} {r : List V → Hp → VK → Prop}
def tCB (r : List V → Hp → VK → Prop) (t : TA) : TE := fun σ H Q => t σ H fun vs H1 => r vs H1 Q
theorem pe_callB (hc : CallR X (.builtin id) r) (hg : Gl X x) (hm : X.mg x = none) (hv : bootBuiltins x = some (.builtin id)) (ha : PA X (e :: es) t) (hn : x ≠ "__name__" := by decide) (hdb : (x == ("__debug__" : Str)) = false := by decide)
    (he : starEach (e :: es) X.env = (false, eval e X.env) :: starEach es X.env := by rfl) (hpl : (backTo pos (starEach es X.env)).any (·.1) = false := by rfl) : PE X (.Call (.Name x p) (e :: es) [] pos) (tCB r t) := by
  intro pins s σ H Q I h
  refine wpAny_Call_Name_kw (ld_blt I hg hm hv ?_ hn hdb)
  exact PyProof.Rows.callWith_builtin1 (thn (ha pos pins s σ H _ I h) fun us s1 ⟨vs, H1, I1, r1, q1⟩ => hc pins s1 σ H1 vs us Q I1 r1 q1) he hpl
theorem pe_callTy (hc : CallR X (.type T) r) (hg : Gl X x) (hm : X.mg x = none) (hv : bootBuiltins x = some (.type T)) (ha : PA X (e :: es) t) (hn : x ≠ "__name__" := by decide) (hdb : (x == ("__debug__" : Str)) = false := by decide)
    (he : starEach (e :: es) X.env = (false, eval e X.env) :: starEach es X.env := by rfl) (hpl : (backTo pos (starEach es X.env)).any (·.1) = false := by rfl) : PE X (.Call (.Name x p) (e :: es) [] pos) (tCB r t) := by
  intro pins s σ H Q I h
  refine wpAny_Call_Name_kw (ld_blt I hg hm hv ?_ hn hdb)
  exact PyProof.Rows.callWith_type1 (thn (ha pos pins s σ H _ I h) fun us s1 ⟨vs, H1, I1, r1, q1⟩ => hc pins s1 σ H1 vs us Q I1 r1 q1) he hpl
end
end L2
namespace HT
open PySem PyProof.Rows
section
open PySem.SeqAt
open PySem.AutoSeq1 (wpAny_loadPart')
open PySem.MeetsSeq PySem.MeetsSeq2 PySem.MeetsSeq3
end
section
variable {prog : Program} {w : World} {A : Around} {E : Value → Shared → Prop} {s : Shared}
def sIx (n d : Nat) : Option Int → Nat
  | none => d
  | some v => if v < 0 then (v + (n : Int)).toNat else min v.toNat n
theorem sIx_nat (n d k : Nat) : sIx n d (some (k : Int)) = min k n := by
  show (if (k : Int) < 0 then ((k : Int) + (n : Int)).toNat else min (k : Int).toNat n) = min k n
  rw [if_neg (by omega), Int.toNat_natCast]
end
end HT
namespace L2
open PySem PySem.Spec PyProof.Rows
abbrev TO := St → Hp → (Option Int → Hp → Prop) → Prop
def PO (X : Cx) (e : Option Expr) (t : TO) : Prop :=
  ∀ (pins : List (Addr × Obj)) (s : Shared) (σ : St) (H : Hp) (Q : Option Int → Hp → Prop), Inv X pins σ H s → t σ H Q →
    wpAny (model X.prog X.w) X.A (evalPart e X.env) (fun u s' => ∃ o H', Inv X pins σ H' s' ∧ IsPart u o ∧ Q o H') X.xe s
def tNoPart : TO := fun _ H Q => Q none H
def tPart (t : TE) : TO := fun σ H Q => t σ H fun x H1 => ∃ i, x = .int i ∧ Q (some i) H1
theorem intsAre_of {ns : List Int} : ∀ {us : List Value}, Vals (ns.map V.int) us → IntsAre us ns := by
  induction ns with
  | nil => intro us r; rw [List.map_nil] at r; cases r; exact .nil
  | cons n ns ih =>
    intro us r
    rw [List.map_cons] at r
    cases r with
    | cons r1 r2 =>
      obtain ⟨t, e⟩ := r1
      subst e
      exact .cons n t (ih r2)
section
variable {X : Cx} {e : Expr} {te : TE} {lo hi : Option Expr} {tl th : TO} {pos p2 : Pos}
theorem po_none : PO X none tNoPart := by
  intro pins s σ H Q I h
  rw [evalPart_none]
  exact wpAny_pure ⟨none, H, I, .none, h⟩
theorem po_some (h : PE X e te) : PO X (some e) (tPart te) := by
  intro pins s σ H Q I hw
  rw [evalPart_some]
  refine thn (h pins s σ H _ I hw) fun u s1 ⟨x, H1, I1, r1, q1⟩ => ?_
  obtain ⟨i, rfl, q⟩ := q1
  obtain ⟨t, rfl⟩ := r1
  exact ⟨some i, H1, I1, .int i t, q⟩
def SlR (X : Cx) (r : V → Option Int → Option Int → Hp → VK → Prop) : Prop :=
  ∀ (pins : List (Addr × Obj)) (s : Shared) (σ : St) (H : Hp) (x : V) (v vl vu : Value) (lo hi : Option Int) (sl : Addr) (Q : VK), Inv X pins σ H s → RelV x v → s.heap.IsSliceOf sl vl vu .none → IsPart vl lo → IsPart vu hi → r x lo hi H Q →
    ∃ T id, typeLookup (.type T) "__getitem__" = pure (some (.builtin id)) ∧ s.TypeIs v T ∧ wpAny (model X.prog X.w) X.A (getItem v (.ref sl)) (EP X pins σ Q) X.xe s
def tSl (r : V → Option Int → Option Int → Hp → VK → Prop) (te : TE) (tl th : TO) : TE := fun σ H Q => te σ H fun x H1 => tl σ H1 fun l H2 => th σ H2 fun u H3 => r x l u H3 Q
theorem pe_slice {r : V → Option Int → Option Int → Hp → VK → Prop} (hr : SlR X r) (he : PE X e te) (hl : PO X lo tl) (hu : PO X hi th) : PE X (.Subscript e (.Slice lo hi none p2) pos) (tSl r te tl th) := by
  intro pins s σ H Q I h
  refine Subscript_ (thn (he pins s σ H _ I h) fun v s1 ⟨x, H1, I1, r1, q1⟩ => ?_)
  refine wpAny_Slice (thn (hl pins s1 σ H1 _ I1 q1) fun vl s2 ⟨l, H2, I2, pl, q2⟩ => thn (hu pins s2 σ H2 _ I2 q2) fun vu s3 ⟨u, H3, I3, pu, q3⟩ => ?_)
  rw [evalPart_none]
  refine wpAny_pure ?_
  have I4 : Inv X pins σ H3 { s3 with heap := s3.heap.push { cls := .type "slice", data := .fields #[vl, vu, .none] } } := I3.kept (t' := s3.toks) fun b ob q => Heap.get?_push_of_some _ q
  obtain ⟨T, id, hT, ht, hg⟩ := hr pins { s3 with heap := s3.heap.push { cls := .type "slice", data := .fields #[vl, vu, .none] } } σ H3 x v vl vu l u s3.heap.objs.size Q I4 r1 (Heap.IsSliceOf.new ..) pl pu q3
  show wpAny (model X.prog X.w) X.A (subscriptTail e (.Slice lo hi none p2) v (.ref s3.heap.objs.size)) (EP X pins σ Q) X.xe { s3 with heap := s3.heap.push { cls := .type "slice", data := .fields #[vl, vu, .none] } }
  exact tail_any (ops := [.ref s3.heap.objs.size, v]) ht hT hg (by with_unfolding_all rfl)
def cutV (xs : List V) (lo hi : Option Int) : List V := (xs.drop (HT.sIx xs.length 0 lo)).take (HT.sIx xs.length xs.length hi - HT.sIx xs.length 0 lo)
theorem cutV_length (xs : List V) (lo hi : Option Int) : (cutV xs lo hi).length ≤ xs.length := by
  unfold cutV
  rw [List.length_take, List.length_drop]
  omega
end
end L2
namespace L2
open PySem PySem.Spec PyProof.Rows
def ixN (n : Nat) (i : Int) : Option Nat := if 0 ≤ i then (if i < n then some i.toNat else none) else if -(n : Int) ≤ i then some (i + n).toNat else none
def atI {α : Type} (xs : List α) (i : Int) : Option α := (ixN xs.length i).bind fun j => xs[j]?
theorem ixN_seq {n : Nat} {i : Int} {j : Nat} (h : ixN n i = some j) : seqIndex? i n = some j ∧ j < n ∧ -(n : Int) ≤ i ∧ i < n := by
  unfold ixN at h
  by_cases h0 : 0 ≤ i
  · rw [if_pos h0] at h
    by_cases h1 : i < n
    · rw [if_pos h1] at h
      have e : i.toNat = j := Option.some.inj h
      exact ⟨by rw [seqIndex_of h0 h1, e], by omega, by omega, h1⟩
    · rw [if_neg h1] at h; cases h
  · rw [if_neg h0] at h
    by_cases h1 : -(n : Int) ≤ i
    · rw [if_pos h1] at h
      have e : (i + n).toNat = j := Option.some.inj h
      exact ⟨by rw [seqIndex_neg (by omega) h1, e], by omega, h1, by omega⟩
    · rw [if_neg h1] at h; cases h
theorem atI_get {α : Type} {xs : List α} {i : Int} {v : α} (h : atI xs i = some v) : ∃ j, seqIndex? i xs.length = some j ∧ xs[j]? = some v ∧ j < xs.length ∧ -(xs.length : Int) ≤ i ∧ i < xs.length := by
  unfold atI at h
  cases e : ixN xs.length i with
  | none => rw [e] at h; cases h
  | some j =>
    rw [e] at h
    obtain ⟨h1, h2, h3, h4⟩ := ixN_seq e
    exact ⟨j, h1, h, h2, h3, h4⟩
theorem atI_nat {α : Type} {xs : List α} {j : Nat} {v : α} (h : xs[j]? = some v) : atI xs (j : Int) = some v := by
  have hj : j < xs.length := (List.getElem?_eq_some_iff.mp h).1
  have e : ixN xs.length (j : Int) = some j := by
    unfold ixN
    rw [if_pos (by omega), if_pos (by omega)]; simp
  unfold atI; rw [e]; exact h
def PlainIx (b : Expr) : Prop := ∀ o i, subscripted b false o i = operate [o, i] (getItem o i)
def IxR (X : Cx) (r : R2) : Prop :=
  ∀ (value slice : Expr) (pins : List (Addr × Obj)) (s : Shared) (σ : St) (H : Hp) (x y : V) (v u : Value) (Q : VK), Inv X pins σ H s → RelV x v → RelV y u → r x y H Q →
    subscripted slice false v u = operate [v, u] (getItem v u) → wpAny (model X.prog X.w) X.A (subscriptTail value slice v u) (EP X pins σ Q) X.xe s
def MtR (X : Cx) (id : String) (r : V → List V → Hp → VK → Prop) : Prop :=
  ∀ (pins : List (Addr × Obj)) (s : Shared) (σ : St) (H : Hp) (x : V) (xs : List V) (v : Value) (us : List Value) (Q : VK), Inv X pins σ H s → RelV x v → Vals xs us → r x xs H Q →
    wpAny (model X.prog X.w) X.A (call (.builtin id) (v :: us)) (EP X pins σ Q) X.xe s
section
variable {X : Cx} {a b : Expr} {ta tb : TE} {pos : Pos}
theorem pe_ix {r : R2} (hr : IxR X r) (ha : PE X a ta) (hb : PE X b tb) (hs : PlainIx b) : PE X (.Subscript a b pos) (tOp r ta tb) := by
  intro pins s σ H Q I h
  exact Subscript_ (binT ha hb I h fun v u s2 x y H2 I2 rx ry q => hr a b pins s2 σ H2 x y v u Q I2 rx ry q (hs _ _))
def rIxL (K : PySem.W.Frag) : R2 := fun x y H Q => ∃ p xs i v, x = .ref p ∧ y = .int i ∧ SqL K H p xs ∧ atI xs i = some v ∧ Q v H
def rIxT (K : PySem.W.Frag) : R2 := fun x y H Q => ∃ p xs i v, x = .ref p ∧ y = .int i ∧ SqT K H p xs ∧ atI xs i = some v ∧ Q v H
theorem ix_list : IxR X (rIxL X.K) := by
  intro value slice pins s σ H x y v u Q I rx ry h hs
  obtain ⟨p, xs, i, z, rfl, rfl, hq, he, q⟩ := h
  cases rx
  obtain ⟨t, rfl⟩ := ry
  obtain ⟨its, r, pl, hz⟩ := I.list hq
  obtain ⟨j, h1, h2, h3, h4, h5⟩ := atI_get he
  obtain ⟨w, ew, rw'⟩ := r.get h2
  have hl := r.length
  have hn := line63
  have fin : EP X pins σ Q w s := ⟨z, H, I, rw', q⟩
  by_cases h0 : 0 ≤ i
  · have hj : i.toNat = j := by
      rw [seqIndex_of h0 h5] at h1
      exact Option.some.inj h1
    exact item_listR pl.isList h0 (by omega) (by rw [hj]; simpa using ew) fin hs
  · have hj : (i + (its.toArray.size : Int)).toNat = j := by
      rw [seqIndex_neg (by omega) h4] at h1
      rw [List.size_toArray, ← hl]
      exact Option.some.inj h1
    exact subscriptTail_builtinR (x := w) pl.isList.typeIs slot_list_getitem.lookup
      (wpAny_getItem_list_neg (Q := fun r s' => r = w ∧ EP X pins σ Q r s') pl.isList (by omega) (by rw [List.size_toArray] <;> omega) (by omega) (by rw [hj]; simpa using ew) ⟨rfl, fin⟩) hs
theorem ix_tup : IxR X (rIxT X.K) := by
  intro value slice pins s σ H x y v u Q I rx ry h hs
  obtain ⟨p, xs, i, z, rfl, rfl, hq, he, q⟩ := h
  cases rx
  obtain ⟨t, rfl⟩ := ry
  obtain ⟨its, r, pl, hz⟩ := I.tuple hq
  obtain ⟨j, h1, h2, h3, h4, h5⟩ := atI_get he
  obtain ⟨w, ew, rw'⟩ := r.get h2
  have hl := r.length
  have hn := line63
  have fin : EP X pins σ Q w s := ⟨z, H, I, rw', q⟩
  exact subscriptTail_builtinR (x := w) pl.typeIs slot_tuple_getitem.lookup
    (getItem_tuple (j := j) (Q := fun r s' => r = w ∧ EP X pins σ Q r s') pl (by omega) (by omega) (by rw [List.size_toArray, ← hl]; exact h1) (by simpa using ew) ⟨rfl, fin⟩) hs
theorem mapSeq_set (its : List Value) (n j : Nat) (u : Value) : Obj.mapSeq (·.setIfInBounds j u) { cls := .type "list", data := .seq its.toArray n } = { cls := .type "list", data := .seq (its.set j u).toArray n } := by
  simp [Obj.mapSeq]
theorem Inv.lst {pins : List (Addr × Obj)} {σ : St} {H : Hp} {s : Shared} {p : Addr} {xs : List V} (I : Inv X pins σ H s) (h : H p = some (.lst xs)) :
    ∃ (its : List Value) (n : Nat), Vals xs its ∧ s.heap.get? p = some { cls := .type "list", data := .seq its.toArray n } ∧ xs.length ≤ sizeLine := by
  obtain ⟨z, its, n, r, e⟩ := I.hok p _ h
  exact ⟨its, n, r, e, z⟩
theorem Inv.lstUpd {pins : List (Addr × Obj)} {σ : St} {H : Hp} {s : Shared} {p : Addr} {xs ys : List V} {its its' : List Value} {n n' : Nat} {f : Obj → Obj} (I : Inv X pins σ H s) (h : H p = some (.lst xs))
    (ho : s.heap.get? p = some { cls := .type "list", data := .seq its.toArray n }) (hf : f { cls := .type "list", data := .seq its.toArray n } = { cls := .type "list", data := .seq its'.toArray n' }) (r : Vals ys its') (hz : ys.length ≤ sizeLine) (t : Nat) :
    Inv X pins σ (upd H p (.lst ys)) { s with heap := s.heap.update p f, toks := t } := by
  have e : (s.heap.update p f).get? p = some { cls := .type "list", data := .seq its'.toArray n' } := by
    rw [Heap.get?_update_self f ho (by rw [hf] <;> rfl), hf]
  refine I.write (x := p) (e := p) (by rw [h]; trivial) (.inl rfl) (fun b u hb q => (Heap.get?_update_other _ _ (Ne.symm hb)).trans q) ⟨_, e⟩ ?_
  exact ⟨hz, its', n', r, e⟩
def rSetL : V → V → V → Hp → (Hp → Prop) → Prop := fun o i v H Q => ∃ p xs k j, o = .ref p ∧ i = .int k ∧ H p = some (.lst xs) ∧ ixN xs.length k = some j ∧ Q (upd H p (.lst (xs.set j v)))
theorem set_list : PSet X rSetL := by
  intro pins s σ H o i v ov iv u Q I ro ri rv h
  obtain ⟨p, xs, k, j, rfl, rfl, hp, hj, q⟩ := h
  cases ro
  obtain ⟨t, rfl⟩ := ri
  obtain ⟨its, n, r, ho, hz⟩ := I.lst hp
  obtain ⟨h1, h2, h3, h4⟩ := ixN_seq hj
  have hl := r.length
  have hn := line63
  have I' : Inv X pins σ (upd H p (.lst (xs.set j v))) { s with heap := s.heap.update p (Obj.mapSeq (·.setIfInBounds j u)) } :=
    I.lstUpd hp ho (mapSeq_set its n j u) (r.set rv j) (by rw [List.length_set]; exact hz) s.toks
  by_cases h0 : 0 ≤ k
  · have hk : k.toNat = j := by
      rw [seqIndex_of h0 h4] at h1
      exact Option.some.inj h1
    exact PySem.W.ki_setAt ho h0 (by omega) (by rw [List.size_toArray, ← hl]; exact h4) (by rw [hk]; exact ⟨_, I', q⟩)
  · have hk : (k + (its.toArray.size : Int)).toNat = j := by
      rw [seqIndex_neg (by omega) h3] at h1
      rw [List.size_toArray, ← hl]
      exact Option.some.inj h1
    exact PySem.W.ki_setBack ho (by omega) (by rw [List.size_toArray, ← hl]; exact h3) (by omega) (by rw [hk]; exact ⟨_, I', q⟩)
theorem slice_bounds (lo hi : Option Int) (n : Nat) : (sliceBounds lo hi none n).1 = ((HT.sIx n 0 lo : Nat) : Int) ∧ (sliceBounds lo hi none n).2.1 = ((HT.sIx n n hi : Nat) : Int) ∧ (sliceBounds lo hi none n).2.2 = 1 := by
  refine ⟨?_, ?_, rfl⟩
  · cases lo with
    | none => simp [sliceBounds, HT.sIx]
    | some i =>
      simp only [sliceBounds, HT.sIx, Option.getD_none, show (1 : Int) > 0 by decide, if_true]
      by_cases h : i < 0
      · simp only [h, if_true] <;> omega
      · simp only [h, if_false] <;> omega
  · cases hi with
    | none => simp [sliceBounds, HT.sIx]
    | some i =>
      simp only [sliceBounds, HT.sIx, Option.getD_none, show (1 : Int) > 0 by decide, if_true]
      by_cases h : i < 0
      · simp only [h, if_true] <;> omega
      · simp only [h, if_false] <;> omega
theorem slicePick_cut (its : List Value) (lo hi : Option Int) : slicePick its.toArray lo hi none = ((its.drop (HT.sIx its.length 0 lo)).take (HT.sIx its.length its.length hi - HT.sIx its.length 0 lo)).toArray := by
  obtain ⟨h1, h2, h3⟩ := slice_bounds lo hi its.toArray.size
  unfold slicePick
  rw [h1, h2, h3]
  simp only [sliceRange_one, pick_run, List.size_toArray] <;> rfl
def rSlL (K : PySem.W.Frag) : V → Option Int → Option Int → Hp → VK → Prop := fun x lo hi H Q => ∃ a xs, x = .ref a ∧ SqL K H a xs ∧ ∀ p, H p = none → Q (.ref p) (upd H p (.lst (cutV xs lo hi)))
theorem sl_list : SlR X (rSlL X.K) := by
  intro pins s σ H x v vl vu lo hi sl Q I rx hs pl pu h
  obtain ⟨a, xs, rfl, hx, q⟩ := h
  cases rx
  obtain ⟨its, r, ht, hz⟩ := I.list hx
  have hlen := r.length
  refine ⟨"list", _, slot_list_getitem.lookup, ht.isList.typeIs, ?_⟩
  refine wpAny_getItem_list_slice ht.isList hs pl pu .none (by simp) ?_ (by rw [List.size_toArray] <;> omega)
  rw [slicePick_cut, ← hlen]
  refine ⟨.ref s.heap.objs.size, _, I.laid (t' := s.toks) (o := .lst (cutV xs lo hi)) (fun b ob q => Heap.get?_push_of_some _ q) (Nat.le_refl _) ?_, rfl, q _ (I.hok.fresh (Nat.le_refl _))⟩
  exact ⟨Nat.le_trans (cutV_length xs lo hi) hz, _, 0, (r.drop (HT.sIx xs.length 0 lo)).take (HT.sIx xs.length xs.length hi - HT.sIx xs.length 0 lo), Heap.get?_push_size _ rfl⟩
def flatV : V → Bool
  | .non => true
  | .bl _ => true
  | .int _ => true
  | .str _ => true
  | _ => false
def eqV : V → V → Bool
  | .non, .non => true
  | .bl a, .bl b => a == b
  | .bl a, .int b => (if a then 1 else 0) == b
  | .int a, .bl b => a == (if b then 1 else 0)
  | .int a, .int b => a == b
  | .str a, .str b => a == b
  | _, _ => false
theorem eqAt_V {A : Around} {s : Shared} {y x : V} {u v : Value} (ry : RelV y u) (rx : RelV x v) (fy : flatV y = true) (fx : flatV x = true) : SeqAt.EqAt A s u v (eqV y x) := by
  cases y with
  | non =>
    cases ry
    cases x with
    | non => cases rx; exact SeqAt.EqAt.same _
    | bl b => cases rx; exact SeqAt.EqAt.none_bool b
    | int b => obtain ⟨t, rfl⟩ := rx; exact SeqAt.EqAt.none_int b t
    | str b => obtain ⟨t, rfl⟩ := rx; exact SeqAt.EqAt.none_str b t
    | _ => exact absurd (show false = true from fx) Bool.false_ne_true
  | bl a =>
    cases ry
    cases x with
    | non => cases rx; exact SeqAt.EqAt.bool_none a
    | bl b => cases rx; exact SeqAt.EqAt.bool_bool a b
    | int b => obtain ⟨t, rfl⟩ := rx; exact SeqAt.EqAt.bool_int a b t
    | str b => obtain ⟨t, rfl⟩ := rx; exact SeqAt.EqAt.bool_str a b t
    | _ => exact absurd (show false = true from fx) Bool.false_ne_true
  | int a =>
    obtain ⟨t', rfl⟩ := ry
    cases x with
    | non => cases rx; exact SeqAt.EqAt.int_none a t'
    | bl b => cases rx; exact SeqAt.EqAt.int_bool a t' b
    | int b => obtain ⟨t, rfl⟩ := rx; exact SeqAt.EqAt.int_int a t' b t
    | str b => obtain ⟨t, rfl⟩ := rx; exact SeqAt.EqAt.int_str a t' b t
    | _ => exact absurd (show false = true from fx) Bool.false_ne_true
  | str a =>
    obtain ⟨t', rfl⟩ := ry
    cases x with
    | non => cases rx; exact SeqAt.EqAt.str_none a t'
    | bl b => cases rx; exact SeqAt.EqAt.str_bool a t' b
    | int b => obtain ⟨t, rfl⟩ := rx; exact SeqAt.EqAt.str_int a t' b t
    | str b => obtain ⟨t, rfl⟩ := rx; exact SeqAt.EqAt.str_str a t' b t
    | _ => exact absurd (show false = true from fx) Bool.false_ne_true
  | _ => exact absurd (show false = true from fy) Bool.false_ne_true
theorem call_len_seq : CallR X (.builtin "len") (fun xs H Q => ∃ p ys, xs = [.ref p] ∧ (SqL X.K H p ys ∨ SqT X.K H p ys) ∧ Q (.int ys.length) H) := by
  intro pins s σ H xs us Q I r h
  obtain ⟨p, ys, rfl, hq, q⟩ := h
  obtain ⟨u, rfl, rx⟩ := vals1 r
  cases rx
  have hn := line63
  rcases hq with hq | hq
  · obtain ⟨its, r', pl, hz⟩ := I.list hq
    have hlen := r'.length
    exact Calls.call_len_list pl.isList (by simp only [List.size_toArray] <;> omega) ⟨.int ys.length, H, I.tok _, ⟨s.toks + 1, by rw [List.size_toArray, hlen]⟩, q⟩
  · obtain ⟨its, r', pl, hz⟩ := I.tuple hq
    have hlen := r'.length
    exact len_tuple pl (by simp only [List.size_toArray] <;> omega) ⟨.int ys.length, H, I.tok _, ⟨s.toks + 1, by rw [List.size_toArray, hlen]⟩, q⟩
theorem call_list_of : CallR X (.type "list") (fun xs H Q => ∃ p ys, xs = [.ref p] ∧ (SqL X.K H p ys ∨ SqT X.K H p ys) ∧ ∀ l, H l = none → Q (.ref l) (upd H l (.lst ys))) := by
  intro pins s σ H xs us Q I r h
  obtain ⟨p, ys, rfl, hq, q⟩ := h
  obtain ⟨u, rfl, rx⟩ := vals1 r
  cases rx
  have fin : ∀ (its : List Value), Vals ys its → ys.length ≤ sizeLine → ∀ (h' : Heap) (c' : Nat), (∀ b o', s.heap.get? b = some o' → h'.get? b = some o') →
      h'.get? s.heap.objs.size = some { cls := .type "list", dict := none, data := .seq its.toArray c', slots := #[] } → EP X pins σ Q (.ref s.heap.objs.size) { s with heap := h' } := fun its r' hz h' c' kp e =>
    ⟨.ref s.heap.objs.size, _, I.laid (t' := s.toks) kp (Nat.le_refl _) (show ObjOk X.prog X.w _ h' _ (.lst ys) from ⟨hz, its, c', r', e⟩), rfl, q _ (I.hok.fresh (Nat.le_refl _))⟩
  rcases hq with hq | hq
  · obtain ⟨its, r', pl, hz⟩ := I.list hq
    have hlen := r'.length
    obtain ⟨o, ho, hc, n, hd⟩ := pl.isList
    exact call_list_seq p (.inl rfl) ho hc hd (fun h' c' kp e => fin its r' hz h' c' kp e) (by simp only [List.size_toArray] <;> omega)
  · obtain ⟨its, r', pl, hz⟩ := I.tuple hq
    have hlen := r'.length
    obtain ⟨o, ho, hc, n, hd⟩ := pl
    exact call_list_seq p (.inr rfl) ho hc hd (fun h' c' kp e => fin its r' hz h' c' kp e) (by simp only [List.size_toArray] <;> omega)
def tyV (K : PySem.W.Frag) (T : String) (x : V) (H : Hp) : Prop := match x with
  | .str _ => T = "str"
  | .int _ => T = "int"
  | .ref p => (T = "list" ∧ ∃ xs, SqL K H p xs) ∨ (T = "tuple" ∧ ∃ o, K.lookup p = some o ∧ o.cls = .type "tuple" ∧ o.dict = none) ∨
      (T = "dict" ∧ ((∃ kvs, H p = some (.dK kvs)) ∨ ∃ kvs, H p = some (.dT kvs))) ∨ (T = "set" ∧ ∃ S n, H p = some (.set S n))
  | _ => False
theorem tyV_is {pins : List (Addr × Obj)} {σ : St} {H : Hp} {s : Shared} {T : String} {x : V} {v : Value} (I : Inv X pins σ H s) (r : RelV x v) (ty : tyV X.K T x H) :
    s.TypeIs v T ∧ ∀ a, v = .ref a → ∃ ob, s.heap.get? a = some ob ∧ ob.dict = none := by
  cases x with
  | str z =>
    obtain ⟨t, rfl⟩ := r
    cases (show T = "str" from ty)
    exact ⟨typeIs_str s z t, fun _ e => nomatch e⟩
  | int i =>
    obtain ⟨t, rfl⟩ := r
    cases (show T = "int" from ty)
    exact ⟨typeIs_int s i t, fun _ e => nomatch e⟩
  | ref p =>
    cases r
    rcases ty with ⟨rfl, xs, hq⟩ | ⟨rfl, o, hk, hc, hd⟩ | ⟨rfl, hk⟩ | ⟨rfl, S, n, hk⟩
    · obtain ⟨its, _, pl, _⟩ := I.list hq
      refine ⟨pl.isList.typeIs, fun a e => ?_⟩
      cases e
      obtain ⟨o, n, e, c, hd, _⟩ := pl
      exact ⟨o, e, hd⟩
    · refine ⟨⟨o, I.kIn p o hk, hc⟩, fun a e => ?_⟩
      cases e
      exact ⟨o, I.kIn _ o hk, hd⟩
    · have z : ∃ o, s.heap.get? p = some o ∧ o.ExactDict := by
        rcases hk with ⟨kvs, hk⟩ | ⟨kvs, hk⟩
        · obtain ⟨_, _, _, _, o, _, _, e, ex, _⟩ := I.hok p _ hk
          exact ⟨o, e, ex⟩
        · obtain ⟨_, _, _, _, o, _, _, e, ex, _⟩ := I.hok p _ hk
          exact ⟨o, e, ex⟩
      obtain ⟨o, e, ex⟩ := z
      refine ⟨⟨o, e, ex.1⟩, fun a e2 => ?_⟩
      cases e2
      exact ⟨o, e, ex.2.1⟩
    · obtain ⟨o, _, _, _, e, ex, _⟩ := I.hok p _ hk
      refine ⟨⟨o, e, ex.1⟩, fun a e2 => ?_⟩
      cases e2
      exact ⟨o, e, ex.2.1⟩
  | _ => exact False.elim ty
def tBM (K : PySem.W.Frag) (T : String) (r : V → List V → Hp → VK → Prop) (to : TE) (t : TA) : TE := fun σ H Q => to σ H fun x H1 => tyV K T x H1 ∧ t σ H1 fun xs H2 => r x xs H2 Q
variable {o e : Expr} {es : List Expr} {to : TE} {t : TA} {name : Str} {apos cpos : Pos} {T id : String} {r : V → List V → Hp → VK → Prop}
theorem pe_bm (pa : PlainAttrs T) (slot : Slot T name id) (hty : typeOf (.builtin id) = pure (.type "method_descriptor")) (hm : MtR X id r) (ho : PE X o to) (ha : PA X (e :: es) t)
    (hbase : attributeBase o name X.env (eval o X.env) = eval o X.env := by rfl)
    (hfew : ((backTo cpos (starEach (e :: es) X.env)).all (fun x => !x.1) && (backToKw cpos (keywordEach [] X.env)).all (fun x => x.1.isSome)
      && decide ((e :: es).length + ([] : List Keyword).length + (if ([] : List Keyword).isEmpty then 0 else 1) < 30)) = true := by rfl)
    (hline : (apos.endLine == cpos.line) = true := by rfl) (hs : starEach (e :: es) X.env = (false, eval e X.env) :: starEach es X.env := by rfl) (hplain : (backTo cpos (starEach es X.env)).any (·.1) = false := by rfl) :
    PE X (.Call (.Attribute o name apos) (e :: es) [] cpos) (tBM X.K T r to t) := by
  intro pins s σ H Q I h
  refine wpAny_Call_method_late hbase hfew hline rfl (thn (ho pins s σ H _ I h) fun v s1 ⟨x, H1, I1, r1, ty, q1⟩ => ?_)
  obtain ⟨h1, h2⟩ := tyV_is I1 r1 ty
  refine ⟨T, id, pa, slot, hty, h1, h2, ?_⟩
  have hA := ha cpos pins s1 σ H1 _ I1 q1
  rw [hs] at hA ⊢
  refine Calls.callWith_builtin (by show (false || (backTo cpos (starEach es X.env)).any (·.1)) = false; rw [hplain] <;> rfl) (Calls.evalArgs_plain ?_)
  exact thn hA fun us s2 ⟨vs, H2, I2, r2, q2⟩ => hm pins s2 σ H2 x vs v us Q I2 r1 r2 q2
end
end L2
namespace L2
open PySem PySem.Spec PyProof.Rows
def MtM (X : Cx) (id : String) (r : V → List V → Hp → VK → Prop) : Prop :=
  ∀ (pins : List (Addr × Obj)) (s : Shared) (σ : St) (H : Hp) (x : V) (xs : List V) (v : Value) (us : List Value) (Q : VK), Inv X pins σ H s → RelV x v → Vals xs us → r x xs H Q →
    wpAny (model X.prog X.w) X.A (call (.builtin id) (v :: us)) (EP X pins σ Q) X.xe s
theorem Vals.one : ∀ {x : V} {us : List Value}, Vals [x] us → ∃ u, us = [u] ∧ RelV x u
  | _, _, .cons r .nil => ⟨_, rfl, r⟩
theorem Vals.two : ∀ {x y : V} {us : List Value}, Vals [x, y] us → ∃ u v, us = [u, v] ∧ RelV x u ∧ RelV y v
  | _, _, _, .cons r (.cons q .nil) => ⟨_, _, rfl, r, q⟩
theorem Vals.eraseIdx : ∀ {xs : List V} {us : List Value} (i : Nat), Vals xs us → Vals (xs.eraseIdx i) (us.eraseIdx i)
  | _, _, _, .nil => .nil
  | _, _, 0, .cons _ t => t
  | _, _, i + 1, .cons r t => .cons r (Vals.eraseIdx i t)
theorem len_erase {α : Type} : ∀ (l : List α) (i : Nat), (l.eraseIdx i).length ≤ l.length
  | [], _ => Nat.le_refl _
  | _ :: _, 0 => Nat.le_succ _
  | _ :: r, i + 1 => Nat.succ_le_succ (len_erase r i)
section
variable {X : Cx} {pins : List (Addr × Obj)} {σ : St} {H : Hp} {s : Shared} {l b : Addr} {xs ys zs : List V}
theorem Inv.lset {its its' : List Value} {n : Nat} {f : Array Value → Array Value} {t' : Nat} (I : Inv X pins σ H s) (hH : H l = some (.lst xs))
    (e : s.heap.get? l = some { cls := .type "list", data := .seq its.toArray n }) (hf : f its.toArray = its'.toArray) (hv : Vals ys its') (hz : ys.length ≤ sizeLine) :
    Inv X pins σ (upd H l (.lst ys)) { s with heap := s.heap.update l (Obj.mapSeq f), toks := t' } := by
  have q := PySem.IsL.update e f
  rw [hf] at q
  refine I.write (x := l) (e := l) (by rw [hH]; exact trivial) (.inl rfl) (fun b' u hb hu => (Heap.get?_update_other s.heap (Obj.mapSeq f) (Ne.symm hb)).trans hu) ⟨_, q⟩ ?_
  exact ⟨hz, its', _, hv, q⟩
theorem Inv.lnew {its : List Value} {t' : Nat} (I : Inv X pins σ H s) (hv : Vals ys its) (hz : ys.length ≤ sizeLine) :
    Inv X pins σ (upd H s.heap.objs.size (.lst ys)) { s with heap := s.heap.push { cls := .type "list", data := .seq its.toArray }, toks := t' } :=
  I.laid (fun _ _ q => Heap.get?_push_of_some _ q) (Nat.le_refl _) ⟨hz, its, 0, hv, Heap.get?_push_size _ rfl⟩
theorem Inv.fresh (I : Inv X pins σ H s) : H s.heap.objs.size = none := I.hok.fresh (Nat.le_refl _)
theorem Inv.lstM (I : Inv X pins σ H s) (hH : H l = some (.lst xs)) : xs.length ≤ sizeLine ∧ ∃ (its : List Value) (n : Nat), Vals xs its ∧ xs.length = its.length ∧ s.heap.get? l = some { cls := .type "list", data := .seq its.toArray n } := by
  obtain ⟨z, its, n, r, e⟩ := I.hok l _ hH
  exact ⟨z, its, n, r, r.length, e⟩
end
section
variable {X : Cx}
def rAppend : V → List V → Hp → VK → Prop := fun x vs H Q => ∃ l xs y, x = .ref l ∧ vs = [y] ∧ H l = some (.lst xs) ∧ xs.length < sizeLine ∧ Q .non (upd H l (.lst (xs ++ [y])))
theorem mt_append : MtM X "list.append" rAppend := by
  intro pins s σ H x vs v us Q I rx rv h
  obtain ⟨l, xs, y, rfl, rfl, hH, hz, q⟩ := h
  cases rx
  obtain ⟨u, rfl, ru⟩ := rv.one
  obtain ⟨z, its, n, r, hl, e⟩ := I.lstM hH
  refine call_meets F.slot_list_append ⟨_, e, rfl⟩ F.entry_list_append (F.args_list_append_2 _ _) (PySem.list_append l its.toArray n u (by rw [List.size_toArray]; omega)) ⟨e, ?_⟩
  refine ⟨.non, _, I.lset (its' := its ++ [u]) hH e (by simp) (r.append (.cons ru .nil)) ?_, rfl, q⟩
  rw [List.length_append, List.length_singleton]
  omega
def rPopAt : V → List V → Hp → VK → Prop := fun x vs H Q => ∃ l xs i k y, x = .ref l ∧ vs = [.int i] ∧ H l = some (.lst xs) ∧ -(2 ^ 63) ≤ i ∧ i < 2 ^ 63 ∧ seqIndex? i xs.length = some k ∧ xs[k]? = some y ∧ Q y (upd H l (.lst (xs.eraseIdx k)))
theorem mt_popAt : MtM X "list.pop" rPopAt := by
  intro pins s σ H x vs v us Q I rx rv h
  obtain ⟨l, xs, i, k, y, rfl, rfl, hH, h1, h2, hk, hy, q⟩ := h
  cases rx
  obtain ⟨u, rfl, ru⟩ := rv.one
  obtain ⟨t, rfl⟩ := ru
  obtain ⟨z, its, n, r, hl, e⟩ := I.lstM hH
  obtain ⟨w, hw, rw'⟩ := r.get hy
  refine call_meets F.slot_list_pop ⟨_, e, rfl⟩ F.entry_list_pop (F.args_list_pop_2 _ _)
    (MeetsSeq.list_pop_at l its.toArray n i t k w (fitsIndex_both h1 h2) (by rw [List.size_toArray, ← hl]; exact hk) (by rw [← Array.getElem?_toList]; exact hw) (by rw [List.size_toArray]; omega)) ⟨e, ?_⟩
  refine ⟨y, _, I.lset (its' := its.eraseIdx k) hH e ?_ (r.eraseIdx k) ?_, rw', q⟩
  · show its.toArray.eraseIdxIfInBounds k = (its.eraseIdx k).toArray
    rw [List.eraseIdxIfInBounds_toArray]
  · have := len_erase xs k
    omega
end
section
variable {prog : Program} {w : World} {A : Around} {E : Value → Shared → Prop} {s : Shared}
end
section
variable {X : Cx}
end
end L2
namespace Att
open PySem PySem.W PySem.Calls PyProof.Rows
theorem ints_of_wellAll {P : Params} {h : Heap} : ∀ (ns : List Int) (vs : List Value), WellAll P h vs (ns.map WData.int) → IntsAre vs ns := by
  intro ns
  induction ns with
  | nil =>
    intro vs w
    rw [List.map_nil] at w
    cases w
    exact .nil
  | cons n ns ih =>
    intro vs w
    rw [List.map_cons] at w
    cases w with
    | cons a b =>
      cases a
      exact .cons _ _ (ih _ b)
theorem script_of {l : OpenLaw} {n : Nat} (hn : l.most = some n) {P : Params} {h : Heap} {args : List WData} {vals : List Value}
    (hpre : l.row.toRowW.claim.pre args = true) (hwl : WellAll P h vals args) :
    ∃ a vs ns, vals = [Value.ref a] ∧ args = [WData.list (ns.map WData.int)] ∧ h.get? a = some { cls := .type "list", data := .seq vs.toArray } ∧ IntsAre vs ns ∧ ns.length ≤ n := by
  have hsh : WShape.hasAll [] args [.list .int] = true := (pre_splitW hpre).1
  have hc : l.pre.holds [] { args := args } = true := (pre_splitW hpre).2
  obtain ⟨d, r, rfl, h1, h2⟩ := hasAllW_cons hsh
  obtain rfl := hasAllW_nil h2
  obtain ⟨xs, rfl, h3⟩ := hasW_list h1
  obtain ⟨ns, rfl⟩ := items_int h3
  have hlen : ns.length ≤ n := by
    unfold OpenLaw.pre at hc
    have h4 : (WTm.not (.lt (.lit (.int (n : Int))) (.len (.arg 0)))).holds [] { args := [.list (ns.map .int)] } = true := by
      have h4 := (holds_andW hc).1
      rw [hn] at h4
      exact h4
    have h5 := condW_of h4 (w_not (w_lt w_lit (w_len_list (w_arg rfl))))
    rw [List.length_map] at h5
    refine Nat.le_of_not_lt fun q => ?_
    have q' : (n : Int) < ((ns.length : Nat) : Int) := by omega
    first
      | (rw [decide_eq_true q'] at h5; exact absurd h5 (by decide))
      | (simp at h5; omega)
  cases hwl with
  | cons w1 w2 =>
    cases w2
    cases w1 with
    | list ho hall => exact ⟨_, _, ns, rfl, rfl, ho, ints_of_wellAll ns _ hall, hlen⟩
theorem post_true (l : OpenLaw) (args : List WData) : l.row.toRowW.claim.post args (.bool true) args = true :=
  postW_of (r := l.row.toRowW) (X := (true == true))
    (show WShape.has [] (.bool true) .bool = true by first | rfl | decide | simp [WShape.has, WShape.arms, WShape.armsAll])
    (show (WTm.eq .res (.lit (.bool true))).value [] { args := args, res := some (.bool true), after := args } = some (.bool (true == true)) from w_eq_bool (w_res rfl) w_lit) rfl
theorem attach_call {l : OpenLaw} {n : Nat} {q : Program} {loose : List Str} {XP : (Str → Option Value) → Heap → Prop} {YP : World → Heap → Prop} {d : DefRec}
    (hn : l.most = some n) (hdf : d.params.defaults = [])
    (call : ∀ (w : World) (s₀ s₁ : Shared) (mg mb : Str → Option Value) (fa : Addr) (o : Obj) (pm cd doc : Value) (a : Addr) (vs : List Value) (ns : List Int),
      Ground q loose [] XP w s₀ mg mb s₁.heap → YP w s₁.heap →
      s₁.heap.get? fa = some o → o.data = .func (docDef d.name d.params d.body d.scope pm cd doc) → s₁.heap.CodeRec cd d.name → mg d.name = some (.ref fa) →
      s₁.heap.get? a = some { cls := .type "list", data := .seq vs.toArray } → IntsAre vs ns → ns.length ≤ n → s₁.gens = #[] →
      codeAny (model l.prog w) callerA (.call (.ref fa) ⟨[.ref a], []⟩) (fun r s' => r = .ok (.ret (.bool true)) ∧ OldK s₁.heap s'.heap ∧ s'.os = s₁.os ∧ AllBare s'.gens) s₁) :
    WalkO q loose XP YP l.row.toRowW d [] (fun f vs => PySem.call f vs) := by
  intro w s₀ s₁ mg mb G Y fa o pm cd doc dV kV ho hd hcd hD hmg hg args vals as hpre hlay hrd hwl hlo
  obtain rfl : dV = .none := Dflts.none hD hdf
  obtain rfl : kV = .none := Dflts.noKw hD
  obtain ⟨a, vs, ns, rfl, rfl, hobj, hints, hlen⟩ := script_of hn hpre hwl
  refine enter_call (codeAny_mono (call w s₀ s₁ mg mb fa o pm cd doc a vs ns G Y ho (fd_plain hd) hcd hmg hobj hints hlen hg) fun r s' hq => ?_)
  obtain ⟨rfl, h2, h3, h4⟩ := hq
  exact ⟨.inl ⟨.bool true, .bool true, [], rfl, fun _ => rfl, .bool true, post_true l _, fun _ => ⟨List.Pairwise.nil, fun _ hm => (nomatch hm)⟩⟩, h2, h3, h4⟩
section
variable {prog : Program} {w : World} {A : Around} {E : Value → Shared → Prop} {s : Shared} {K : Frag}
end
end Att
namespace L2
open PySem PySem.Spec PyProof.Rows
theorem vals_ints : ∀ {vs : List Value} {ns : List Int}, IntsAre vs ns → Vals (ns.map V.int) vs
  | _, _, .nil => .nil
  | _, _, .cons n t h => .cons ⟨t, rfl⟩ (vals_ints h)
def Only (H : Hp) : Prop := ∀ b, H b = none ∨ ∃ o xs, H b = some (.frz o (.lst xs))
theorem law_call {P : Program} {w : World} {K : PySem.W.Frag} {mg mb : Str → Option Value} {CX : CXT} {k : Nat} {fa a : Addr} {fd : FuncData} {x : Str} {sp : Sp} {s₁ : Shared} {vs : List Value} {ns : List Int}
    (KX : K.In s₁.heap) (hns : s₁.heap.Ns mainGlobals mg) (hb : s₁.heap.Ns builtinsNs mb) (hbb : ∀ x : Str, x ≠ "__name__" → mb x = bootBuiltins x) (hlim : s₁.heap.NoLimit) (hg : s₁.gens = #[])
    (ha : s₁.heap.get? a = some { cls := .type "list", data := .seq vs.toArray }) (hi : IntsAre vs ns) (hl : ns.length ≤ sizeLine) (hr : Room k callerA)
    (F : ∀ base : Heap, K.In base → base.Ns mainGlobals mg → FnOk P w K mg base CX k fa fd [x] sp) (hbind : ∀ (s : Shared) (u : Value), BindsTo s fd ⟨[u], []⟩ [(x, u)])
    (hsp : ∀ H : Hp, Only H → SqL K H a (ns.map V.int) → sp [.ref a] H (fun v _ => v = .bl true) fun _ _ _ => False)
    (hCX : ∀ H e s', CX [] H s₁ (fun _ _ _ => False) e s' → False) :
    codeAny (model P w) callerA (.call (.ref fa) ⟨[.ref a], []⟩) (fun r s' => r = .ok (.ret (.bool true)) ∧ OldK s₁.heap s'.heap ∧ s'.os = s₁.os ∧ AllBare s'.gens) s₁ := by
  have rv := vals_ints hi
  have lenV := hi.length
  have core : ∀ H : Hp, Only H → SqL K H a (ns.map V.int) → HOk P w H s₁.heap → (∀ b, H b ≠ none → b = a) → (H a ≠ none → K.lookup a = none) →
      codeAny (model P w) callerA (.call (.ref fa) ⟨[.ref a], []⟩) (fun r s' => r = .ok (.ret (.bool true)) ∧ OldK s₁.heap s'.heap ∧ s'.os = s₁.os ∧ AllBare s'.gens) s₁ := by
    intro H hO hS hok hA hK
    have base_of : ∀ {b : Addr} {o : Obj}, s₁.heap.get? b = some o → H b = none → (hidT s₁.heap H).get? b = some o := fun e n => hidT_get e n
    have noA : ∀ {b : Addr} {o : Obj} {es : Array DictEntry} {ep : Nat}, s₁.heap.get? b = some o → o.data = .dict es ep → H b = none := fun {b o es ep} e d => by
      cases q : H b with
      | none => rfl
      | some u =>
        have e' : b = a := hA b (by rw [q]; simp)
        subst e'
        rw [ha] at e; cases e
        have d' : Data.seq vs.toArray _ = Data.dict es ep := d
        cases d'
    have nsK : ∀ {b : Addr} {m : Str → Option Value}, s₁.heap.Ns b m → (hidT s₁.heap H).Ns b m := fun {b m} ⟨o, es, ep, e, d, r⟩ => ⟨o, es, ep, base_of e (noA e d), d, r⟩
    have hKb : K.In (hidT s₁.heap H) := fun b o e => base_of (KX b o e) (by
      cases q : H b with
      | none => rfl
      | some u =>
        have e' : b = a := hA b (by rw [q]; simp)
        subst e'
        rw [hK (by rw [q]; simp)] at e; cases e)
    have hM : Mod K mg (hidT s₁.heap H) := ⟨hKb, nsK hns, ⟨mb, nsK hb, hbb⟩, let ⟨mc, h1, h2⟩ := hlim; ⟨mc, nsK h1, h2⟩⟩
    have e0 : Env0 P w K mg (hidT s₁.heap H) callerA [] s₁ H := ⟨rfl, hM, fun b o e => of_hidT e, Nat.le_of_eq (hidT_size _ _), trivial, fun b hb => absurd (show b ∈ ([] : List Addr) from hb) (by simp), hok, .of_eq hg⟩
    refine codeAny_mono ((F _ hKb (nsK hns)).run callerA [] s₁ H ⟨[.ref a], []⟩ [.ref a] [.ref a] _ _ hr e0 (hbind s₁ (.ref a)) (.cons rfl .nil) (hsp H hO hS)) fun r s' h => ?_
    cases r with
    | error e => exact (hCX H e s' h).elim
    | ok fl =>
      cases fl with
      | next => exact False.elim h
      | brk => exact False.elim h
      | cont => exact False.elim h
      | ret u =>
        obtain ⟨v, H', os, bare, un, hok', r', q⟩ := h
        have q' : v = .bl true := q
        subst q'
        obtain rfl : u = Value.bool true := r'
        refine ⟨rfl, OldK.of_keep fun b o e => ?_, os, bare⟩
        cases q : H b with
        | none => exact un.keep b o e q (by intro z; exact absurd (show b ∈ ([] : List Addr) from z) (by simp)) (by simp)
        | some u =>
          rcases hO b with z | ⟨ob, xs, z⟩
          · rw [q] at z; cases z
          · have z2 := un.frzs b ob _ z
            obtain ⟨e1, _⟩ := hok b _ z
            obtain ⟨e2, _⟩ := hok' b _ z2
            rw [e] at e1; cases e1
            exact e2
  cases hk : K.lookup a with
  | some o =>
    have e := KX a o hk
    rw [ha] at e
    cases e
    refine core (fun _ => none) (fun _ => .inl rfl) (.inr ⟨_, vs.toArray, _, hk, rfl, rfl, rfl, by rw [List.size_toArray, lenV]; exact hl, by simpa using rv⟩) (fun b u z => by have z' : (none : Option HO) = some u := z; cases z') (fun b z => absurd rfl z) fun z => absurd rfl z
  | none =>
    refine core (fun b => if b = a then some (.frz { cls := .type "list", data := .seq vs.toArray } (.lst (ns.map V.int))) else none) (fun b => ?_) (.inl (.inr ⟨{ cls := .type "list", data := .seq vs.toArray }, if_pos rfl⟩)) (fun b u z => ?_) (fun b z => ?_) fun _ => hk
    · by_cases hb : b = a
      · exact .inr ⟨_, _, if_pos hb⟩
      · exact .inl (if_neg hb)
    · by_cases hb : b = a
      · have z' := (if_pos hb).symm.trans z
        cases z'
        subst hb
        exact ⟨ha, by rw [List.length_map]; exact hl, vs, _, rv, ha⟩
      · have z' := (if_neg hb).symm.trans z
        cases z'
    · by_cases hb : b = a
      · exact hb
      · exact absurd (if_neg hb) z
end L2
namespace L2
open PySem PySem.Spec PyProof.Rows
theorem walk_of {l : PySem.W.OpenLaw} {n k : Nat} {q : Program} {loose : List Str} {XP : (Str → Option Value) → Heap → Prop} {YP : World → Heap → Prop} {d : DefRec} {K : Params → PySem.W.Frag} {CX : World → CXT} {sp : World → Sp} {x : Str}
    (hn : l.most = some n) (hn2 : n ≤ sizeLine) (hdf : d.params.defaults = []) (hr : Room k callerA)
    (hY : ∀ (w : World) (h : Heap), YP w h → (K w.params).In h)
    (F : ∀ (w : World) (mg : Str → Option Value) (fa : Addr) (h : Heap), (K w.params).In h → h.Ns mainGlobals mg → mg d.name = some (.ref fa) →
      ∃ fd : FuncData, (∀ (s : Shared) (u : Value), BindsTo s fd ⟨[u], []⟩ [(x, u)]) ∧
        ∀ base : Heap, (K w.params).In base → base.Ns mainGlobals mg → FnOk l.prog w (K w.params) mg base (CX w) k fa fd [x] (sp w))
    (hsp : ∀ (w : World) (H : Hp) (a : Addr) (ns : List Int), ns.length ≤ n → Only H → SqL (K w.params) H a (ns.map V.int) → sp w [.ref a] H (fun v _ => v = .bl true) fun _ _ _ => False)
    (hCX : ∀ (w : World) (H : Hp) (s : Shared) (e : Value) (s' : Shared), CX w [] H s (fun _ _ _ => False) e s' → False) :
    PySem.W.WalkO q loose XP YP l.row.toRowW d [] (fun f vs => PySem.call f vs) := by
  refine Att.attach_call hn hdf fun w s₀ s₁ mg mb fa o pm cd doc a vs ns G Y ho hd hcd hmg hobj hints hlen hg => ?_
  have KX := hY w _ Y
  obtain ⟨fd, hb, hF⟩ := F w mg fa _ KX G.T.g hmg
  exact law_call KX G.T.g G.T.b G.T.builtins G.T.nolimit hg hobj hints (Nat.le_trans hlen hn2) hr hF hb (fun H hO hS => hsp w H a ns hlen hO hS) fun H e s' => hCX w H s₁ e s'
end L2
namespace L2
open PySem PySem.Spec PyProof.Rows
def defArgs (s : Stmt) : Arguments := match s with
  | .FunctionDef _ a _ _ _ _ _ _ _ _ => a
  | _ => { posonlyargs := [], args := [], vararg := none, kwonlyargs := [], kw_defaults := [], kwarg := none, defaults := [] }
def defBody (s : Stmt) : List Stmt := match s with
  | .FunctionDef _ _ b _ _ _ _ _ _ _ => b
  | _ => []
def defScope (s : Stmt) : Scope := match s with
  | .FunctionDef _ _ _ _ _ _ sc _ _ _ => sc
  | _ => { kind := .function, names := [], isGenerator := false, isCoroutine := false }
abbrev CX0 : CXT := fun _ _ _ _ _ _ => False
abbrev E0 : XK := fun _ _ _ => False
theorem pass0 {X : Cx} : Passes CX0 X E0 := fun _ _ _ _ _ _ _ h => h.elim
structure Fun (K : PySem.W.Frag) (x qual : Str) (st : Stmt) (f : Addr) (fd : FuncData) : Prop where
  ex : ∃ (oc : Value) (od : Option Addr) (kV doc pm : Value) (an : Option Addr) (cdv ct : Value) (osl : Array (Option Value)),
    fd = PySem.W.fnOf x qual (defArgs st) (defBody st) (defScope st) .none kV doc pm an cdv ct ∧ K.lookup f = some ⟨oc, od, .func fd, osl⟩ ∧ PySem.W.codeIn K cdv qual = true
  kp : PySem.W.keepIn K (.ref f) = true
section
variable {P : Program} {w : World} {K : PySem.W.Frag} {mg : Str → Option Value} {base : Heap}
theorem Fun.ok {x qual : Str} {st : Stmt} {f : Addr} {fd : FuncData} {N ps : List Str} {k : Nat} {sp : Sp} (F : Fun K x qual st f fd) (S : FnScope N ps (defScope st)) (len : ∀ vs H Q E, sp vs H Q E → vs.length = ps.length)
    (hbody : ∀ (cdv : Value) (A : Around) (outer : List Env) (s : Shared) (H : Hp) (vs : List V) (Q : VK) (E : XK), Room k (A.deeper (envOfC qual (defScope st) s.heap.objs.size f cdv)) → sp vs H Q E →
      ∃ t, PSs (cxOf CX0 P w K mg base N qual (defScope st) f cdv A outer s H E).nox (defBody st) t ∧ t { nx := fun _ H' => Q .non H', rt := Q } (start N vs) H) : FnOk P w K mg base CX0 (k + 1) f fd ps sp := by
  obtain ⟨oc, od, kV, doc, pm, an, cdv, ct, osl, rfl, lk, hcd⟩ := F.ex
  refine fn_of lk hcd S len fun A outer s H vs Q E hr hsp => ?_
  obtain ⟨t, h, q⟩ := hbody cdv A outer s H vs Q E hr hsp
  exact ⟨t, h.nox, q⟩
theorem Fun.binds {x qual : Str} {st : Stmt} {f : Addr} {fd : FuncData} {ps : List Str} (F : Fun K x qual st f fd)
    (h : ∀ (kV doc pm : Value) (an : Option Addr) (cdv ct : Value) (us : List Value), us.length = ps.length → bindArgs (PySem.W.fnOf x qual (defArgs st) (defBody st) (defScope st) .none kV doc pm an cdv ct) ⟨us, []⟩ = pure (ps.zip us)) : Binds K fd ps [] := by
  obtain ⟨oc, od, kV, doc, pm, an, cdv, ct, osl, rfl, lk, hcd⟩ := F.ex
  exact .all (h kV doc pm an cdv ct)
theorem fun_mk {x qual : Str} {st : Stmt} {f : Addr} {oc : Value} {od an : Option Addr} {osl : Array (Option Value)} {kV doc pm cdv ct : Value} (l : K.lookup f = some ⟨oc, od, .func (PySem.W.fnOf x qual (defArgs st) (defBody st) (defScope st) .none kV doc pm an cdv ct), osl⟩)
    (c : PySem.W.codeIn K cdv qual = true) (k : PySem.W.keepIn K (.ref f) = true) : Fun K x qual st f (PySem.W.fnOf x qual (defArgs st) (defBody st) (defScope st) .none kV doc pm an cdv ct) := ⟨⟨oc, od, kV, doc, pm, an, cdv, ct, osl, rfl, l, c⟩, k⟩
end
section
variable {X : Cx}
theorem pv (i : Nat) {x : Str} {pos : Pos} (hN : X.N[i]? = some x := by rfl) (hv : Vis X.env.scope x := by first | exact Or.inl rfl | exact Or.inr (Or.inl rfl) | exact Or.inr (Or.inr rfl)) (hd : (x == ("__debug__" : Str)) = false := by decide)
    (hcd : (x == ("__classdict__" : Str)) = false := by decide) : PE X (.Name x pos) (tVar i) := pe_var hN hv hd hcd
end
theorem iteF {A B : Prop} (h : B) : if false = true then A else B := by
  rw [if_neg Bool.false_ne_true]
  exact h
theorem iteT {A B : Prop} (h : A) : if true = true then A else B := by
  rw [if_pos rfl]
  exact h
def Same (H H' : Hp) : Prop := ∀ b o, H b = some o → H' b = some o
theorem Same.refl (H : Hp) : Same H H := fun _ _ h => h
theorem Same.trans {H H1 H2 : Hp} (a : Same H H1) (b : Same H1 H2) : Same H H2 := fun c o h => b c o (a c o h)
theorem Same.free {H H' : Hp} (e : Same H H') {l : Addr} (h : H' l = Option.none) : H l = Option.none := by
  cases q : H l with
  | none => rfl
  | some o =>
    rw [e l o q] at h
    cases h
theorem Same.seq {K : PySem.W.Frag} {H H' : Hp} {a : Addr} {xs : List V} (e : Same H H') (h : SqL K H a xs) : SqL K H' a xs := by
  rcases h with (h | ⟨o, h⟩) | h
  · exact .inl (.inl (e _ _ h))
  · exact .inl (.inr ⟨o, e _ _ h⟩)
  · exact .inr h
end L2
namespace L2
open PySem PySem.Spec PyProof.Rows
abbrev NoX : Value → Shared → Prop := fun _ _ => False
theorem noX {α : Type} {M : Model} {A : Around} {m : Sem α} {Q : α → Shared → Prop} {E : Value → Shared → Prop} {s : Shared} (h : wpAny M A m Q NoX s) : wpAny M A m Q E s :=
  wpAny_mono h (fun _ _ q => q) fun _ _ z => z.elim
abbrev lcTests (ifs : List Expr) (env : Env) : Sem Bool :=
  forIn ifs true fun c r => if r = true then do let ok ← isTrue c env (eval c env); pure (ForInStep.yield ok) else pure (ForInStep.yield r)
theorem lcLoop {P : Program} {w : World} {A : Around} {R : Result → Shared → Prop} {s : Shared} {elt tg iter : Expr} {ifs : List Expr} {sc : Scope} {pos : Pos} {it acc : Value} {env : Env} (I : Nat → Shared → Prop)
    (turn : ∀ n s, I n s → wpAny (model P w) A (pyNext it) (fun r s1 => match r with
      | none => R (.ok .next) s1
      | some v => wpAny (model P w) A (letOwnedTupleGo tg it v) (fun _ s2 => wpAny (model P w) A (assign tg env v) (fun _ s3 =>
          wpAny (model P w) A (lcTests ifs env) (fun ok s4 => if ok = true then wpAny (model P w) A (eval elt env) (fun x s5 =>
              wpAny (model P w) A (call (.builtin "list.append") [acc, x]) (fun _ s6 => ∃ m, m < n ∧ I m s6) NoX s5) NoX s4
            else ∃ m, m < n ∧ I m s4) NoX s3) NoX s2) NoX s1) NoX s)
    (n : Nat) (h : I n s) : codeAny (model P w) A (.compLoop (.ListComp elt [⟨tg, iter, ifs, 0⟩] sc pos) 0 it acc env) R s := by
  refine codeAny_loop rfl I (fun n s hI => ?_) n h
  show wpAny (model P w) A ((compTurn (.ListComp elt [⟨tg, iter, ifs, 0⟩] sc pos) 0 it acc env).onRaise (fun x => do noteFrame x env; theTreesLotGoes x)) _ _ s
  refine wpAny_noted (noX ?_)
  rw [compTurn_list]
  refine wpAny_bind (wpAny_standAt (wpAny_bind (thn (turn n s hI) fun r s1 h1 => ?_)))
  cases r with
  | none => exact wpAny_pure h1
  | some v =>
    refine wpAny_bind (thn h1 fun _ s2 h2 => wpAny_bind (thn h2 fun _ s3 h3 => wpAny_bind (thn h3 fun ok s4 h4 => ?_)))
    cases ok with
    | false => exact wpAny_pure ⟨rfl, h4⟩
    | true => exact wpAny_bind (wpAny_bind (thn h4 fun x s5 h5 => wpAny_bind (thn h5 fun _ s6 h6 => wpAny_pure (wpAny_pure ⟨rfl, h6⟩))))
theorem cf_some : ∀ (names : List (Str × NameKind)) (n : Nat) (acc : List (Str × Addr)) (y : Str), (∃ c, acc.lookup y = some c) → ∃ c, (cellsFrom n names acc).lookup y = some c
  | [], _, _, _, h => h
  | (name, kind) :: r, n, acc, y, ⟨c, h⟩ => by
    unfold cellsFrom
    split
    · refine cf_some r _ _ y ?_
      rw [List.lookup_cons]
      split
      · exact ⟨_, rfl⟩
      · exact ⟨c, h⟩
    · exact cf_some r _ _ y ⟨c, h⟩
theorem cf_has : ∀ (names : List (Str × NameKind)) (n : Nat) (acc : List (Str × Addr)) (y : Str), (y, NameKind.cell) ∈ names → ∃ c, (cellsFrom n names acc).lookup y = some c
  | [], _, _, _, h => nomatch h
  | (name, kind) :: r, n, acc, y, h => by
    unfold cellsFrom
    rcases List.mem_cons.mp h with e | h
    · cases e
      rw [if_pos (by decide)]
      exact cf_some r _ _ _ ⟨n, by rw [List.lookup_cons_self]⟩
    · split
      · exact cf_has r _ _ y h
      · exact cf_has r _ _ y h
theorem cf_lookup : ∀ (names : List (Str × NameKind)) (n : Nat) (acc : List (Str × Addr)) (y : Str) (c : Addr), (cellsFrom n names acc).lookup y = some c → acc.lookup y = some c ∨ (n ≤ c ∧ (y, NameKind.cell) ∈ names)
  | [], _, _, _, _, h => .inl h
  | (name, kind) :: r, n, acc, y, c, h => by
    unfold cellsFrom at h
    split at h
    · rename_i hk
      rcases cf_lookup r _ _ y c h with q | ⟨q1, q2⟩
      · rw [List.lookup_cons] at q
        split at q
        · rename_i hy
          cases q
          rw [beq_iff_eq.mp hy, ← beq_iff_eq.mp hk]
          exact .inr ⟨Nat.le_refl _, .head _⟩
        · exact .inl q
      · exact .inr ⟨Nat.le_of_succ_le q1, .tail _ q2⟩
    · rcases cf_lookup r _ _ y c h with q | ⟨q1, q2⟩
      · exact .inl q
      · exact .inr ⟨q1, .tail _ q2⟩
theorem cf_old : ∀ (names : List (Str × NameKind)) (n : Nat) (acc : List (Str × Addr)) (y : Str), (y, NameKind.cell) ∉ names → (cellsFrom n names acc).lookup y = acc.lookup y
  | [], _, _, _, _ => rfl
  | (name, kind) :: r, n, acc, y, h => by
    unfold cellsFrom
    have hr : (y, NameKind.cell) ∉ r := fun z => h (.tail _ z)
    split
    · rename_i hk
      rw [cf_old r _ _ y hr, List.lookup_cons]
      split
      · rename_i hy
        exact absurd (show (y, NameKind.cell) ∈ (name, kind) :: r by rw [beq_iff_eq.mp hy, ← beq_iff_eq.mp hk]; exact .head _) h
      · rfl
    · exact cf_old r _ _ y hr
theorem cf_inj : ∀ (names : List (Str × NameKind)) (n : Nat) (acc : List (Str × Addr)), (∀ y c, acc.lookup y = some c → c < n) → (∀ y z c, acc.lookup y = some c → acc.lookup z = some c → y = z) →
    ∀ y z c, (cellsFrom n names acc).lookup y = some c → (cellsFrom n names acc).lookup z = some c → y = z
  | [], _, _, _, h => h
  | (name, kind) :: r, n, acc, h1, h2 => by
    unfold cellsFrom
    split
    · refine cf_inj r _ _ (fun y c e => ?_) fun y z c e e' => ?_
      · rw [List.lookup_cons] at e
        split at e
        · cases e; exact Nat.lt_succ_self _
        · exact Nat.lt_succ_of_lt (h1 y c e)
      · rw [List.lookup_cons] at e e'
        split at e
        · rename_i hy
          cases e
          split at e'
          · rename_i hz
            rw [beq_iff_eq.mp hy, beq_iff_eq.mp hz]
          · exact absurd (h1 z _ e') (Nat.lt_irrefl _)
        · split at e'
          · cases e'
            exact absurd (h1 y _ e) (Nat.lt_irrefl _)
          · exact h2 y z c e e'
    · exact cf_inj r _ _ h1 h2
theorem cf_cell : ∀ (names : List (Str × NameKind)) (h : Heap) (acc : List (Str × Addr)) (y : Str) (c : Addr), (cellsFrom h.objs.size names acc).lookup y = some c → acc.lookup y = some c ∨ (pushCells h names).IsCell c none
  | [], _, _, _, _, e => .inl e
  | (name, kind) :: r, h, acc, y, c, e => by
    unfold cellsFrom at e
    unfold pushCells
    split
    · rename_i hk
      rw [if_pos hk] at e
      rw [show h.objs.size + 1 = (h.push { cls := .type "cell", data := .cell none }).objs.size from (Heap.size_push ..).symm] at e
      rcases cf_cell r _ _ y c e with q | q
      · rw [List.lookup_cons] at q
        split at q
        · cases q
          exact .inr (Heap.IsCell.keeps ⟨_, Heap.get?_push_size _ rfl, rfl⟩ (pushCells_keeps r _))
        · exact .inl q
      · exact .inr q
    · rename_i hk
      rw [if_neg hk] at e
      exact cf_cell r _ _ y c e
theorem newEnv_cells {M : Model} {A : Around} {E : Value → Shared → Prop} {s : Shared} {scope : Scope} {globals : Addr} {cl : List (Str × Addr)} {qual : Str} {func : Option Addr} {code : Value} {env : Env} {builtins : Addr} {Q : Env → Shared → Prop}
    (hQ : Q (newEnv scope s.heap.objs.size globals (cellsFrom (s.heap.objs.size + 1) scope.names cl) qual func code (some env) builtins) { s with heap := pushCells (s.heap.push { cls := .type "dict", data := .dict #[] }) scope.names }) :
    wpAny M A (newFunctionEnv scope globals cl [] qual func code (some env) builtins) Q E s := by
  simp only [newFunctionEnv, Option.isSome_some, if_true]
  refine wpAny_bind (wpAny_alloc ?_)
  refine wpAny_bind (wpAny_layCells _ (fun name kind cells => by cases hkc : kind == NameKind.cell <;> simp [hkc]) _ _ _ _ ?_)
  rw [show ({ s with heap := s.heap.push { cls := .type "dict", data := .dict #[] } } : Shared).heap.objs.size = s.heap.objs.size + 1 from Heap.size_push ..]
  rw [List.forIn_nil]
  exact wpAny_bind (wpAny_pure (wpAny_pure hQ))
def cxLc (X : Cx) (own : List Str) (fr : List Nat) (sc : Scope) (cl : List (Str × Addr)) (C : Addr) (s : Shared) (H : Hp) (ex : List Addr) (pn : List (Addr × Obj)) : Cx where
  prog := X.prog
  w := X.w
  K := X.K
  mg := X.mg
  base := X.base
  A := X.A
  N := own ++ fr.map fun j => X.N.getD j ""
  s₀ := s
  H₀ := H
  env := compEnvC sc (cellsFrom (C + 1) sc.names cl) C X.env
  outer := X.stack
  stack := X.stack
  ex := ex
  fn := fun y => (cl.lookup y).isNone
  calm := X.calm
  pn := pn
  xe := NoX
def lcStart (own : List Str) (fr : List Nat) (σ : St) : St := own.map (fun _ => none) ++ fr.map fun j => (σ[j]?).join
structure LcScope (X : Cx) (sc : Scope) (cl : List (Str × Addr)) (fr : List Nat) : Prop where
  clos : closureFor sc X.env = pure cl
  kind : sc.kind = .function
  cells : ∀ y, (y, NameKind.cell) ∈ sc.names → cl.lookup y = none
  names : ∀ y ∈ sc.names, y.2 = .local → sc.names.lookup y.1 = some .local
  sub : ∀ y c, cl.lookup y = some c → X.env.cells.lookup y = some c
  has : ∀ y, ((relabel sc X.env).names.lookup y = some .cell ∨ (relabel sc X.env).names.lookup y = some .free) → (∃ c, cl.lookup y = some c) ∨ (y, NameKind.cell) ∈ sc.names
  frN : ∀ j ∈ fr, ∃ y, X.N[j]? = some y ∧ ((relabel sc X.env).names.lookup y = some .cell ∨ (relabel sc X.env).names.lookup y = some .free) ∧ Vis X.env.scope y ∧ X.env.scope.names.lookup y ≠ some .local ∧ ∃ c, cl.lookup y = some c
def tLc (wi : TI) (g : TG) (tt : TT) (te : TE) (own : List Str) (fr : List Nat) : TE := fun σ H Q => wi σ H fun J H1 => ∀ acc, H1 acc = none →
  ∃ W : Nat → Nat → List V → St → Hp → Prop, (∃ m, W 0 m [] (lcStart own fr σ) (upd H1 acc (.lst []))) ∧ ∀ i m ys σ1 H2, W i m ys σ1 H2 → H2 acc = some (.lst ys) ∧ ys.length < sizeLine ∧
    ((J.stop i H2 ∧ Q (.ref acc) H2) ∨ (J.go i H2 ∧ ∃ N : List V → St → Hp → Prop, (∀ zs σ2 H3, N zs σ2 H3 → ∃ m', m' < m ∧ W (i + 1) m' zs σ2 H3) ∧
      ∀ x H3, J.yld i H2 x H3 → g x σ1 H3 fun σ2 H4 => tt σ2 H4 fun b H5 => if b = true then te σ2 H5 (fun y H6 => H6 acc = some (.lst ys) ∧ N (ys ++ [y]) σ2 (upd H6 acc (.lst (ys ++ [y])))) else N ys σ2 H5))
theorem getD_of {N : List Str} {j : Nat} {y : Str} (h : N[j]? = some y) : N.getD j "" = y := by rw [List.getD_eq_getElem?_getD, h]; rfl
theorem lcInv {X : Cx} {pins : List (Addr × Obj)} {σ : St} {H : Hp} {s : Shared} {sc : Scope} {cl : List (Str × Addr)} {own : List Str} {fr : List Nat} {fp : List Addr} {h4 : Heap} {tk : Nat}
    (L : LcScope X sc cl fr) (I : Inv X pins σ H s) (hfp : ∀ b ∈ fp, FpOk X pins H b) (hlt : ∀ b ∈ fp, b < s.heap.objs.size) (hns : h4.Ns s.heap.objs.size fun _ => none)
    (kp : ∀ b o, s.heap.get? b = some o → h4.get? b = some o) (ncl : ∀ y c, (cellsFrom (s.heap.objs.size + 1) sc.names cl).lookup y = some c → cl.lookup y = some c ∨ h4.IsCell c none) : Inv (cxLc X own fr sc cl s.heap.objs.size s H fp (X.pn ++ pins)) [] (lcStart own fr σ) H { s with heap := h4, toks := tk } := by
  have noL : ∀ {b : Addr} {o : Obj}, s.heap.get? b = some o → b ≠ s.heap.objs.size := fun e => Nat.ne_of_lt (Heap.lt_size e)
  have hex : ∀ b ∈ (cxLc X own fr sc cl s.heap.objs.size s H fp (X.pn ++ pins)).ex, b ∈ fp := fun b z => z
  have stk : ∀ b, b ≠ X.env.locals → b ∉ X.fs → b ∉ frs X.stack := fun b h1 h2 z => (List.mem_cons.mp (I.stkSub b z)).elim h1 h2
  have cellLt : ∀ y c, cl.lookup y = some c → ∃ v, s.heap.IsCell c v := fun y c e => I.cell y c (L.sub y c e)
  have split : ∀ y c, (cellsFrom (s.heap.objs.size + 1) sc.names cl).lookup y = some c → cl.lookup y = some c ∨ s.heap.objs.size + 1 ≤ c := fun y c e => (cf_lookup _ _ _ y c e).imp id And.left
  refine ⟨⟨I.ok.mod, L.kind, I.ok.glob, I.ok.blt, Nat.le_refl _, cf_inj _ _ _ (fun y c e => by obtain ⟨v, q⟩ := cellLt y c e; exact Nat.lt_succ_of_lt q.lt) (fun y z c h1 h2 => I.ok.inj y z c (L.sub y c h1) (L.sub z c h2)), fun y hy => (L.has y hy).elim (cf_some _ _ _ y) (cf_has _ _ _ y), fun y c hy e => ?_, I.ok.hd, I.ok.frames, .inl rfl,
      fun b hb => ⟨Nat.ne_of_lt (hlt b (hex b hb)), fun y c e => (split y c e).elim (fun q => (hfp b (hex b hb)).2.2.2.2.1 y c (L.sub y c q)) fun q => Nat.ne_of_gt (Nat.lt_of_lt_of_le (hlt b (hex b hb)) (Nat.le_of_succ_le q))⟩, I.bs, Nat.le_trans I.ok.bsz I.sz, fun b o e z => ?_, fun b z => ?_, I.stack, I.stkFree⟩,
    rfl, I.bare, Un.kept kp, ⟨_, hns, fun i y v h1 h2 h3 => ?_⟩, fun y c e => ?_, I.hok.fresh (Nat.le_refl _), fun y c e => (split y c e).elim (fun q => I.freeC y c (L.sub y c q)) fun q => I.hok.fresh (Nat.le_of_succ_le q), fun p hp => ?_, I.hok.kept kp, ?_⟩
  · have hy' : (cl.lookup y).isNone = true := hy
    rcases split y c e with q | q
    · rw [q] at hy'
      cases hy'
    · exact Nat.le_of_succ_le q
  · rcases (hfp b (hex b z)).2.2.2.1 with q | q
    · exact I.ok.noex b o e q
    · exact absurd (Nat.lt_of_lt_of_le (Heap.lt_size (I.ok.bs b o e).1) q) (Nat.lt_irrefl _)
  · exact stk b (hfp b (hex b z)).2.1 (hfp b (hex b z)).2.2.1
  · have h1' : (own ++ fr.map fun j => X.N.getD j "")[i]? = some y := h1
    have h2' : (own.map (fun _ => none) ++ fr.map fun j => (σ[j]?).join)[i]? = some (some v) := h2
    by_cases hi : i < own.length
    · rw [List.getElem?_append_left (by simpa using hi), List.getElem?_map] at h2'
      cases q : own[i]? with
      | none => rw [q] at h2'; cases h2'
      | some z => rw [q] at h2'; cases h2'
    · rw [List.getElem?_append_right (by omega), List.getElem?_map] at h1'
      rw [List.getElem?_append_right (by simpa using hi), List.getElem?_map, List.length_map] at h2'
      cases q : fr[i - own.length]? with
      | none => rw [q] at h1'; cases h1'
      | some j =>
        rw [q] at h1' h2'
        obtain ⟨y', n1, n2, n3, n4, c', e'⟩ := L.frN j (List.mem_of_getElem? q)
        have ey : y' = y := by
          have this : X.N.getD j "" = y := Option.some.inj h1'
          rw [getD_of n1] at this
          exact this
        subst ey
        have ev : σ[j]? = some (some v) := by
          have z : (σ[j]?).join = some v := Option.some.inj h2'
          cases q2 : σ[j]? with
          | none => rw [q2] at z; cases z
          | some o => rw [q2] at z; exact congrArg some z
        obtain ⟨m, _, hl⟩ := I.loc
        obtain ⟨u, r, l⟩ := hl j y' v n1 ev n3
        refine ⟨u, r, .inr ⟨n2, ?_⟩⟩
        rcases l with ⟨k, _⟩ | ⟨_, c, e, z⟩
        · exact absurd k n4
        · have := L.sub y' c' e'
          rw [e] at this
          cases this
          obtain ⟨o, ho, hd⟩ := z
          exact ⟨_, (cf_old _ _ _ y' fun z => by rw [L.cells y' z] at e'; cases e').trans e', o, kp _ o ho, hd⟩
  · rcases ncl y c e with q | q
    · obtain ⟨v, o, ho, hd⟩ := cellLt y c q
      exact ⟨v, o, kp c o ho, hd⟩
    · exact ⟨none, q⟩
  · have hp' : p ∈ X.pn ++ pins := by
      have z : p ∈ (X.pn ++ pins) ++ [] := hp
      simpa using z
    obtain ⟨e, n, ne, nf, d⟩ := I.pin p hp'
    exact ⟨kp _ _ e, n, noL e, stk _ ne nf, d⟩
  · show (own.map (fun _ => (none : Option V)) ++ fr.map fun j => (σ[j]?).join).length = (own ++ fr.map fun j => X.N.getD j "").length
    simp
theorem pe_lc {X : Cx} {elt tg iter : Expr} {ifs : List Expr} {sc : Scope} {cl : List (Str × Addr)} {own : List Str} {fr : List Nat} {pos : Pos} {wi : TI} {g : TG} {tt : TT} {te : TE}
    (L : LcScope X sc cl fr) (hc : X.calm = true) (hi : PI X tg iter wi)
    (hg : ∀ C s H ex pn, PG (cxLc X own fr sc cl C s H ex pn) tg g)
    (ht : ∀ C s H ex pn (pins : List (Addr × Obj)) (s1 : Shared) (σ1 : St) (H1 : Hp) (Q : Bool → Hp → Prop), Inv (cxLc X own fr sc cl C s H ex pn) pins σ1 H1 s1 → tt σ1 H1 Q →
      wpAny (model X.prog X.w) X.A (lcTests ifs (compEnvC sc (cellsFrom (C + 1) sc.names cl) C X.env)) (TP (cxLc X own fr sc cl C s H ex pn) pins σ1 Q) NoX s1)
    (he : ∀ C s H ex pn, PE (cxLc X own fr sc cl C s H ex pn) elt te) (hs : ∀ x, foldedSetIterable iter X.env x = pure x := by intro _; rfl) :
    PE X (.ListComp elt [⟨tg, iter, ifs, 0⟩] sc pos) (tLc wi g tt te own fr) := by
  intro pins s σ H Q I h
  rw [eval_ListComp]
  refine wpAny_comprehension_free (use := none) rfl hs L.clos L.kind L.names (thn (hi pins s σ H _ I h) fun v s1 h1 => thn h1 fun itv s2 h2 => ?_)
  obtain ⟨it, fp, tn, J, H2, e, I2, T, st2, f2, h2⟩ := h2
  subst e
  refine wpAny_newObj_type ?_
  have I3 : Inv X pins σ (upd H2 s2.heap.objs.size (.lst [])) { s2 with heap := s2.heap.push { cls := .type "list", data := .seq ([] : List Value).toArray } } := I2.lnew (t' := s2.toks) .nil (Nat.zero_le _)
  have n2 : H2 s2.heap.objs.size = none := I2.fresh
  obtain ⟨W, ⟨m0, w0⟩, turn⟩ := h2 _ n2
  have lt2 : ∀ b ∈ fp, b < s2.heap.objs.size := fun b hb => by
    obtain ⟨o, eo, _⟩ := T.obj 0 _ st2 b hb
    exact Heap.lt_size eo
  have fp3 : ∀ b ∈ fp, FpOk X pins (upd H2 s2.heap.objs.size (.lst [])) b := fun b hb => ⟨by rw [upd_ne (Nat.ne_of_lt (lt2 b hb))]; exact (f2 b hb).1, (f2 b hb).2⟩
  generalize hs3 : ({ s2 with heap := s2.heap.push { cls := .type "list", data := .seq ([] : List Value).toArray } } : Shared) = s3 at I3
  have st3 : tn 0 s3.heap := by
    rw [← hs3]
    exact T.keep 0 _ _ st2 fun b hb o eo => Heap.get?_push_of_some _ eo
  have lt3 : ∀ b ∈ fp, b < s3.heap.objs.size := fun b hb => by
    obtain ⟨o, eo, _⟩ := T.obj 0 _ st3 b hb
    exact Heap.lt_size eo
  generalize hH3 : upd H2 s2.heap.objs.size (.lst []) = H3 at I3 fp3 w0
  generalize s2.heap.objs.size = acc at turn w0 hH3 ⊢
  refine newEnv_cells ?_
  have hns : (pushCells (s3.heap.push { cls := .type "dict", data := .dict #[] }) sc.names).Ns s3.heap.objs.size fun _ => none := (Heap.Ns.new s3.heap (.type "dict")).keeps (pushCells_keeps _ _)
  have kp : ∀ b o, s3.heap.get? b = some o → (pushCells (s3.heap.push { cls := .type "dict", data := .dict #[] }) sc.names).get? b = some o := fun b o eo => pushCells_keeps _ _ b o (Heap.get?_push_of_some _ eo)
  have ncl : ∀ y c, (cellsFrom (s3.heap.objs.size + 1) sc.names cl).lookup y = some c → cl.lookup y = some c ∨ (pushCells (s3.heap.push { cls := .type "dict", data := .dict #[] }) sc.names).IsCell c none := fun y c e =>
    cf_cell sc.names (s3.heap.push { cls := .type "dict", data := .dict #[] }) cl y c (by rw [Heap.size_push]; exact e)
  generalize hh4 : pushCells (s3.heap.push { cls := .type "dict", data := .dict #[] }) sc.names = h4 at hns kp ncl
  have I4 := lcInv (own := own) (tk := s3.toks) L I3 fp3 lt3 hns kp ncl
  have st4 : tn 0 h4 := T.keep 0 _ _ st3 fun b hb o eo => kp b o eo
  have stat : ∀ {H' : Hp}, (∀ b ∈ fp, H' b = none) → ∀ b ∈ fp, FpOk (cxLc X own fr sc cl s3.heap.objs.size s3 H3 fp (X.pn ++ pins)) [] H' b := fun {H'} hn b hb =>
    ⟨hn b hb, Nat.ne_of_lt (lt3 b hb), fun z => (List.mem_cons.mp (I3.stkSub b z)).elim (fp3 b hb).2.1 (fp3 b hb).2.2.1, .inl hb, fun y c e => (cf_lookup _ _ _ y c e).elim (fun q => (fp3 b hb).2.2.2.2.1 y c (L.sub y c q)) fun q => Nat.ne_of_gt (Nat.lt_of_lt_of_le (lt3 b hb) (Nat.le_of_succ_le q.1)), fun p hp => (fp3 b hb).2.2.2.2.2 p (by
      have z : p ∈ (X.pn ++ pins) ++ [] := hp
      simpa using z)⟩
  have loop : codeAny (model X.prog X.w) X.A (.compLoop (.ListComp elt [⟨tg, iter, ifs, 0⟩] sc pos) 0 (.ref it) (.ref acc) (compEnvC sc (cellsFrom (s3.heap.objs.size + 1) sc.names cl) s3.heap.objs.size X.env))
      (compPost (model X.prog X.w) X.A X.xe none (EP X pins σ Q) (.ref acc) s3.heap.objs.size) { s3 with heap := h4, toks := s3.toks } := by
    refine lcLoop (fun n s' => ∃ i ys σ1 H1, Inv (cxLc X own fr sc cl s3.heap.objs.size s3 H3 fp (X.pn ++ pins)) [] σ1 H1 s' ∧ tn i s'.heap ∧ (∀ b ∈ fp, H1 b = none) ∧ W i n ys σ1 H1) ?_ m0 ⟨0, [], _, H3, I4, st4, fun b hb => (fp3 b hb).1, w0⟩
    rintro n s5 ⟨i, ys, σ5, H5, I5, st5, fr5, w5⟩
    obtain ⟨hacc, hlen, hh⟩ := turn i n ys σ5 H5 w5
    rcases hh with ⟨stop, qn⟩ | ⟨go, N, hN, step⟩
    · refine thn (T.done (cxLc X own fr sc cl s3.heap.objs.size s3 H3 fp (X.pn ++ pins)) rfl rfl rfl hc i [] s5 σ5 H5 NoX I5 (stat fr5) st5 stop) fun r s6 ⟨hr, I6⟩ => ?_
      subst hr
      obtain ⟨m6, ns6, _⟩ := id I6.loc
      refine ⟨m6, ns6, fun h7 sb7 => ⟨.ref acc, H5, ?_, rfl, qn⟩⟩
      have old : ∀ b o, s3.heap.get? b = some o → b ≠ s3.heap.objs.size := fun b o eo => Nat.ne_of_lt (Heap.lt_size eo)
      have u6 : Un (frs X.stack) fp H3 H5 s3.heap s6.heap := I6.base
      have u7 : Un (frs X.stack) fp H3 H5 s3.heap h7 :=
        ⟨fun b o eo nn hb hx => (sb7.2 b (old b o eo)).trans (u6.keep b o eo nn hb hx), fun b o eo nn hb hx => by
          obtain ⟨sl, q⟩ := u6.slot b o eo nn hb hx
          exact ⟨sl, (sb7.2 b (old b o eo)).trans q⟩, u6.free, fun b o eo hx => by
          obtain ⟨o', q⟩ := u6.there b o eo hx
          exact ⟨o', (sb7.2 b (old b o eo)).trans q⟩, u6.tups, u6.frzs, u6.tbls⟩
      have fC : H5 s3.heap.objs.size = none := I6.free
      have hok7 : HOk X.prog X.w H5 h7 := fun b ob eb => by
        refine (I6.hok b ob eb).stay (fun c w' hc' q => (sb7.2 c ?_).trans q) (fun _ q => q) fun _ _ q => q
        rintro rfl
        rcases hc' with z | z
        · rw [← z, fC] at eb; cases eb
        · rw [fC] at z; cases z
      exact I3.call' (s' := { s6 with heap := h7 }) I6.os u7 hok7 I6.bare fun b hb => ⟨(fp3 b hb).2.2.2.1, (fp3 b hb).2.1, (fp3 b hb).2.2.2.2.1, (fp3 b hb).2.2.2.2.2⟩
    · refine thn (T.item (cxLc X own fr sc cl s3.heap.objs.size s3 H3 fp (X.pn ++ pins)) rfl rfl rfl hc i [] s5 σ5 H5 NoX I5 (stat fr5) st5 go) fun r s6 ⟨u, hr, h6⟩ => ?_
      subst hr
      refine thn h6 fun _ s7 ⟨x, H7, I7, r7, y7, st7, fr7⟩ => ?_
      have I7' := I7.pinned (stat fr7) (T.obj _ _ st7)
      refine thn (hg _ _ _ _ _ _ s7 σ5 H7 x u _ I7' r7 (step x H7 y7)) fun _ s8 ⟨σ8, H8, I8, q8⟩ => ?_
      have again : ∀ {zs : List V} {σ9 : St} {H9 : Hp} {s9 : Shared}, Inv (cxLc X own fr sc cl s3.heap.objs.size s3 H3 fp (X.pn ++ pins)) ([] ++ pinsAt fp s7.heap) σ9 H9 s9 → N zs σ9 H9 →
          ∃ m, m < n ∧ ∃ i ys σ1 H1, Inv (cxLc X own fr sc cl s3.heap.objs.size s3 H3 fp (X.pn ++ pins)) [] σ1 H1 s9 ∧ tn i s9.heap ∧ (∀ b ∈ fp, H1 b = none) ∧ W i m ys σ1 H1 := fun {zs σ9 H9 s9} I9 n9 => by
        obtain ⟨m', hm, w9⟩ := hN zs σ9 H9 n9
        refine ⟨m', hm, i + 1, zs, σ9, H9, I9.unpinned, T.keep _ _ _ st7 fun b hb o e => (I9.pin (b, o) (List.mem_append_right _ (List.mem_append_right _ (mem_pinsAt hb e)))).1, fun b hb => ?_, w9⟩
        obtain ⟨o, e, d⟩ := T.obj _ _ st7 b hb
        exact (I9.pin (b, o) (List.mem_append_right _ (List.mem_append_right _ (mem_pinsAt hb e)))).2.1
      refine thn (ht _ _ _ _ _ _ s8 σ8 H8 _ I8 q8) fun ok s9 ⟨H9, I9, q9⟩ => ?_
      cases ok with
      | false => exact again I9 (by simpa using q9)
      | true =>
        refine thn (he _ _ _ _ _ _ s9 σ8 H9 _ I9 q9) fun z s10 ⟨y, H10, I10, r10, a10, q10⟩ => ?_
        refine thn (mt_append _ s10 σ8 H10 (.ref acc) [y] (.ref acc) [z] (fun _ H' => N (ys ++ [y]) σ8 H') I10 rfl (.cons r10 .nil) ⟨acc, ys, y, rfl, rfl, a10, hlen, q10⟩) fun _ s11 ⟨_, H11, I11, _, q11⟩ => again I11 q11
  rw [← hs3] at loop ⊢
  exact codeAny_compStart_list loop (noX (T.self _ 0 _ _ _ st4 (by rw [hs3]; rw [hs3] at loop; exact loop)))
end L2
namespace L2
open PySem PySem.Spec PyProof.Rows
theorem log2_of {n : Int} {k : Nat} (h : n.natAbs < 2 ^ k) (hk : 0 < k) : n.natAbs.log2 < k := by
  by_cases z : n.natAbs = 0
  · rw [z]
    show Nat.log2 0 < k
    rw [Nat.log2_zero]
    exact hk
  · exact (Nat.log2_lt z).mpr h
section
variable {X : Cx}
def CMulB (i j : Int) : Prop := i.natAbs < 2 ^ 8000 ∧ j.natAbs < 2 ^ 8000
theorem op_mulB : OpR X (binaryOp .Mult) (rI CMulB fun i j => .int (i * j)) := opI fun _ _ _ _ _ _ _ hc q =>
  mul_int q (IntMulOk.of_le (intBits_le_iff.mpr hc.1) (intBits_le_iff.mpr hc.2) (by decide))
def CDivB (_ j : Int) : Prop := 0 < j ∧ j.natAbs < 2 ^ 8000
theorem op_fdivB : OpR X (binaryOp .FloorDiv) (rI CDivB fun i j => .int (i / j)) := opI fun i j _ _ _ _ _ hc q => by
  have h1 : (0 : Int) < j := hc.1
  refine floordiv_int (by omega) (by rw [Int.fdiv_eq_ediv_of_nonneg i (by omega)]; exact q) (.inl (PyProof.noPylong_of_log2 ?_))
  exact Nat.lt_trans (log2_of hc.2 (by decide)) (by decide)
theorem step_small {hi c : Int} (h0 : 0 ≤ hi) (h1 : hi < 2 ^ 30) (c0 : 0 < c) (c1 : c < 2 ^ 30) : Builtin.Range.small 0 hi c = true := by
  unfold Builtin.Range.small
  rw [rangeSize_pos (by omega) h0]
  have a0 : 0 ≤ (hi + c - 1) / c := Int.ediv_nonneg (by omega) (by omega)
  have a1 : (hi + c - 1) / c * c ≤ hi + c - 1 := Int.ediv_mul_le _ (by omega)
  have a2 : (hi + c - 1) / c ≤ hi + c - 1 := Int.ediv_le_self _ (by omega)
  have a3 : (0 : Int) ≤ (hi + c - 1) / c * c := Int.mul_nonneg a0 (by omega)
  have cc : c > 0 := c0
  simp only [Builtin.Range.rangeFitsLong, Bool.and_eq_true, Bool.or_eq_true, decide_eq_true_eq, beq_iff_eq, cc, if_true]
  generalize (hi + c - 1) / c * c = p at *
  generalize (hi + c - 1) / c = q at *
  omega
theorem vals_intItems : ∀ {ns : List Int} {its : List Value}, Vals (ns.map V.int) its → ∃ xs : List (Int × Tok), its = xs.map (fun p => Value.int p.1 p.2) ∧ xs.map (·.1) = ns
  | [], _, .nil => ⟨[], rfl, rfl⟩
  | n :: ns, _, .cons r t => by
    obtain ⟨tk, rfl⟩ := r
    obtain ⟨xs, rfl, rfl⟩ := vals_intItems t
    exact ⟨(n, tk) :: xs, rfl, rfl⟩
def rSum (K : PySem.W.Frag) : List V → Hp → VK → Prop := fun xs H Q => ∃ (p : Addr) (ns : List Int), xs = [.ref p] ∧ SqL K H p (ns.map V.int) ∧ Q (.int ns.sum) H
theorem call_sum (hc : X.calm = true) : CallR X (.builtin "sum") (rSum X.K) := by
  intro pins s σ H xs us Q I r h
  obtain ⟨p, ns, rfl, hq, q⟩ := h
  cases r with
  | cons r1 rr =>
    cases rr
    cases r1
    obtain ⟨its, rv, pl, hz⟩ := I.list hq
    obtain ⟨zs, rfl, rfl⟩ := vals_intItems rv
    refine PySem.sum_intListG (xs := zs.toArray) (I.ok.hd hc) (by simpa [PySem.intItems] using pl.isList) fun h' tk t' hk => ⟨.int _, H, I.kept (t' := tk) hk, ⟨t', rfl⟩, ?_⟩
    rw [PySem.preSum_eq, List.take_of_length_le (by simp)]
    exact q
end
end L2
namespace L2
open PySem PySem.Spec PyProof.Rows
inductive Dv where
  | fl (v : V)
  | lst (ds : List Dv)
  | tup (ds : List Dv)
mutual
def eqD : Dv → Dv → Bool
  | .fl x, .fl y => eqV x y
  | .lst a, .lst b => eqDs a b
  | .tup a, .tup b => eqDs a b
  | _, _ => false
def eqDs : List Dv → List Dv → Bool
  | [], [] => true
  | x :: r, y :: q => eqD x y && eqDs r q
  | _, _ => false
end
mutual
def dpD : Dv → Nat
  | .fl _ => 0
  | .lst a => dpDs a + 1
  | .tup a => dpDs a + 1
def dpDs : List Dv → Nat
  | [] => 0
  | x :: r => max (dpD x) (dpDs r)
end
mutual
def Hv (K : PySem.W.Frag) (H : Hp) : Dv → V → Prop
  | .fl v, x => x = v ∧ flatV v = true
  | .lst ds, x => ∃ a xs, x = .ref a ∧ SqL K H a xs ∧ HvL K H ds xs
  | .tup ds, x => ∃ a xs, x = .ref a ∧ SqT K H a xs ∧ HvL K H ds xs
def HvL (K : PySem.W.Frag) (H : Hp) : List Dv → List V → Prop
  | [], xs => xs = []
  | d :: ds, xs => ∃ x r, xs = x :: r ∧ Hv K H d x ∧ HvL K H ds r
end
theorem eqV_refl {v : V} (h : flatV v = true) : eqV v v = true := by
  cases v <;> first | rfl | (simp [eqV]; done) | (exact absurd h (by decide)) | (cases h)
section
variable {X : Cx} {pins : List (Addr × Obj)} {σ : St} {H : Hp} {s : Shared}
theorem not_both (I : Inv X pins σ H s) {a : Addr} {xs ys : List V} (h1 : SqL X.K H a xs) (h2 : SqT X.K H a ys) : False := by
  obtain ⟨i1, _, p1, _⟩ := I.list h1
  obtain ⟨i2, _, p2, _⟩ := I.tuple h2
  exact SeqAt.ne_of_list_tuple p1.isList p2 rfl
mutual
theorem same_eq (I : Inv X pins σ H s) : ∀ (d e : Dv) (x : V), Hv X.K H d x → Hv X.K H e x → eqD d e = true
  | .fl v, .fl w, x, h1, h2 => by
    obtain ⟨rfl, f⟩ := h1
    obtain ⟨rfl, _⟩ := h2
    exact eqV_refl f
  | .fl v, .lst es, x, h1, h2 => by
    obtain ⟨rfl, f⟩ := h1
    obtain ⟨a, xs, rfl, _⟩ := h2
    cases f
  | .fl v, .tup es, x, h1, h2 => by
    obtain ⟨rfl, f⟩ := h1
    obtain ⟨a, xs, rfl, _⟩ := h2
    cases f
  | .lst ds, .fl v, x, h2, h1 => by
    obtain ⟨rfl, f⟩ := h1
    obtain ⟨a, xs, rfl, _⟩ := h2
    cases f
  | .tup ds, .fl v, x, h2, h1 => by
    obtain ⟨rfl, f⟩ := h1
    obtain ⟨a, xs, rfl, _⟩ := h2
    cases f
  | .lst ds, .lst es, x, h1, h2 => by
    obtain ⟨a, xs, rfl, q, r⟩ := h1
    obtain ⟨b, ys, e, q', r'⟩ := h2
    cases e
    have := I.list_inj q q'
    subst this
    exact same_eqs I ds es xs r r'
  | .tup ds, .tup es, x, h1, h2 => by
    obtain ⟨a, xs, rfl, q, r⟩ := h1
    obtain ⟨b, ys, e, q', r'⟩ := h2
    cases e
    have := I.tuple_inj q q'
    subst this
    exact same_eqs I ds es xs r r'
  | .lst ds, .tup es, x, h1, h2 => by
    obtain ⟨a, xs, rfl, q, r⟩ := h1
    obtain ⟨b, ys, e, q', r'⟩ := h2
    cases e
    exact (not_both I q q').elim
  | .tup ds, .lst es, x, h1, h2 => by
    obtain ⟨a, xs, rfl, q, r⟩ := h1
    obtain ⟨b, ys, e, q', r'⟩ := h2
    cases e
    exact (not_both I q' q).elim
theorem same_eqs (I : Inv X pins σ H s) : ∀ (ds es : List Dv) (xs : List V), HvL X.K H ds xs → HvL X.K H es xs → eqDs ds es = true
  | [], [], _, _, _ => rfl
  | [], e :: es, xs, h1, h2 => by
    obtain rfl : xs = [] := h1
    obtain ⟨x, r, z, _⟩ := h2
    cases z
  | d :: ds, [], xs, h1, h2 => by
    obtain rfl : xs = [] := h2
    obtain ⟨x, r, z, _⟩ := h1
    cases z
  | d :: ds, e :: es, xs, h1, h2 => by
    obtain ⟨x, r, rfl, a, b⟩ := h1
    obtain ⟨x', r', z, a', b'⟩ := h2
    cases z
    show (eqD d e && eqDs ds es) = true
    rw [same_eq I d e x a a', same_eqs I ds es r b b']
    rfl
end
theorem HvL.length {K : PySem.W.Frag} {H : Hp} : ∀ {ds : List Dv} {xs : List V}, HvL K H ds xs → ds.length = xs.length
  | [], xs, h => by
    obtain rfl : xs = [] := h
    rfl
  | d :: ds, xs, h => by
    obtain ⟨x, r, rfl, _, b⟩ := h
    rw [List.length_cons, List.length_cons, HvL.length b]
theorem eqDs_len : ∀ {ds es : List Dv}, ds.length ≠ es.length → eqDs ds es = false
  | [], [], h => absurd rfl h
  | [], _ :: _, _ => rfl
  | _ :: _, [], _ => rfl
  | d :: ds, e :: es, h => by
    show (eqD d e && eqDs ds es) = false
    rw [eqDs_len (ds := ds) (es := es) (by simpa using h), Bool.and_false]
def eqAtI (ds es : List Dv) (j : Nat) : Bool := match ds[j]?, es[j]? with
  | some d, some e => eqD d e
  | _, _ => false
theorem all_eqAtI : ∀ {ds es : List Dv}, ds.length = es.length → (List.range ds.length).all (eqAtI ds es) = eqDs ds es
  | [], [], _ => rfl
  | [], _ :: _, h => by cases h
  | _ :: _, [], h => by cases h
  | d :: ds, e :: es, h => by
    rw [List.length_cons, List.range_succ_eq_map, List.all_cons, List.all_map]
    show (eqD d e && (List.range ds.length).all (eqAtI (d :: ds) (e :: es) ∘ Nat.succ)) = (eqD d e && eqDs ds es)
    congr 1
    exact all_eqAtI (ds := ds) (es := es) (by simpa using h)
mutual
theorem eqAt_D (I : Inv X pins σ H s) : ∀ (d e : Dv) (A : Around) (x y : V) (u v : Value), A.units + dpD d < cLine → Hv X.K H d x → Hv X.K H e y → RelV x u → RelV y v → SeqAt.EqAt A s u v (eqD d e)
  | .fl a, .fl b, A, x, y, u, v, hu, h1, h2, rx, ry => by
    obtain ⟨rfl, f1⟩ := h1
    obtain ⟨rfl, f2⟩ := h2
    exact eqAt_V rx ry f1 f2
  | .fl a, .lst es, A, x, y, u, v, hu, h1, h2, rx, ry => by
    obtain ⟨rfl, f1⟩ := h1
    obtain ⟨b, ys, rfl, q, r⟩ := h2
    cases ry
    obtain ⟨its, _, pl, _⟩ := I.list q
    have hu' : A.units < cLine := hu
    cases x with
    | non => cases rx; exact SeqAt.EqAt.none_list pl.isList hu'
    | bl c => cases rx; exact SeqAt.EqAt.bool_list c pl.isList hu'
    | int c => obtain ⟨t, rfl⟩ := rx; exact SeqAt.EqAt.int_list c t pl.isList hu'
    | str c => obtain ⟨t, rfl⟩ := rx; exact SeqAt.EqAt.str_list c t pl.isList hu'
    | _ => cases f1
  | .fl a, .tup es, A, x, y, u, v, hu, h1, h2, rx, ry => by
    obtain ⟨rfl, f1⟩ := h1
    obtain ⟨b, ys, rfl, q, r⟩ := h2
    cases ry
    obtain ⟨its, _, pl, _⟩ := I.tuple q
    have hu' : A.units < cLine := hu
    cases x with
    | non => cases rx; exact SeqAt.EqAt.none_tuple pl hu'
    | bl c => cases rx; exact SeqAt.EqAt.bool_tuple c pl hu'
    | int c => obtain ⟨t, rfl⟩ := rx; exact SeqAt.EqAt.int_tuple c t pl hu'
    | str c => obtain ⟨t, rfl⟩ := rx; exact SeqAt.EqAt.str_tuple c t pl hu'
    | _ => cases f1
  | .lst ds, .fl b, A, x, y, u, v, hu, h1, h2, rx, ry => by
    obtain ⟨rfl, f2⟩ := h2
    obtain ⟨a, xs, rfl, q, r⟩ := h1
    cases rx
    obtain ⟨its, _, pl, _⟩ := I.list q
    have hu' : A.units < cLine := Nat.lt_of_le_of_lt (Nat.le_add_right _ _) hu
    cases y with
    | non => cases ry; exact SeqAt.EqAt.list_none pl.isList hu'
    | bl c => cases ry; exact SeqAt.EqAt.list_bool c pl.isList hu'
    | int c => obtain ⟨t, rfl⟩ := ry; exact SeqAt.EqAt.list_int c t pl.isList hu'
    | str c => obtain ⟨t, rfl⟩ := ry; exact SeqAt.EqAt.list_str c t pl.isList hu'
    | _ => cases f2
  | .tup ds, .fl b, A, x, y, u, v, hu, h1, h2, rx, ry => by
    obtain ⟨rfl, f2⟩ := h2
    obtain ⟨a, xs, rfl, q, r⟩ := h1
    cases rx
    obtain ⟨its, _, pl, _⟩ := I.tuple q
    have hu' : A.units < cLine := Nat.lt_of_le_of_lt (Nat.le_add_right _ _) hu
    cases y with
    | non => cases ry; exact SeqAt.EqAt.tuple_none pl hu'
    | bl c => cases ry; exact SeqAt.EqAt.tuple_bool c pl hu'
    | int c => obtain ⟨t, rfl⟩ := ry; exact SeqAt.EqAt.tuple_int c t pl hu'
    | str c => obtain ⟨t, rfl⟩ := ry; exact SeqAt.EqAt.tuple_str c t pl hu'
    | _ => cases f2
  | .lst ds, .tup es, A, x, y, u, v, hu, h1, h2, rx, ry => by
    obtain ⟨a, xs, rfl, q, r⟩ := h1
    obtain ⟨b, ys, rfl, q', r'⟩ := h2
    cases rx
    cases ry
    obtain ⟨_, _, p1, _⟩ := I.list q
    obtain ⟨_, _, p2, _⟩ := I.tuple q'
    exact SeqAt.EqAt.list_tuple p1.isList p2 (Nat.lt_of_le_of_lt (Nat.le_add_right _ _) hu)
  | .tup ds, .lst es, A, x, y, u, v, hu, h1, h2, rx, ry => by
    obtain ⟨a, xs, rfl, q, r⟩ := h1
    obtain ⟨b, ys, rfl, q', r'⟩ := h2
    cases rx
    cases ry
    obtain ⟨_, _, p1, _⟩ := I.tuple q
    obtain ⟨_, _, p2, _⟩ := I.list q'
    exact SeqAt.EqAt.tuple_list p1 p2.isList (Nat.lt_of_le_of_lt (Nat.le_add_right _ _) hu)
  | .lst ds, .lst es, A, x, y, u, v, hu, h1, h2, rx, ry => by
    obtain ⟨a, xs, rfl, q, r⟩ := id h1
    obtain ⟨b, ys, rfl, q', r'⟩ := id h2
    cases rx
    cases ry
    by_cases hab : a = b
    · subst hab
      rw [same_eq I _ _ _ h1 h2]
      exact SeqAt.EqAt.same _
    obtain ⟨i1, v1, p1, _⟩ := I.list q
    obtain ⟨i2, v2, p2, _⟩ := I.list q'
    have hu' : A.units < cLine := Nat.lt_of_le_of_lt (Nat.le_add_right _ _) hu
    have l1 := r.length
    have l2 := r'.length
    have m1 := v1.length
    have m2 := v2.length
    refine .of_refs hab ?_
    show SeqAt.RcAt A s (.ref a) (.ref b) (eqDs ds es)
    by_cases hl : ds.length = es.length
    · have z := SeqAt.RcAt.lists (e := eqAtI ds es) p1.isList p2.isList (by simp; omega) hu' (fun j g1 g2 => eqAt_Ds I ds es A.in1 xs ys i1 i2 (by show A.units + 1 + dpDs ds < cLine; have : A.units + (dpDs ds + 1) < cLine := hu; omega) r r' v1 v2 j (by simpa using g1) (by simpa using g2))
      rw [List.size_toArray, ← m1, ← l1, all_eqAtI hl] at z
      exact z
    · rw [eqDs_len hl]
      exact .lists_lengths p1.isList p2.isList (by simp; omega) hu'
  | .tup ds, .tup es, A, x, y, u, v, hu, h1, h2, rx, ry => by
    obtain ⟨a, xs, rfl, q, r⟩ := id h1
    obtain ⟨b, ys, rfl, q', r'⟩ := id h2
    cases rx
    cases ry
    by_cases hab : a = b
    · subst hab
      rw [same_eq I _ _ _ h1 h2]
      exact SeqAt.EqAt.same _
    obtain ⟨i1, v1, p1, _⟩ := I.tuple q
    obtain ⟨i2, v2, p2, _⟩ := I.tuple q'
    have hu' : A.units < cLine := Nat.lt_of_le_of_lt (Nat.le_add_right _ _) hu
    have l1 := r.length
    have l2 := r'.length
    have m1 := v1.length
    have m2 := v2.length
    refine .of_refs hab ?_
    show SeqAt.RcAt A s (.ref a) (.ref b) (eqDs ds es)
    have z := SeqAt.RcAt.tuples (e := eqAtI ds es) p1 p2 hu' (fun j g1 g2 => eqAt_Ds I ds es A.in1 xs ys i1 i2 (by show A.units + 1 + dpDs ds < cLine; have : A.units + (dpDs ds + 1) < cLine := hu; omega) r r' v1 v2 j (by simpa using g1) (by simpa using g2))
    have zz : ((List.range (min i1.toArray.size i2.toArray.size)).all (eqAtI ds es) && i1.toArray.size == i2.toArray.size) = eqDs ds es := by
      rw [List.size_toArray, List.size_toArray, ← m1, ← m2, ← l1, ← l2]
      by_cases hl : ds.length = es.length
      · rw [hl, Nat.min_self, ← hl, all_eqAtI hl]; simp [hl]
      · rw [eqDs_len hl, beq_eq_false_iff_ne.mpr hl, Bool.and_false]
    rw [zz] at z
    exact z
theorem eqAt_Ds (I : Inv X pins σ H s) : ∀ (ds es : List Dv) (A : Around) (xs ys : List V) (us vs : List Value), A.units + dpDs ds < cLine → HvL X.K H ds xs → HvL X.K H es ys → Vals xs us → Vals ys vs →
    ∀ (j : Nat) (h1 : j < us.length) (h2 : j < vs.length), SeqAt.EqAt A s us[j] vs[j] (eqAtI ds es j)
  | [], es, A, xs, ys, us, vs, hu, h1, h2, r1, r2, j, g1, g2 => by
    obtain rfl : xs = [] := h1
    cases r1
    exact absurd g1 (Nat.not_lt_zero _)
  | d :: ds, [], A, xs, ys, us, vs, hu, h1, h2, r1, r2, j, g1, g2 => by
    obtain rfl : ys = [] := h2
    cases r2
    exact absurd g2 (Nat.not_lt_zero _)
  | d :: ds, e :: es, A, xs, ys, us, vs, hu, h1, h2, r1, r2, j, g1, g2 => by
    obtain ⟨x, r, rfl, a, b⟩ := h1
    obtain ⟨y, q, rfl, a', b'⟩ := h2
    cases r1 with
    | cons c1 t1 => cases r2 with
      | cons c2 t2 =>
        have hm : dpDs (d :: ds) = max (dpD d) (dpDs ds) := rfl
        rw [hm] at hu
        cases j with
        | zero => exact eqAt_D I d e A x y _ _ (Nat.lt_of_le_of_lt (Nat.add_le_add_left (Nat.le_max_left _ _) _) hu) a a' c1 c2
        | succ j => exact eqAt_Ds I ds es A r q _ _ (Nat.lt_of_le_of_lt (Nat.add_le_add_left (Nat.le_max_right _ _) _) hu) b b' t1 t2 j (by simpa using g1) (by simpa using g2)
end
def rEqS (K : PySem.W.Frag) (neg : Bool) : R2 := fun x y H Q => ∃ d e, ((∃ ds es, d = .lst ds ∧ e = .lst es) ∨ ∃ ds es, d = .tup ds ∧ e = .tup es) ∧ Hv K H d x ∧ Hv K H e y ∧ dpD d ≤ 50 ∧ Q (.bl (if neg then !eqD d e else eqD d e)) H
theorem op_eqS (hr : X.A.units + 64 < cLine) : OpR X (compareOp .Eq) (rEqS X.K false) := by
  intro pins s σ H x y v u Q I rx ry h
  obtain ⟨d, e, hk, h1, h2, hd, q⟩ := h
  have hu' : X.A.units < cLine := by omega
  rcases hk with ⟨ds, es, rfl, rfl⟩ | ⟨ds, es, rfl, rfl⟩
  · obtain ⟨a, xs, rfl, q1, r⟩ := h1
    obtain ⟨b, ys, rfl, q2, r'⟩ := h2
    cases rx
    cases ry
    obtain ⟨i1, v1, p1, _⟩ := I.list q1
    obtain ⟨i2, v2, p2, _⟩ := I.list q2
    have l1 := r.length
    have l2 := r'.length
    have m1 := v1.length
    have m2 := v2.length
    have hd' : dpDs ds + 1 ≤ 50 := hd
    by_cases hl : ds.length = es.length
    · refine SeqAt.eq_listAt (e := eqAtI ds es) p1.isList p2.isList (by simp; omega) hu' (fun j g1 g2 => eqAt_Ds I ds es X.A.in1 xs ys i1 i2 (by show X.A.units + 1 + dpDs ds < cLine; omega) r r' v1 v2 j (by simpa using g1) (by simpa using g2)) ?_
      rw [List.size_toArray, ← m1, ← l1, all_eqAtI hl]
      exact ⟨.bl _, H, I, rfl, q⟩
    · refine SeqAt.eq_list_lengthsAt p1.isList p2.isList (by simp; omega) hu' ⟨.bl _, H, I, rfl, ?_⟩
      have z : eqD (.lst ds) (.lst es) = false := eqDs_len hl
      rw [z] at q
      exact q
  · obtain ⟨a, xs, rfl, q1, r⟩ := h1
    obtain ⟨b, ys, rfl, q2, r'⟩ := h2
    cases rx
    cases ry
    obtain ⟨i1, v1, p1, _⟩ := I.tuple q1
    obtain ⟨i2, v2, p2, _⟩ := I.tuple q2
    have l1 := r.length
    have l2 := r'.length
    have m1 := v1.length
    have m2 := v2.length
    have hd' : dpDs ds + 1 ≤ 50 := hd
    refine SeqAt.eq_tupleAt (e := eqAtI ds es) p1 p2 hu' (fun j g1 g2 => eqAt_Ds I ds es X.A.in1 xs ys i1 i2 (by show X.A.units + 1 + dpDs ds < cLine; omega) r r' v1 v2 j (by simpa using g1) (by simpa using g2)) ⟨.bl _, H, I, rfl, ?_⟩
    have zz : ((List.range (min i1.toArray.size i2.toArray.size)).all (eqAtI ds es) && i1.toArray.size == i2.toArray.size) = eqDs ds es := by
      rw [List.size_toArray, List.size_toArray, ← m1, ← m2, ← l1, ← l2]
      by_cases hl : ds.length = es.length
      · rw [hl, Nat.min_self, ← hl, all_eqAtI hl]; simp [hl]
      · rw [eqDs_len hl, beq_eq_false_iff_ne.mpr hl, Bool.and_false]
    rw [zz]
    exact q
theorem op_neS (hr : X.A.units + 64 < cLine) : OpR X (compareOp .NotEq) (rEqS X.K true) := by
  intro pins s σ H x y v u Q I rx ry h
  obtain ⟨d, e, hk, h1, h2, hd, q⟩ := h
  have hu' : X.A.units < cLine := by omega
  rcases hk with ⟨ds, es, rfl, rfl⟩ | ⟨ds, es, rfl, rfl⟩
  · obtain ⟨a, xs, rfl, q1, r⟩ := h1
    obtain ⟨b, ys, rfl, q2, r'⟩ := h2
    cases rx
    cases ry
    obtain ⟨i1, v1, p1, _⟩ := I.list q1
    obtain ⟨i2, v2, p2, _⟩ := I.list q2
    have l1 := r.length
    have l2 := r'.length
    have m1 := v1.length
    have m2 := v2.length
    have hd' : dpDs ds + 1 ≤ 50 := hd
    by_cases hl : ds.length = es.length
    · refine SeqAt.RcNeAt.lists (e := eqAtI ds es) p1.isList p2.isList (by simp; omega) hu' (fun j g1 g2 => eqAt_Ds I ds es X.A.in1 xs ys i1 i2 (by show X.A.units + 1 + dpDs ds < cLine; omega) r r' v1 v2 j (by simpa using g1) (by simpa using g2)) _ _ _ _ ?_
      rw [List.size_toArray, ← m1, ← l1, all_eqAtI hl]
      exact ⟨.bl _, H, I, rfl, q⟩
    · refine SeqAt.RcNeAt.lists_lengths p1.isList p2.isList (by simp; omega) hu' _ _ _ _ ⟨.bl _, H, I, rfl, ?_⟩
      have z : eqD (.lst ds) (.lst es) = false := eqDs_len hl
      rw [z] at q
      exact q
  · obtain ⟨a, xs, rfl, q1, r⟩ := h1
    obtain ⟨b, ys, rfl, q2, r'⟩ := h2
    cases rx
    cases ry
    obtain ⟨i1, v1, p1, _⟩ := I.tuple q1
    obtain ⟨i2, v2, p2, _⟩ := I.tuple q2
    have l1 := r.length
    have l2 := r'.length
    have m1 := v1.length
    have m2 := v2.length
    have hd' : dpDs ds + 1 ≤ 50 := hd
    refine SeqAt.RcNeAt.tuples (e := eqAtI ds es) p1 p2 hu' (fun j g1 g2 => eqAt_Ds I ds es X.A.in1 xs ys i1 i2 (by show X.A.units + 1 + dpDs ds < cLine; omega) r r' v1 v2 j (by simpa using g1) (by simpa using g2)) _ _ _ _ ⟨.bl _, H, I, rfl, ?_⟩
    have zz : ((List.range (min i1.toArray.size i2.toArray.size)).all (eqAtI ds es) && i1.toArray.size == i2.toArray.size) = eqDs ds es := by
      rw [List.size_toArray, List.size_toArray, ← m1, ← m2, ← l1, ← l2]
      by_cases hl : ds.length = es.length
      · rw [hl, Nat.min_self, ← hl, all_eqAtI hl]; simp [hl]
      · rw [eqDs_len hl, beq_eq_false_iff_ne.mpr hl, Bool.and_false]
    rw [zz]
    exact q
end
end L2
namespace L2
open PySem PySem.Spec PyProof.Rows
structure FunD (K : PySem.W.Frag) (x qual : Str) (st : Stmt) (dV : Value) (f : Addr) (fd : FuncData) : Prop where
  ex : ∃ (oc : Value) (od : Option Addr) (kV doc pm : Value) (an : Option Addr) (cdv ct : Value) (osl : Array (Option Value)),
    fd = PySem.W.fnOf x qual (defArgs st) (defBody st) (defScope st) dV kV doc pm an cdv ct ∧ K.lookup f = some ⟨oc, od, .func fd, osl⟩ ∧ PySem.W.codeIn K cdv qual = true
  kp : PySem.W.keepIn K (.ref f) = true
structure Kn (P : Program) (w : World) (K : PySem.W.Frag) (mg : Str → Option Value) (base : Heap) (CX : CXT) (k : Nat) (x : Str) (f : Addr) (fd : FuncData) (ps : List Str) (sp : Sp) : Prop where
  ok : FnOk P w K mg base CX k f fd ps sp
  mgx : mg x = some (.ref f)
  kp : PySem.W.keepIn K (.ref f) = true
  bd : Binds K fd ps []
section
variable {P : Program} {w : World} {K : PySem.W.Frag} {mg : Str → Option Value} {base : Heap}
theorem FunD.ok {x qual : Str} {st : Stmt} {dV : Value} {f : Addr} {fd : FuncData} {N ps : List Str} {k : Nat} {sp : Sp} (F : FunD K x qual st dV f fd) (S : FnScope N ps (defScope st)) (len : ∀ vs H Q E, sp vs H Q E → vs.length = ps.length)
    (hbody : ∀ (cdv : Value) (A : Around) (outer : List Env) (s : Shared) (H : Hp) (vs : List V) (Q : VK) (E : XK), Room k (A.deeper (envOfC qual (defScope st) s.heap.objs.size f cdv)) → sp vs H Q E →
      ∃ t, PSs (cxOf CX0 P w K mg base N qual (defScope st) f cdv A outer s H E).nox (defBody st) t ∧ t { nx := fun _ H' => Q .non H', rt := Q } (start N vs) H) : FnOk P w K mg base CX0 (k + 1) f fd ps sp := by
  obtain ⟨oc, od, kV, doc, pm, an, cdv, ct, osl, rfl, lk, hcd⟩ := F.ex
  refine fn_of lk hcd S len fun A outer s H vs Q E hr hsp => ?_
  obtain ⟨t, h, q⟩ := hbody cdv A outer s H vs Q E hr hsp
  exact ⟨t, h.nox, q⟩
theorem funD_mk {x qual : Str} {st : Stmt} {dV : Value} {f : Addr} {oc : Value} {od an : Option Addr} {osl : Array (Option Value)} {kV doc pm cdv ct : Value} (l : K.lookup f = some ⟨oc, od, .func (PySem.W.fnOf x qual (defArgs st) (defBody st) (defScope st) dV kV doc pm an cdv ct), osl⟩)
    (c : PySem.W.codeIn K cdv qual = true) (k : PySem.W.keepIn K (.ref f) = true) : FunD K x qual st dV f (PySem.W.fnOf x qual (defArgs st) (defBody st) (defScope st) dV kV doc pm an cdv ct) := ⟨⟨oc, od, kV, doc, pm, an, cdv, ct, osl, rfl, l, c⟩, k⟩
end
section
variable {X : Cx} {CX : CXT} {k : Nat} {f : Addr} {fd : FuncData} {ps : List Str} {sp : Sp} {E : XK} {x : Str} {p pos : Pos} {e : Expr} {es : List Expr} {t : TA}
theorem pe_kn (F : Kn X.prog X.w X.K X.mg X.base CX0 k x f fd ps sp) (hr : Room k X.A) (hg : Gl X x) (ha : PA X (e :: es) t) (hdb : (x == ("__debug__" : Str)) = false := by decide)
    (he : starEach (e :: es) X.env = (false, eval e X.env) :: starEach es X.env := by rfl) (hpl : (backTo pos (starEach es X.env)).any (·.1) = false := by rfl) :
    PE X (.Call (.Name x p) (e :: es) [] pos) (tCall sp [] E0 t) := pe_call F.ok hr hg F.mgx F.kp F.bd .nil pass0 ha hdb he hpl
end
section
variable {K : PySem.W.Frag} {g : TG} {tb : TS} {D : Ends} {σ : St} {H : Hp}
end
def rCatL (K : PySem.W.Frag) : R2 := fun x y H Q => ∃ l b xs zs, x = .ref l ∧ y = .ref b ∧ SqL K H l xs ∧ SqL K H b zs ∧ xs.length + zs.length ≤ sizeLine ∧ ∀ p, H p = none → Q (.ref p) (upd H p (.lst (xs ++ zs)))
end L2
namespace L2
open PySem PySem.Spec PyProof.Rows
section
variable {Y : Cx} {c : Expr} {tt : TT}
theorem lc_t0 (pins : List (Addr × Obj)) (s1 : Shared) (σ1 : St) (H1 : Hp) (Q : Bool → Hp → Prop) (I : Inv Y pins σ1 H1 s1) (h : Q true H1) : wpAny (model Y.prog Y.w) Y.A (lcTests [] Y.env) (TP Y pins σ1 Q) NoX s1 :=
  wpAny_pure ⟨H1, I, h⟩
theorem lc_t1 (ht : PT Y c tt) (hx : Y.xe = NoX) (pins : List (Addr × Obj)) (s1 : Shared) (σ1 : St) (H1 : Hp) (Q : Bool → Hp → Prop) (I : Inv Y pins σ1 H1 s1) (h : tt σ1 H1 Q) : wpAny (model Y.prog Y.w) Y.A (lcTests [c] Y.env) (TP Y pins σ1 Q) NoX s1 := by
  have z := ht pins s1 σ1 H1 Q I h
  rw [hx] at z
  unfold lcTests
  rw [List.forIn_cons]
  simp only [if_true]
  refine wpAny_bind (wpAny_bind (thn z fun b s2 q => wpAny_pure ?_))
  exact wpAny_pure q
end
def tNoTest : TT := fun _ H Q => Q true H
section
variable {K : PySem.W.Frag} {g : TG} {tb : TS} {D : Ends} {σ : St} {H : Hp}
end
section
variable {X : Cx} {e st : Expr} {te ts : TE} {p2 pos : Pos}
end
section
variable {X : Cx}
theorem op_catL : OpR X (binaryOp .Add) (rCatL X.K) := by
  intro pins s σ H x y v u Q I rx ry h
  obtain ⟨l, b, xs, zs, rfl, rfl, hH, hB, hz, q⟩ := h
  cases rx
  cases ry
  obtain ⟨its, r, ⟨⟨cl, dd, da, sl⟩, n, e, c1, c2, d1⟩, z⟩ := I.list hH
  obtain ⟨its2, r2, ⟨⟨cl2, dd2, da2, sl2⟩, n2, e2, c3, c4, d2⟩, z2⟩ := I.list hB
  simp only at c1 d1 c3 d2
  subst c1 d1 c3 d2
  have l1 := r.length
  have l2 := r2.length
  refine concat_meets ⟨_, e, rfl⟩ ⟨_, e2, rfl⟩ noFill_list_add seq_list_add PySem.F.slot_list_add PySem.F.entry_list_add (PySem.F.args_list_add_2 _ _) (list_addW l b its.toArray its2.toArray n n2 dd dd2 sl sl2 (by simp; omega)) ⟨e, e2, ?_⟩
  have ea : its.toArray ++ its2.toArray = (its ++ its2).toArray := by simp
  rw [ea]
  exact ⟨.ref _, _, I.lnew (t' := s.toks) (r.append r2) (by rw [List.length_append]; omega), rfl, q _ I.fresh⟩
end
end L2
namespace L2
open PySem
theorem bt_isinstance : bootBuiltins "isinstance" = some (.builtin "isinstance") := by decide +kernel
theorem bt_abs : bootBuiltins "abs" = some (.builtin "abs") := by decide +kernel
theorem bt_len : bootBuiltins "len" = some (.builtin "len") := by decide +kernel
theorem bt_sum : bootBuiltins "sum" = some (.builtin "sum") := by decide +kernel
theorem bt_min : bootBuiltins "min" = some (.builtin "min") := by decide +kernel
theorem bt_all : bootBuiltins "all" = some (.builtin "all") := by decide +kernel
theorem bt_any : bootBuiltins "any" = some (.builtin "any") := by decide +kernel
theorem bt_int : bootBuiltins "int" = some (.type "int") := by decide +kernel
theorem bt_bool : bootBuiltins "bool" = some (.type "bool") := by decide +kernel
theorem bt_list : bootBuiltins "list" = some (.type "list") := by decide +kernel
theorem bt_zip : bootBuiltins "zip" = some (.type "zip") := by decide +kernel
theorem bt_enumerate : bootBuiltins "enumerate" = some (.type "enumerate") := by decide +kernel
end L2
namespace L2
open PySem PySem.Spec PyProof.Rows
def closF (cells : List (Str × Addr)) : List (Str × NameKind) → List (Str × Addr) → List (Str × Addr)
  | [], cs => cs
  | (n, k) :: r, cs => closF cells r (if k == .free then (n, (cells.lookup n).getD 0) :: cs else cs)
theorem clos_eq {sc : Scope} {env : Env} (h : ∀ p ∈ sc.names, p.2 = .free → ∃ c, env.cells.lookup p.1 = some c) : closureFor sc env = pure (closF env.cells sc.names []) := by
  have key : ∀ (names : List (Str × NameKind)) (cs : List (Str × Addr)), (∀ p ∈ names, p.2 = .free → ∃ c, env.cells.lookup p.1 = some c) →
      (forIn names cs fun x t => match x with
        | (name, kind) => if (kind == NameKind.free) = true then do
              let a ← cellOf env name
              pure (ForInStep.yield ((name, a) :: t))
            else pure (ForInStep.yield t)) = (pure (closF env.cells names cs) : Sem (List (Str × Addr))) := by
    intro names
    induction names with
    | nil => intro cs _; rfl
    | cons p r ih =>
      intro cs hp
      obtain ⟨n, k⟩ := p
      rw [List.forIn_cons]
      cases hk : k == NameKind.free with
      | true =>
        obtain ⟨c, hc⟩ := hp (n, k) (.head _) (beq_iff_eq.mp hk)
        have hc' : env.cells.lookup n = some c := hc
        have e1 : cellOf env n = pure c := by unfold cellOf; rw [hc']
        have e2 : closF env.cells ((n, k) :: r) cs = closF env.cells r ((n, c) :: cs) := by
          show closF env.cells r (if (k == NameKind.free) = true then _ else _) = _
          rw [hk, hc', if_pos rfl]
          rfl
        rw [e2, ← ih ((n, c) :: cs) fun q hq => hp q (.tail _ hq)]
        simp only [hk, if_true, e1]
        rfl
      | false =>
        have e2 : closF env.cells ((n, k) :: r) cs = closF env.cells r cs := by
          show closF env.cells r (if (k == NameKind.free) = true then _ else _) = _
          rw [hk, if_neg (by decide)]
        rw [e2, ← ih cs fun q hq => hp q (.tail _ hq)]
        simp only [hk, Bool.false_eq_true, if_false]
        rfl
  simp only [closureFor]
  rw [key sc.names [] h]
  rfl
theorem closF_sub {cells : List (Str × Addr)} : ∀ (names : List (Str × NameKind)) (cs : List (Str × Addr)), (∀ p ∈ names, p.2 = .free → ∃ c, cells.lookup p.1 = some c) → (∀ y c, cs.lookup y = some c → cells.lookup y = some c) →
    ∀ y c, (closF cells names cs).lookup y = some c → cells.lookup y = some c
  | [], _, _, h => h
  | (n, k) :: r, cs, hp, h => by
    refine closF_sub r _ (fun q hq => hp q (.tail _ hq)) fun y c e => ?_
    split at e
    · rename_i hk
      obtain ⟨c0, hc⟩ := hp (n, k) (.head _) (beq_iff_eq.mp hk)
      have hc' : cells.lookup n = some c0 := hc
      rw [List.lookup_cons] at e
      split at e
      · rename_i hy
        have : y = n := beq_iff_eq.mp hy
        subst this
        rw [hc'] at e
        cases e
        exact hc'
      · exact h y c e
    · exact h y c e
theorem closF_keep {cells : List (Str × Addr)} : ∀ (names : List (Str × NameKind)) (cs : List (Str × Addr)) (y : Str), (∃ c, cs.lookup y = some c) → ∃ c, (closF cells names cs).lookup y = some c
  | [], _, _, h => h
  | (n, k) :: r, cs, y, ⟨c, h⟩ => by
    refine closF_keep r _ y ?_
    split
    · rw [List.lookup_cons]
      split
      · exact ⟨_, rfl⟩
      · exact ⟨c, h⟩
    · exact ⟨c, h⟩
theorem closF_has {cells : List (Str × Addr)} : ∀ (names : List (Str × NameKind)) (cs : List (Str × Addr)) (y : Str), (y, NameKind.free) ∈ names → ∃ c, (closF cells names cs).lookup y = some c
  | [], _, _, h => nomatch h
  | (n, k) :: r, cs, y, h => by
    rcases List.mem_cons.mp h with e | h
    · have e1 : y = n := congrArg (·.1) e
      have e2 : NameKind.free = k := congrArg (·.2) e
      subst e1 e2
      refine closF_keep r _ _ ?_
      rw [if_pos (by decide), List.lookup_cons_self]
      exact ⟨_, rfl⟩
    · exact closF_has r _ y h
theorem mem_of_lookup {κ β : Type} [BEq κ] [LawfulBEq κ] {l : List (κ × β)} {y : κ} {k : β} (h : l.lookup y = some k) : (y, k) ∈ l := by
  induction l with
  | nil => cases h
  | cons p r ih =>
    obtain ⟨n, b⟩ := p
    rw [List.lookup_cons] at h
    split at h
    · rename_i hy
      have : y = n := beq_iff_eq.mp hy
      subst this
      cases h
      exact .head _
    · exact .tail _ (ih h)
section
variable {CX : CXT} {P : Program} {w : World} {K : PySem.W.Frag} {mg : Str → Option Value} {base : Heap} {N : List Str} {qual : Str} {sc0 : Scope} {f : Addr} {cd : Value} {A : Around} {outer : List Env} {s : Shared} {H : Hp} {E : XK} {XE : Value → Shared → Prop}
structure LcNames (N : List Str) (sc0 sc : Scope) (fr : List Nat) : Prop where
  kind : sc.kind = .function
  kind0 : sc0.kind = .function
  nocell : ∀ y ∈ sc.names, y.2 ≠ .cell
  loc : ∀ y ∈ sc.names, y.2 = .local → sc.names.lookup y.1 = some .local
  fre : ∀ y ∈ sc.names, y.2 = .free → sc0.names.lookup y.1 = some .cell
  frs : ∀ j ∈ fr, sc.names.lookup (N.getD j "") = some .free ∧ j < N.length
theorem lookup_relabel {env : Env} : ∀ {names : List (Str × NameKind)} {y : Str} {k : NameKind}, (names.map fun (n, k) => if (k == NameKind.free && env.scope.kind == .function && env.kindOf n == some .cell) then (n, NameKind.cell) else (n, k)).lookup y = some k →
    ∃ k0, names.lookup y = some k0 ∧ (k = k0 ∨ (k = .cell ∧ k0 = .free))
  | [], _, _, h => by cases h
  | (n, k0) :: r, y, k, h => by
    rw [List.map_cons] at h
    simp only at h
    split at h
    · rename_i hc
      rw [List.lookup_cons] at h ⊢
      split at h
      · cases h
        simp only [Bool.and_eq_true, beq_iff_eq] at hc
        exact ⟨k0, rfl, .inr ⟨rfl, hc.1.1⟩⟩
      · exact lookup_relabel h
    · rw [List.lookup_cons] at h ⊢
      split at h
      · cases h
        exact ⟨k0, rfl, .inl rfl⟩
      · exact lookup_relabel h
theorem lookup_relabel_free {env : Env} : ∀ {names : List (Str × NameKind)} {y : Str}, names.lookup y = some .free →
    (names.map fun (n, k) => if (k == NameKind.free && env.scope.kind == .function && env.kindOf n == some .cell) then (n, NameKind.cell) else (n, k)).lookup y = some .cell ∨
    (names.map fun (n, k) => if (k == NameKind.free && env.scope.kind == .function && env.kindOf n == some .cell) then (n, NameKind.cell) else (n, k)).lookup y = some .free
  | [], _, h => by cases h
  | (n, k0) :: r, y, h => by
    rw [List.map_cons]
    rw [List.lookup_cons] at h
    simp only
    split at h
    · rename_i hy
      cases h
      split
      · left; rw [List.lookup_cons, hy]
      · right; rw [List.lookup_cons, hy]
    · rename_i hy
      split
      · rw [List.lookup_cons, hy]; exact lookup_relabel_free h
      · rw [List.lookup_cons, hy]; exact lookup_relabel_free h
structure LcNamesC (N : List Str) (sc0 sc : Scope) (fr : List Nat) : Prop where
  kind : sc.kind = .function
  kind0 : sc0.kind = .function
  own : ∀ y ∈ sc.names, y.2 = .cell → ∀ z ∈ sc.names, z.2 = .free → z.1 ≠ y.1
  loc : ∀ y ∈ sc.names, y.2 = .local → sc.names.lookup y.1 = some .local
  fre : ∀ y ∈ sc.names, y.2 = .free → sc0.names.lookup y.1 = some .cell
  frs : ∀ j ∈ fr, sc.names.lookup (N.getD j "") = some .free ∧ j < N.length
theorem closF_none {cells : List (Str × Addr)} : ∀ (names : List (Str × NameKind)) (cs : List (Str × Addr)) (y : Str), (∀ z ∈ names, z.2 = .free → z.1 ≠ y) → cs.lookup y = none → (closF cells names cs).lookup y = none
  | [], _, _, _, h => h
  | (n, k) :: r, cs, y, hn, h => by
    refine closF_none r _ y (fun z hz => hn z (.tail _ hz)) ?_
    split
    · rename_i hk
      have hne : n ≠ y := hn (n, k) (.head _) (beq_iff_eq.mp hk)
      have hb : (y == n) = false := beq_eq_false_iff_ne.mpr fun e => hne e.symm
      rw [List.lookup_cons, hb]
      exact h
    · exact h
theorem lcsC {sc : Scope} {fr : List Nat} (L : LcNamesC N sc0 sc fr) : LcScope ((cxOf CX P w K mg base N qual sc0 f cd A outer s H E).wish XE) sc (closF (cellsFrom (s.heap.objs.size + 1) sc0.names []) sc.names []) fr := by
  have hfree : ∀ p ∈ sc.names, p.2 = .free → ∃ c, (cellsFrom (s.heap.objs.size + 1) sc0.names []).lookup p.1 = some c := fun p hp e => cell_has (L.fre p hp e)
  refine ⟨clos_eq hfree, L.kind, fun y hy => closF_none _ _ y (L.own _ hy rfl) rfl, L.loc, closF_sub _ _ hfree (fun _ _ e => nomatch e), fun y hy => ?_, fun j hj => ?_⟩
  · have hk : sc.names.lookup y = some .free ∨ sc.names.lookup y = some .cell := by
      rcases hy with hy | hy
      · obtain ⟨k0, h1, h2⟩ := lookup_relabel hy
        rcases h2 with h2 | ⟨_, h2⟩
        · rw [← h2] at h1; exact .inr h1
        · rw [h2] at h1; exact .inl h1
      · obtain ⟨k0, h1, h2⟩ := lookup_relabel hy
        rcases h2 with h2 | ⟨h2, _⟩
        · rw [← h2] at h1; exact .inl h1
        · cases h2
    exact hk.imp (fun q => closF_has _ _ y (mem_of_lookup q)) mem_of_lookup
  · obtain ⟨h1, h2⟩ := L.frs j hj
    have hm := mem_of_lookup h1
    have h3 := L.fre _ hm rfl
    refine ⟨N.getD j "", ?_, ?_, .inr (.inl h3), ?_, closF_has _ _ _ hm⟩
    · show N[j]? = some (N.getD j "")
      rw [List.getD_eq_getElem?_getD, List.getElem?_eq_getElem h2]
      rfl
    · exact lookup_relabel_free h1
    · intro z
      have z' : sc0.names.lookup (N.getD j "") = some .local := z
      have h3' : sc0.names.lookup (N.getD j "") = some .cell := h3
      rw [h3'] at z'
      cases z'
theorem lcs {sc : Scope} {fr : List Nat} (L : LcNames N sc0 sc fr) : LcScope ((cxOf CX P w K mg base N qual sc0 f cd A outer s H E).wish XE) sc (closF (cellsFrom (s.heap.objs.size + 1) sc0.names []) sc.names []) fr :=
  lcsC ⟨L.kind, L.kind0, fun y hy e => absurd e (L.nocell y hy), L.loc, L.fre, L.frs⟩
end
section
variable {g : TG} {tb : TS} {D : Ends} {σ : St} {H : Hp} {ta : TA}
end
section
variable {X : Cx} {K : PySem.W.Frag}
theorem ix_tupK (h : X.K = K) : IxR X (rIxT K) := h ▸ ix_tup
theorem ix_listK (h : X.K = K) : IxR X (rIxL K) := h ▸ ix_list
theorem call_lenK (h : X.K = K) : CallR X (.builtin "len") (fun xs H Q => ∃ p ys, xs = [.ref p] ∧ (SqL K H p ys ∨ SqT K H p ys) ∧ Q (.int ys.length) H) := h ▸ call_len_seq
end
end L2
namespace L2
open PySem PySem.Spec PyProof.Rows
section
variable {P : Program} {w : World} {outer : List Env} {H H' : Hp} {s s' : Shared} {x C : Addr}
end
section
variable {X : Cx} {pins : List (Addr × Obj)} {σ : St} {H H' : Hp} {s s' : Shared}
end
section
variable {P : Program} {w : World} {K : PySem.W.Frag} {mg : Str → Option Value} {base : Heap} {N : List Str} {qual : Str} {sc : Scope} {f : Addr} {cd : Value} {A : Around} {outer : List Env} {s : Shared} {H : Hp} {E : XK}
end
end L2
namespace L2
open PySem PySem.Spec PyProof.Rows
section
variable {X : Cx} {E : XK} {C : Addr} {x : Str} {np cpos pos : Pos} {e₀ : Expr} {rest : List Expr} {ta : TA}
end
section
variable {X : Cx} {CX : CXT} {k : Nat} {f : Addr} {fd : FuncData} {ps : List Str} {sp : Sp} {dvs : List V} {ds : List Value} {E : St → XK} {x : Str} {p pos : Pos} {e : Expr} {es : List Expr} {t : TA}
end
section
variable {X : Cx} {D : Addr} {i : Nat} {n x : Str} {np hpos pos : Pos} {body suite : List Stmt} {b₀ : Stmt} {tb : (St → XK) → TS} {th : TS} {L : Addr} {outer : List Env}
end
end L2
namespace L2
open PySem PySem.Spec PyProof.Rows PySem.W PySem.Builtin PySem.Builtin.ObjectAttr PySem.Builtin.Getset_descriptor
section
variable {K : PySem.W.Frag} {x C : Addr}
variable {prog : Program} {w : World} {A : Around} {E : Value → Shared → Prop} {s : Shared}
end
section
variable {X : Cx}
end
end L2
namespace L2
open PySem PySem.Spec PyProof.Rows
theorem Same.tup {K : PySem.W.Frag} {H H' : Hp} {a : Addr} {xs : List V} (e : Same H H') (h : SqT K H a xs) : SqT K H' a xs := by
  rcases h with (h | ⟨o, h⟩) | h
  · exact .inl (.inl (e _ _ h))
  · exact .inl (.inr ⟨o, e _ _ h⟩)
  · exact .inr h
theorem Same.upd {H H' : Hp} {p : Addr} {o : HO} (e : Same H H') (hp : H p = none) : Same H (L2.upd H' p o) := fun b u h => by
  rw [upd_ne (ne_of_none h hp)]; exact e b u h
theorem Same.new {H : Hp} {p : Addr} {o : HO} (hp : H p = none) : Same H (L2.upd H p o) := (Same.refl H).upd hp
theorem small_lt {a : Int} (h0 : 0 ≤ a) (h : a < 2 ^ 60) : a.natAbs < 2 ^ 8000 := by
  have big : (2 : Nat) ^ 60 < 2 ^ 8000 := Nat.pow_lt_pow_right (by decide) (by decide)
  omega
section
variable {P : Program} {w : World} {K : PySem.W.Frag} {mg : Str → Option Value} {base : Heap}
theorem Fun.d {x qual : Str} {st : Stmt} {f : Addr} {fd : FuncData} (F : Fun K x qual st f fd) : FunD K x qual st .none f fd := ⟨F.ex, F.kp⟩
end
end L2
namespace L2
open PySem
section
variable {X : Cx}
end
end L2
namespace L2
open PySem PySem.Spec PyProof.Rows
section
variable {X : Cx} {tg : Expr}
theorem boolsAre {bs : List Bool} {its : List Value} (r : Vals (bs.map V.bl) its) : PyProof.Rows.LSm.BoolsAre its bs := by
  induction bs generalizing its with
  | nil => cases r; exact .nil
  | cons y ys ih =>
    cases r with
    | cons r1 rr =>
      cases r1
      exact .cons _ (ih rr)
def rAll (K : PySem.W.Frag) : List V → Hp → VK → Prop := fun xs H Q => ∃ (p : Addr) (bs : List Bool), xs = [.ref p] ∧ SqL K H p (bs.map V.bl) ∧ Q (.bl (bs.all id)) H
theorem call_all (hc : X.calm = true) : CallR X (.builtin "all") (rAll X.K) := by
  intro pins s σ H xs us Q I r h
  obtain ⟨p, bs, rfl, hq, q⟩ := h
  cases r with
  | cons r1 rr =>
    cases rr
    cases r1
    obtain ⟨its, rv, pl, hz⟩ := I.list hq
    have hb := boolsAre rv
    have hl : s.heap.IsList p its.toArray := pl.isList
    have hlt : p < s.heap.objs.size := by obtain ⟨_, e, _⟩ := hl; exact Heap.lt_size e
    refine call_all_walk (wpAny_pyIter_list hl ?_)
    refine ⟨s.heap.objs.size, [s.heap.objs.size, p], [s.heap.objs.size], its.toArray.size, _, _, fun i => (bs[i]?).getD true, rfl, Walks.list (A := X.A.in1) (I.ok.hd hc) _ p (Nat.ne_of_lt hlt) its.toArray,
      ⟨⟨_, Heap.get?_push_size _ rfl, rfl, rfl⟩, hl.push _⟩, fun i v s' Q' E' hP hQ => ?_, fun h' tk hk => ?_⟩
    · obtain ⟨b, e, rfl⟩ := hb.get i v (by simpa using hP)
      simp only [e, Option.getD_some] at hQ
      exact wpAny_truthy_bool hQ
    · have e : ((List.range its.toArray.size).all fun i => (bs[i]?).getD true) = bs.all id := by
        rw [List.size_toArray, hb.length]; exact LSm.range_all bs
      rw [e]
      exact ⟨.bl _, H, I.kept (t' := tk) (LSm.kept_iter hk), rfl, q⟩
end
end L2
namespace L2
open PySem PySem.Spec PyProof.Rows
inductive Tr where
  | fz (d : Dv)
  | ow (ts : List Tr)
  | tp (ts : List Tr)
mutual
def Ow (K : PySem.W.Frag) (G H : Hp) : Tr → V → List Addr → Prop
  | .fz d, v, fp => fp = [] ∧ Hv K G d v
  | .ow ts, v, fp => ∃ a vs fq, v = .ref a ∧ H a = some (.lst vs) ∧ OwL K G H ts vs fq ∧ fp = a :: fq
  | .tp ts, v, fp => ∃ a vs fq, v = .ref a ∧ H a = some (.tup vs) ∧ OwL K G H ts vs fq ∧ fp = a :: fq
def OwL (K : PySem.W.Frag) (G H : Hp) : List Tr → List V → List Addr → Prop
  | [], vs, fp => vs = [] ∧ fp = []
  | t :: ts, vs, fp => ∃ v r f1 f2, vs = v :: r ∧ fp = f1 ++ f2 ∧ Ow K G H t v f1 ∧ OwL K G H ts r f2
end
mutual
def er : Tr → Dv
  | .fz d => d
  | .ow ts => .lst (ers ts)
  | .tp ts => .tup (ers ts)
def ers : List Tr → List Dv
  | [] => []
  | t :: ts => er t :: ers ts
end
theorem ers_map : ∀ ts : List Tr, ers ts = ts.map er
  | [] => rfl
  | t :: ts => by rw [ers, ers_map ts]; rfl
mutual
theorem Hv.mono {K : PySem.W.Frag} {G G' : Hp} (e : Same G G') : ∀ {d : Dv} {v : V}, Hv K G d v → Hv K G' d v
  | .fl _, _, h => h
  | .lst ds, _, ⟨a, xs, h1, h2, h3⟩ => ⟨a, xs, h1, e.seq h2, HvL.mono e h3⟩
  | .tup ds, _, ⟨a, xs, h1, h2, h3⟩ => ⟨a, xs, h1, e.tup h2, HvL.mono e h3⟩
theorem HvL.mono {K : PySem.W.Frag} {G G' : Hp} (e : Same G G') : ∀ {ds : List Dv} {vs : List V}, HvL K G ds vs → HvL K G' ds vs
  | [], _, h => h
  | _ :: _, _, ⟨x, r, h1, h2, h3⟩ => ⟨x, r, h1, h2.mono e, HvL.mono e h3⟩
end
mutual
theorem Ow.mono {K : PySem.W.Frag} {G G' H H' : Hp} (e : Same G G') (e' : Same H H') : ∀ {t : Tr} {v : V} {fp : List Addr}, Ow K G H t v fp → Ow K G' H' t v fp
  | .fz _, _, _, ⟨h1, h2⟩ => ⟨h1, h2.mono e⟩
  | .ow _, _, _, ⟨a, vs, fq, h1, h2, h3, h4⟩ => ⟨a, vs, fq, h1, e' _ _ h2, OwL.mono e e' h3, h4⟩
  | .tp _, _, _, ⟨a, vs, fq, h1, h2, h3, h4⟩ => ⟨a, vs, fq, h1, e' _ _ h2, OwL.mono e e' h3, h4⟩
theorem OwL.mono {K : PySem.W.Frag} {G G' H H' : Hp} (e : Same G G') (e' : Same H H') : ∀ {ts : List Tr} {vs : List V} {fp : List Addr}, OwL K G H ts vs fp → OwL K G' H' ts vs fp
  | [], _, _, h => h
  | _ :: _, _, _, ⟨v, r, f1, f2, h1, h2, h3, h4⟩ => ⟨v, r, f1, f2, h1, h2, h3.mono e e', OwL.mono e e' h4⟩
end
mutual
theorem Ow.frame {K : PySem.W.Frag} {G H : Hp} {a : Addr} {o : HO} : ∀ {t : Tr} {v : V} {fp : List Addr}, Ow K G H t v fp → a ∉ fp → Ow K G (upd H a o) t v fp
  | .fz _, _, _, h, _ => h
  | .ow _, _, _, ⟨b, vs, fq, h1, h2, h3, h4⟩, n => by
    subst h4
    refine ⟨b, vs, fq, h1, ?_, OwL.frame h3 fun z => n (.tail _ z), rfl⟩
    rw [upd_ne fun z => n (by rw [z]; exact .head _)]
    exact h2
  | .tp _, _, _, ⟨b, vs, fq, h1, h2, h3, h4⟩, n => by
    subst h4
    refine ⟨b, vs, fq, h1, ?_, OwL.frame h3 fun z => n (.tail _ z), rfl⟩
    rw [upd_ne fun z => n (by rw [z]; exact .head _)]
    exact h2
theorem OwL.frame {K : PySem.W.Frag} {G H : Hp} {a : Addr} {o : HO} : ∀ {ts : List Tr} {vs : List V} {fp : List Addr}, OwL K G H ts vs fp → a ∉ fp → OwL K G (upd H a o) ts vs fp
  | [], _, _, h, _ => h
  | _ :: _, _, _, ⟨v, r, f1, f2, h1, h2, h3, h4⟩, n => by
    subst h2
    exact ⟨v, r, f1, f2, h1, rfl, h3.frame fun z => n (List.mem_append_left _ z), OwL.frame h4 fun z => n (List.mem_append_right _ z)⟩
end
mutual
theorem Ow.there {K : PySem.W.Frag} {G H : Hp} : ∀ {t : Tr} {v : V} {fp : List Addr}, Ow K G H t v fp → ∀ a ∈ fp, ∃ o, H a = some o
  | .fz _, _, _, ⟨h, _⟩, a, ha => by subst h; cases ha
  | .ow _, _, _, ⟨b, vs, fq, h1, h2, h3, h4⟩, a, ha => by
    subst h4
    rcases List.mem_cons.mp ha with rfl | ha
    · exact ⟨_, h2⟩
    · exact OwL.there h3 a ha
  | .tp _, _, _, ⟨b, vs, fq, h1, h2, h3, h4⟩, a, ha => by
    subst h4
    rcases List.mem_cons.mp ha with rfl | ha
    · exact ⟨_, h2⟩
    · exact OwL.there h3 a ha
theorem OwL.there {K : PySem.W.Frag} {G H : Hp} : ∀ {ts : List Tr} {vs : List V} {fp : List Addr}, OwL K G H ts vs fp → ∀ a ∈ fp, ∃ o, H a = some o
  | [], _, _, ⟨_, h⟩, a, ha => by subst h; cases ha
  | _ :: _, _, _, ⟨v, r, f1, f2, h1, h2, h3, h4⟩, a, ha => by
    subst h2
    rcases List.mem_append.mp ha with ha | ha
    · exact h3.there a ha
    · exact OwL.there h4 a ha
end
mutual
theorem Ow.hv {K : PySem.W.Frag} {G H G' : Hp} (e : Same G G') : ∀ {t : Tr} {v : V} {fp : List Addr}, Ow K G H t v fp → (∀ a ∈ fp, G' a = H a) → Hv K G' (er t) v
  | .fz _, _, _, ⟨_, h⟩, _ => h.mono e
  | .ow _, _, _, ⟨b, vs, fq, h1, h2, h3, h4⟩, q => by
    subst h4
    exact ⟨b, vs, h1, SqL.of ((q b (.head _)).trans h2), OwL.hv e h3 fun a ha => q a (.tail _ ha)⟩
  | .tp _, _, _, ⟨b, vs, fq, h1, h2, h3, h4⟩, q => by
    subst h4
    exact ⟨b, vs, h1, SqT.of ((q b (.head _)).trans h2), OwL.hv e h3 fun a ha => q a (.tail _ ha)⟩
theorem OwL.hv {K : PySem.W.Frag} {G H G' : Hp} (e : Same G G') : ∀ {ts : List Tr} {vs : List V} {fp : List Addr}, OwL K G H ts vs fp → (∀ a ∈ fp, G' a = H a) → HvL K G' (ers ts) vs
  | [], _, _, ⟨h, _⟩, _ => h
  | _ :: _, _, _, ⟨v, r, f1, f2, h1, h2, h3, h4⟩, q => by
    subst h2
    exact ⟨v, r, h1, h3.hv e fun a ha => q a (List.mem_append_left _ ha), OwL.hv e h4 fun a ha => q a (List.mem_append_right _ ha)⟩
end
theorem OwL.length {K : PySem.W.Frag} {G H : Hp} : ∀ {ts : List Tr} {vs : List V} {fp : List Addr}, OwL K G H ts vs fp → ts.length = vs.length
  | [], _, _, ⟨h, _⟩ => by subst h; rfl
  | _ :: _, _, _, ⟨v, r, f1, f2, h1, h2, h3, h4⟩ => by subst h1; rw [List.length_cons, List.length_cons, OwL.length h4]
theorem OwL.append {K : PySem.W.Frag} {G H : Hp} : ∀ {ts us : List Tr} {vs ws : List V} {f1 f2 : List Addr}, OwL K G H ts vs f1 → OwL K G H us ws f2 → OwL K G H (ts ++ us) (vs ++ ws) (f1 ++ f2)
  | [], us, _, ws, _, f2, ⟨h, h'⟩, q => by subst h h'; exact q
  | _ :: _, us, _, ws, _, f2, ⟨v, r, g1, g2, h1, h2, h3, h4⟩, q => by
    subst h1 h2
    exact ⟨v, r ++ ws, g1, g2 ++ f2, rfl, by rw [List.append_assoc], h3, OwL.append h4 q⟩
theorem HvL.owl {K : PySem.W.Frag} {G H : Hp} : ∀ {ds : List Dv} {vs : List V}, HvL K G ds vs → OwL K G H (ds.map .fz) vs []
  | [], _, h => ⟨h, rfl⟩
  | _ :: _, _, ⟨x, r, h1, h2, h3⟩ => ⟨x, r, [], [], h1, rfl, ⟨rfl, h2⟩, HvL.owl h3⟩
structure Step (G H G' H' : Hp) : Prop where
  g : Same G G'
  h : Same H H'
  s : Same G' H'
  n : ∀ a, G a = none → G' a ≠ none → H a = none
theorem Step.refl {G H : Hp} (s : Same G H) : Step G H G H := ⟨Same.refl _, Same.refl _, s, fun a h h' => absurd h h'⟩
theorem Step.trans {G H G1 H1 G2 H2 : Hp} (a : Step G H G1 H1) (b : Step G1 H1 G2 H2) : Step G H G2 H2 :=
  ⟨a.g.trans b.g, a.h.trans b.h, b.s, fun x h h' => by
    cases q : G1 x with
    | none => exact a.h.free (b.n x q h')
    | some o => exact a.n x h (by rw [q]; exact fun z => nomatch z)⟩
theorem Same.upd2 {G H : Hp} {p : Addr} {o : HO} (s : Same G H) : Same (L2.upd G p o) (L2.upd H p o) := fun b u h => by
  unfold L2.upd at h ⊢
  split
  · rename_i e; rw [if_pos e] at h; exact h
  · rename_i e; rw [if_neg e] at h; exact s b u h
theorem Step.new {G H : Hp} {p : Addr} {o : HO} (s : Same G H) (hp : H p = none) : Step G H (upd G p o) (upd H p o) :=
  ⟨Same.new (s.free hp), Same.new hp, s.upd2, fun a h h' => by
    by_cases e : a = p
    · subst e; exact hp
    · rw [upd_ne e] at h'; exact absurd h h'⟩
theorem Step.newO {G H : Hp} {p : Addr} {o : HO} (s : Same G H) (hp : H p = none) : Step G H G (upd H p o) :=
  ⟨Same.refl _, Same.new hp, s.trans (Same.new hp), fun a h h' => absurd h h'⟩
structure Nw (H G' : Hp) (fq : List Addr) : Prop where
  n : ∀ a ∈ fq, H a = none
  g : ∀ a ∈ fq, G' a = none
  d : fq.Nodup
theorem Nw.nil {H G : Hp} : Nw H G [] := ⟨fun _ h => (nomatch h), fun _ h => (nomatch h), .nil⟩
def Kv (K : PySem.W.Frag) (G H : Hp) (t : Tr) (Q : VK) : Prop := ∀ v G' H' fq, Step G H G' H' → Ow K G' H' t v fq → Nw H G' fq → Q v H'
theorem Kv.step {K : PySem.W.Frag} {G H G1 H1 : Hp} {t : Tr} {Q : VK} (k : Kv K G H t Q) (e : Step G H G1 H1) : Kv K G1 H1 t Q := fun v G' H' fq st o w =>
  k v G' H' fq (e.trans st) o ⟨fun a ha => e.h.free (w.n a ha), w.g, w.d⟩
def frzd (G H : Hp) (fq : List Addr) : Hp := fun a => if a ∈ fq then H a else G a
theorem frzd_in {G H : Hp} {fq : List Addr} {a : Addr} (h : a ∈ fq) : frzd G H fq a = H a := by unfold frzd; rw [if_pos h]
theorem frzd_out {G H : Hp} {fq : List Addr} {a : Addr} (h : a ∉ fq) : frzd G H fq a = G a := by unfold frzd; rw [if_neg h]
theorem frzd_same {G H : Hp} {fq : List Addr} (h : ∀ a ∈ fq, G a = none) : Same G (frzd G H fq) := fun b o e => by
  by_cases q : b ∈ fq
  · rw [h b q] at e; cases e
  · rw [frzd_out q]; exact e
theorem frzd_sub {G H : Hp} {fq : List Addr} (s : Same G H) : Same (frzd G H fq) H := fun b o e => by
  by_cases q : b ∈ fq
  · rw [frzd_in q] at e; exact e
  · rw [frzd_out q] at e; exact s b o e
theorem Step.frz {G H G' H' : Hp} {fq : List Addr} (e : Step G H G' H') (w : Nw H G' fq) : Step G H (frzd G' H' fq) H' :=
  ⟨e.g.trans (frzd_same w.g), e.h, frzd_sub e.s, fun a h h' => by
    by_cases q : a ∈ fq
    · exact w.n a q
    · rw [frzd_out q] at h'; exact e.n a h h'⟩
structure Fam (ι : Type) where
  cx : ι → Cx
  P : Program
  w : World
  K : PySem.W.Frag
  mg : Str → Option Value
  base : Heap
  room : Nat
  hP : ∀ i, (cx i).prog = P
  hw : ∀ i, (cx i).w = w
  hK : ∀ i, (cx i).K = K
  hm : ∀ i, (cx i).mg = mg
  hb : ∀ i, (cx i).base = base
  hr : ∀ i, Room room (cx i).A
  calm : ∀ i, (cx i).calm = true
abbrev En := List (Option Tr)
def RpD (K : PySem.W.Frag) (G : Hp) (ρ : En) (σ : St) : Prop := ∀ (j : Nat) (d : Dv), ρ[j]? = some (some (Tr.fz d)) → ∃ v, σ[j]? = some (some v) ∧ Hv K G d v
theorem RpD.mono {K : PySem.W.Frag} {G G' : Hp} {ρ : En} {σ : St} (e : Same G G') (r : RpD K G ρ σ) : RpD K G' ρ σ := fun j d h => by
  obtain ⟨v, h1, h2⟩ := r j d h
  exact ⟨v, h1, h2.mono e⟩
section
variable {ι : Type}
def Ev (F : Fam ι) (e : Expr) (ρ : En) (t : Tr) : Prop := ∃ τ : TE, (∀ i, PE (F.cx i) e τ) ∧ ∀ σ G H Q, Same G H → RpD F.K G ρ σ → Kv F.K G H t Q → τ σ H Q
def Et (F : Fam ι) (e : Expr) (ρ : En) (b : Bool) : Prop := ∃ τ : TT, (∀ i, PT (F.cx i) e τ) ∧ ∀ σ G H Q, Same G H → RpD F.K G ρ σ → (∀ G' H', Step G H G' H' → Q b H') → τ σ H Q
def EvA (F : Fam ι) (es : List Expr) (ρ : En) (ts : List Tr) : Prop := ∃ τ : TA, (∀ i, PA (F.cx i) es τ) ∧ ∀ σ G H Q, Same G H → RpD F.K G ρ σ →
  (∀ vs G' H' fq, Step G H G' H' → OwL F.K G' H' ts vs fq → Nw H G' fq → Q vs H') → τ σ H Q
variable {F : Fam ι} {e a b : Expr} {es : List Expr} {ρ : En} {t ta tb : Tr} {ts : List Tr}
theorem Ev.use (h : Ev F e ρ t) : ∃ τ : TE, (∀ i, PE (F.cx i) e τ) ∧ ∀ σ G H (Q : VK), Same G H → RpD F.K G ρ σ → (∀ v G' H', Step G H G' H' → Hv F.K G' (er t) v → Q v H') → τ σ H Q := by
  obtain ⟨τ, p, q⟩ := h
  refine ⟨τ, p, fun σ G H Q s r k => q σ G H Q s r fun v G' H' fq st o w => ?_⟩
  exact k v (frzd G' H' fq) H' (st.frz w) (o.hv (frzd_same w.g) fun a ha => frzd_in ha)
theorem Ev.fz (h : Ev F e ρ t) : Ev F e ρ (.fz (er t)) := by
  obtain ⟨τ, p, q⟩ := h.use
  exact ⟨τ, p, fun σ G H Q s r k => q σ G H Q s r fun v G' H' st hv => k v G' H' [] st ⟨rfl, hv⟩ .nil⟩
theorem Ev.as {d : Dv} (h : Ev F e ρ t) (ed : er t = d) : Ev F e ρ (.fz d) := ed ▸ h.fz
theorem EvA.use (h : EvA F es ρ ts) : ∃ τ : TA, (∀ i, PA (F.cx i) es τ) ∧ ∀ σ G H (Q : List V → Hp → Prop), Same G H → RpD F.K G ρ σ → (∀ vs G' H', Step G H G' H' → HvL F.K G' (ers ts) vs → Q vs H') → τ σ H Q := by
  obtain ⟨τ, p, q⟩ := h
  refine ⟨τ, p, fun σ G H Q s r k => q σ G H Q s r fun v G' H' fq st o w => ?_⟩
  exact k v (frzd G' H' fq) H' (st.frz w) (o.hv (frzd_same w.g) fun a ha => frzd_in ha)
theorem eva_nil : EvA F [] ρ [] := ⟨tNil, fun i => pa_nil, fun σ G H Q s r k => k [] G H [] (.refl s) ⟨rfl, rfl⟩ .nil⟩
theorem Nw.app {H G1 H1 G2 : Hp} {f1 f2 : List Addr} (w1 : Nw H G1 f1) (w2 : Nw H1 G2 f2) (hh : Same H H1) (th : ∀ a ∈ f1, ∃ o, H1 a = some o) (hg : ∀ a, G1 a = none → G2 a ≠ none → H1 a = none) : Nw H G2 (f1 ++ f2) :=
  ⟨fun a ha => (List.mem_append.mp ha).elim (w1.n a) fun z => hh.free (w2.n a z), fun a ha => (List.mem_append.mp ha).elim (fun z => by
      cases q : G2 a with
      | none => rfl
      | some o =>
        obtain ⟨u, hu⟩ := th a z
        have := hg a (w1.g a z) (by rw [q]; exact fun z => nomatch z)
        rw [hu] at this; cases this) (w2.g a),
    List.nodup_append.mpr ⟨w1.d, w2.d, fun a ha b hb e => by
      subst e
      obtain ⟨u, hu⟩ := th a ha
      rw [w2.n a hb] at hu; cases hu⟩⟩
theorem eva_cons (ha : Ev F e ρ t) (hr : EvA F es ρ ts) (hs : ∀ i, starEach (e :: es) (F.cx i).env = (false, eval e (F.cx i).env) :: starEach es (F.cx i).env := by intro _; rfl) : EvA F (e :: es) ρ (t :: ts) := by
  obtain ⟨τ, p, q⟩ := ha
  obtain ⟨τ', p', q'⟩ := hr
  refine ⟨tCons τ τ', fun i => pa_cons (p i) (p' i) (hs i), fun σ G H Q s r k => ?_⟩
  refine q σ G H _ s r fun v G1 H1 f1 s1 o1 w1 => q' σ G1 H1 _ s1.s (r.mono s1.g) fun vs G2 H2 f2 s2 o2 w2 => ?_
  exact k (v :: vs) G2 H2 (f1 ++ f2) (s1.trans s2) ⟨v, vs, f1, f2, rfl, rfl, o1.mono s2.g s2.h, o2⟩ (w1.app w2 s1.h (fun a ha => o1.there a ha) s2.n)
end
end L2
namespace L2
open PySem PySem.Spec PyProof.Rows
abbrev di (n : Int) : Dv := .fl (.int n)
abbrev db (b : Bool) : Dv := .fl (.bl b)
abbrev dn : Dv := .fl .non
abbrev dis (ns : List Int) : Dv := .lst (ns.map di)
abbrev ti (n : Int) : Tr := .fz (di n)
abbrev tb (b : Bool) : Tr := .fz (db b)
abbrev tn : Tr := .fz dn
theorem Kv.sc {K : PySem.W.Frag} {G H : Hp} {v : V} {Q : VK} (k : Kv K G H (.fz (.fl v)) Q) (s : Same G H) (f : flatV v = true) : Q v H := k v G H [] (.refl s) ⟨rfl, rfl, f⟩ .nil
theorem Kv.dat {K : PySem.W.Frag} {G H : Hp} {d : Dv} {v : V} {Q : VK} (k : Kv K G H (.fz d) Q) (s : Same G H) (h : Hv K G d v) : Q v H := k v G H [] (.refl s) ⟨rfl, h⟩ .nil
theorem Kv.lst {K : PySem.W.Frag} {G H : Hp} {ts : List Tr} {vs : List V} {Q : VK} (k : Kv K G H (.ow ts) Q) (s : Same G H) (h : OwL K G H ts vs []) {p : Addr} (hp : H p = none) : Q (.ref p) (upd H p (.lst vs)) :=
  k (.ref p) G _ [p] (.newO s hp) ⟨p, vs, [], rfl, upd_same, h.mono (Same.refl _) (Same.new hp), rfl⟩ ⟨fun a ha => by rw [List.mem_singleton.mp ha]; exact hp, fun a ha => by rw [List.mem_singleton.mp ha]; exact s.free hp, by simp⟩
theorem hvi {K : PySem.W.Frag} {G : Hp} {v x : V} (h : Hv K G (.fl v) x) : x = v := h.1
section
variable {ι : Type} {F : Fam ι} {e a b c : Expr} {es : List Expr} {ρ : En} {t ta tb' : Tr} {ts : List Tr} {pos : Pos}
theorem ev_nm (j : Nat) {d : Dv} {x : Str} (h : ρ[j]? = some (some (.fz d))) (hN : ∀ i, (F.cx i).N[j]? = some x := by intro _; rfl)
    (hv : ∀ i, Vis (F.cx i).env.scope x := by intro _; first | exact Or.inl rfl | exact Or.inr (Or.inl rfl) | exact Or.inr (Or.inr rfl)) (hd : (x == ("__debug__" : Str)) = false := by decide) (hc : (x == ("__classdict__" : Str)) = false := by decide) : Ev F (.Name x pos) ρ (.fz d) :=
  ⟨tVar j, fun i => pe_var (hN i) (hv i) hd hc, fun σ G H Q s r k => by
    obtain ⟨v, h1, h2⟩ := r j d h
    exact ⟨v, h1, k.dat s h2⟩⟩
theorem ev_int {n : Int} {j : Nat} : Ev F (.Constant (.int n) j pos) ρ (ti n) := ⟨_, fun i => pe_int, fun σ G H Q s r k => k.sc s rfl⟩
theorem ev_bl {n : Bool} {j : Nat} : Ev F (.Constant (.bool n) j pos) ρ (tb n) := ⟨_, fun i => pe_bl, fun σ G H Q s r k => k.sc s rfl⟩
theorem ev_glob {x : Str} {v : V} {u : Value} (hm : F.mg x = some u) (r : RelV v u) (f : flatV v = true) (hg : ∀ i, Gl (F.cx i) x := by intro _; rfl) (hd : (x == ("__debug__" : Str)) = false := by decide) : Ev F (.Name x pos) ρ (.fz (.fl v)) :=
  ⟨tC v, fun i => pe_glob (hg i) ((F.hm i).symm ▸ hm) r hd, fun σ G H Q s _ k => k.sc s f⟩
theorem ev_bin {op : Operator} {r : R2} (ho : ∀ i, OpR (F.cx i) (binaryOp op) r) (ha : Ev F a ρ ta) (hb : Ev F b ρ tb')
    (h : ∀ G H x y Q, Same G H → Hv F.K G (er ta) x → Hv F.K G (er tb') y → Kv F.K G H t Q → r x y H Q) : Ev F (.BinOp a op b pos) ρ t := by
  obtain ⟨τ, p, q⟩ := ha.use
  obtain ⟨τ', p', q'⟩ := hb.use
  refine ⟨tOp r τ τ', fun i => pe_op (ho i) (p i) (p' i), fun σ G H Q s rr k => ?_⟩
  refine q σ G H _ s rr fun x G1 H1 s1 hx => q' σ G1 H1 _ s1.s (rr.mono s1.g) fun y G2 H2 s2 hy => ?_
  exact h G2 H2 x y Q s2.s (hx.mono s2.g) hy (k.step (s1.trans s2))
theorem ev_add {i j : Int} (ha : Ev F a ρ (ti i)) (hb : Ev F b ρ (ti j)) : Ev F (.BinOp a .Add b pos) ρ (ti (i + j)) := ev_bin (fun _ => op_add) ha hb fun G H x y Q s hx hy k => ⟨i, j, hvi hx, hvi hy, k.sc s rfl⟩
theorem ev_sub {i j : Int} (ha : Ev F a ρ (ti i)) (hb : Ev F b ρ (ti j)) : Ev F (.BinOp a .Sub b pos) ρ (ti (i - j)) := ev_bin (fun _ => op_sub) ha hb fun G H x y Q s hx hy k => ⟨i, j, hvi hx, hvi hy, k.sc s rfl⟩
theorem ev_mul {i j : Int} (ha : Ev F a ρ (ti i)) (hb : Ev F b ρ (ti j)) (hc : CMulB i j) : Ev F (.BinOp a .Mult b pos) ρ (ti (i * j)) := ev_bin (fun _ => op_mulB) ha hb fun G H x y Q s hx hy k => ⟨i, j, hvi hx, hvi hy, hc, k.sc s rfl⟩
theorem ev_div {i j : Int} (ha : Ev F a ρ (ti i)) (hb : Ev F b ρ (ti j)) (hc : CDivB i j) : Ev F (.BinOp a .FloorDiv b pos) ρ (ti (i / j)) := ev_bin (fun _ => op_fdivB) ha hb fun G H x y Q s hx hy k => ⟨i, j, hvi hx, hvi hy, hc, k.sc s rfl⟩
theorem ev_mod {i j : Int} (ha : Ev F a ρ (ti i)) (hb : Ev F b ρ (ti j)) (hc : 0 < j) : Ev F (.BinOp a .Mod b pos) ρ (ti (i % j)) := ev_bin (fun _ => op_mod) ha hb fun G H x y Q s hx hy k => ⟨i, j, hvi hx, hvi hy, hc, k.sc s rfl⟩
theorem ev_pow {i j : Int} (ha : Ev F a ρ (ti i)) (hb : Ev F b ρ (ti j)) (hc : CPow i j) : Ev F (.BinOp a .Pow b pos) ρ (ti (i ^ j.toNat)) := ev_bin (fun _ => op_pow) ha hb fun G H x y Q s hx hy k => ⟨i, j, hvi hx, hvi hy, hc, k.sc s rfl⟩
theorem ev_neg {i : Int} (ha : Ev F a ρ (ti i)) : Ev F (.UnaryOp .USub a pos) ρ (ti (-i)) := by
  obtain ⟨τ, p, q⟩ := ha.use
  exact ⟨_, fun i => pe_un un_neg (p i), fun σ G H Q s rr k => q σ G H _ s rr fun x G1 H1 s1 hx => ⟨i, hvi hx, (k.step s1).sc s1.s rfl⟩⟩
theorem ev_cat {xs ys : List Dv} (ha : Ev F a ρ ta) (hb : Ev F b ρ tb') (ea : er ta = .lst xs) (eb : er tb' = .lst ys) (hz : xs.length + ys.length ≤ sizeLine) : Ev F (.BinOp a .Add b pos) ρ (.ow ((xs ++ ys).map .fz)) :=
  ev_bin (r := rCatL F.K) (fun i => F.hK i ▸ op_catL) ha hb fun G H x y Q s hx hy k => by
    rw [ea] at hx
    rw [eb] at hy
    obtain ⟨l, vs, rfl, h1, h2⟩ := hx
    obtain ⟨l', ws, rfl, h3, h4⟩ := hy
    refine ⟨l, l', vs, ws, rfl, rfl, s.seq h1, s.seq h3, by rw [← h2.length, ← h4.length]; exact hz, fun p hp => ?_⟩
    refine k.lst s ?_ hp
    rw [List.map_append]
    exact h2.owl.append h4.owl
theorem ev_cmp {op : CmpOp} {r : R2} {c : Bool} (ho : ∀ i, OpR (F.cx i) (compareOp op) r) (ha : Ev F a ρ ta) (hb : Ev F b ρ tb')
    (h : ∀ G H x y (Q : VK), Same G H → Hv F.K G (er ta) x → Hv F.K G (er tb') y → Q (.bl c) H → r x y H Q) (hm : behindInMarks op b = false) : Ev F (.Compare a [op] [b] pos) ρ (tb c) := by
  obtain ⟨τ, p, q⟩ := ha.use
  obtain ⟨τ', p', q'⟩ := hb.use
  refine ⟨tOp r τ τ', fun i => pe_cmpR (ho i) (p i) (p' i) hm, fun σ G H Q s rr k => ?_⟩
  refine q σ G H _ s rr fun x G1 H1 s1 hx => q' σ G1 H1 _ s1.s (rr.mono s1.g) fun y G2 H2 s2 hy => ?_
  exact h G2 H2 x y Q s2.s (hx.mono s2.g) hy ((k.step (s1.trans s2)).sc s2.s rfl)
theorem et_cmp {op : CmpOp} {r : R2} {c : Bool} (ho : ∀ i, OpR (F.cx i) (compareOp op) r) (ha : Ev F a ρ ta) (hb : Ev F b ρ tb')
    (h : ∀ G H x y (Q : VK), Same G H → Hv F.K G (er ta) x → Hv F.K G (er tb') y → Q (.bl c) H → r x y H Q) (hm : behindInMarks op b = false) : Et F (.Compare a [op] [b] pos) ρ c := by
  obtain ⟨τ, p, q⟩ := ha.use
  obtain ⟨τ', p', q'⟩ := hb.use
  refine ⟨tTest (tOp r τ τ'), fun i => pt_cmpR (ho i) (p i) (p' i) hm, fun σ G H Q s rr k => ?_⟩
  refine q σ G H _ s rr fun x G1 H1 s1 hx => q' σ G1 H1 _ s1.s (rr.mono s1.g) fun y G2 H2 s2 hy => ?_
  exact h G2 H2 x y _ s2.s (hx.mono s2.g) hy ⟨c, rfl, k G2 H2 (s1.trans s2)⟩
theorem et_lt {i j : Int} (ha : Ev F a ρ (ti i)) (hb : Ev F b ρ (ti j)) : Et F (.Compare a [.Lt] [b] pos) ρ (decide (i < j)) := et_cmp (fun _ => op_lt) ha hb (fun G H x y Q s hx hy k => ⟨i, j, hvi hx, hvi hy, k⟩) (nomark _)
theorem et_gt {i j : Int} (ha : Ev F a ρ (ti i)) (hb : Ev F b ρ (ti j)) : Et F (.Compare a [.Gt] [b] pos) ρ (decide (j < i)) := et_cmp (fun _ => op_gt) ha hb (fun G H x y Q s hx hy k => ⟨i, j, hvi hx, hvi hy, k⟩) (nomark _)
theorem et_eq {i j : Int} (ha : Ev F a ρ (ti i)) (hb : Ev F b ρ (ti j)) : Et F (.Compare a [.Eq] [b] pos) ρ (decide (i = j)) := et_cmp (fun _ => op_eq) ha hb (fun G H x y Q s hx hy k => by
  rw [hvi hx, hvi hy]; exact ⟨rfl, by simpa using k⟩) (nomark _)
theorem et_ne {i j : Int} (ha : Ev F a ρ (ti i)) (hb : Ev F b ρ (ti j)) : Et F (.Compare a [.NotEq] [b] pos) ρ (!decide (i = j)) := et_cmp (fun _ => op_ne) ha hb (fun G H x y Q s hx hy k => by
  rw [hvi hx, hvi hy]; exact ⟨rfl, by simpa using k⟩) (nomark _)
theorem ev_lt {i j : Int} (ha : Ev F a ρ (ti i)) (hb : Ev F b ρ (ti j)) : Ev F (.Compare a [.Lt] [b] pos) ρ (tb (decide (i < j))) := ev_cmp (fun _ => op_lt) ha hb (fun G H x y Q s hx hy k => ⟨i, j, hvi hx, hvi hy, k⟩) (nomark _)
theorem ev_gt {i j : Int} (ha : Ev F a ρ (ti i)) (hb : Ev F b ρ (ti j)) : Ev F (.Compare a [.Gt] [b] pos) ρ (tb (decide (j < i))) := ev_cmp (fun _ => op_gt) ha hb (fun G H x y Q s hx hy k => ⟨i, j, hvi hx, hvi hy, k⟩) (nomark _)
theorem ev_ge {i j : Int} (ha : Ev F a ρ (ti i)) (hb : Ev F b ρ (ti j)) : Ev F (.Compare a [.GtE] [b] pos) ρ (tb (decide (j ≤ i))) := ev_cmp (fun _ => op_ge) ha hb (fun G H x y Q s hx hy k => ⟨i, j, hvi hx, hvi hy, k⟩) (nomark _)
theorem ev_eq {i j : Int} (ha : Ev F a ρ (ti i)) (hb : Ev F b ρ (ti j)) : Ev F (.Compare a [.Eq] [b] pos) ρ (tb (decide (i = j))) := ev_cmp (fun _ => op_eq) ha hb (fun G H x y Q s hx hy k => by
  rw [hvi hx, hvi hy]; exact ⟨rfl, by simpa using k⟩) (nomark _)
def alikeD (d e : Dv) : Prop := (∃ xs ys, d = .lst xs ∧ e = .lst ys) ∨ ∃ xs ys, d = .tup xs ∧ e = .tup ys
theorem et_eqS (ha : Ev F a ρ ta) (hb : Ev F b ρ tb') (hk : alikeD (er ta) (er tb')) (hd : dpD (er ta) ≤ 50) : Et F (.Compare a [.Eq] [b] pos) ρ (eqD (er ta) (er tb')) :=
  et_cmp (r := rEqS F.K false) (fun i => F.hK i ▸ op_eqS (F.hr i).units) ha hb (fun G H x y Q s hx hy k => ⟨_, _, hk, hx.mono s, hy.mono s, hd, k⟩) (nomark _)
theorem et_neS (ha : Ev F a ρ ta) (hb : Ev F b ρ tb') (hk : alikeD (er ta) (er tb')) (hd : dpD (er ta) ≤ 50) : Et F (.Compare a [.NotEq] [b] pos) ρ (!eqD (er ta) (er tb')) :=
  et_cmp (r := rEqS F.K true) (fun i => F.hK i ▸ op_neS (F.hr i).units) ha hb (fun G H x y Q s hx hy k => ⟨_, _, hk, hx.mono s, hy.mono s, hd, k⟩) (nomark _)
theorem ev_eqS (ha : Ev F a ρ ta) (hb : Ev F b ρ tb') (hk : alikeD (er ta) (er tb')) (hd : dpD (er ta) ≤ 50) : Ev F (.Compare a [.Eq] [b] pos) ρ (tb (eqD (er ta) (er tb'))) :=
  ev_cmp (r := rEqS F.K false) (fun i => F.hK i ▸ op_eqS (F.hr i).units) ha hb (fun G H x y Q s hx hy k => ⟨_, _, hk, hx.mono s, hy.mono s, hd, k⟩) (nomark _)
theorem hvl_ints {K : PySem.W.Frag} {G : Hp} : ∀ {ns : List Int} {vs : List V}, HvL K G (ns.map di) vs → vs = ns.map V.int
  | [], _, h => h
  | _ :: _, _, ⟨x, r, h1, h2, h3⟩ => by subst h1; rw [hvi h2, hvl_ints h3]; rfl
theorem ints_hvl {K : PySem.W.Frag} {G : Hp} : ∀ {ns : List Int}, HvL K G (ns.map di) (ns.map V.int)
  | [] => rfl
  | _ :: _ => ⟨_, _, rfl, ⟨rfl, rfl⟩, ints_hvl⟩
theorem et_val {c : Bool} (h : Ev F e ρ (tb c)) (he : ∀ i whole, isTrue e (F.cx i).env whole = (do let v ← whole; standAt e.pos; holding [v] (truthy v)) := by intro _ _; rfl) : Et F e ρ c := by
  obtain ⟨τ, p, q⟩ := h
  exact ⟨tB τ, fun i => pt_val (p i) (he i), fun σ G H Q s r k => q σ G H _ s r fun v G' H' fq st o w => ⟨c, hvi o.2, k G' H' st⟩⟩
def Ew (F : Fam ι) (e : Expr) (ρ : En) (b : Bool) : Prop := ∃ τ : TT, (∀ i, PW (F.cx i) e τ) ∧ ∀ σ G H Q, Same G H → RpD F.K G ρ σ → (∀ G' H', Step G H G' H' → Q b H') → τ σ H Q
theorem Ew.et {p : Bool} (h : Ew F e ρ p) : Et F e ρ p := let ⟨τ, a, b⟩ := h; ⟨τ, fun i => (a i).pt, b⟩
theorem pw_never {X : Cx} : PW X e (fun _ _ _ => False) := fun _ _ _ _ _ _ _ h => h.elim
theorem ew_and1 {p : Bool} (h : Et F a ρ p) : Ew F (.BoolOp .And [a] pos) ρ p := let ⟨τ, x, y⟩ := h; ⟨τ, fun i => pw_and1 (x i), y⟩
theorem ew_or1 {p : Bool} (h : Et F a ρ p) : Ew F (.BoolOp .Or [a] pos) ρ p := let ⟨τ, x, y⟩ := h; ⟨τ, fun i => pw_or1 (x i), y⟩
theorem ew_and {p q : Bool} {rest : List Expr} (h : Et F a ρ p) (h2 : p = true → Ew F (.BoolOp .And (b :: rest) pos) ρ q) : Ew F (.BoolOp .And (a :: b :: rest) pos) ρ (p && q) := by
  obtain ⟨τ, x, y⟩ := h
  cases p with
  | false => exact ⟨tAnd τ _, fun i => pw_and (x i) pw_never, fun σ G H Q s r k => y σ G H _ s r fun G' H' st => iteF (k G' H' st)⟩
  | true =>
    obtain ⟨τ', x', y'⟩ := h2 rfl
    exact ⟨tAnd τ τ', fun i => pw_and (x i) (x' i), fun σ G H Q s r k => y σ G H _ s r fun G1 H1 s1 => iteT (y' σ G1 H1 _ s1.s (r.mono s1.g) fun G2 H2 s2 => k G2 H2 (s1.trans s2))⟩
theorem ew_or {p q : Bool} {rest : List Expr} (h : Et F a ρ p) (h2 : p = false → Ew F (.BoolOp .Or (b :: rest) pos) ρ q) : Ew F (.BoolOp .Or (a :: b :: rest) pos) ρ (p || q) := by
  obtain ⟨τ, x, y⟩ := h
  cases p with
  | true => exact ⟨tOr τ _, fun i => pw_or (x i) pw_never, fun σ G H Q s r k => y σ G H _ s r fun G' H' st => iteT (k G' H' st)⟩
  | false =>
    obtain ⟨τ', x', y'⟩ := h2 rfl
    exact ⟨tOr τ τ', fun i => pw_or (x i) (x' i), fun σ G H Q s r k => y σ G H _ s r fun G1 H1 s1 => iteF (y' σ G1 H1 _ s1.s (r.mono s1.g) fun G2 H2 s2 => k G2 H2 (s1.trans s2))⟩
theorem et_not {p : Bool} (h : Et F a ρ p) : Et F (.UnaryOp .Not a pos) ρ (!p) := by
  obtain ⟨τ, x, y⟩ := h
  exact ⟨tNot τ, fun i => pt_not (x i), fun σ G H Q s r k => y σ G H _ s r k⟩
theorem pe_never {X : Cx} : PE X e (fun _ _ _ => False) := fun _ _ _ _ _ _ h => h.elim
theorem ev_one {op : BoolOp} {t : Tr} (h : Ev F a ρ t) : Ev F (.BoolOp op [a] pos) ρ t := let ⟨τ, x, y⟩ := h; ⟨τ, fun i => pe_one (x i), y⟩
theorem ev_and {p q : Bool} {rest : List Expr} (h : Ev F a ρ (tb p)) (h2 : p = true → Ev F (.BoolOp .And (b :: rest) pos) ρ (tb q)) : Ev F (.BoolOp .And (a :: b :: rest) pos) ρ (tb (p && q)) := by
  obtain ⟨τ, x, y⟩ := h.use
  cases p with
  | false => exact ⟨tAndV τ _, fun i => pe_and (x i) pe_never, fun σ G H Q s r k => y σ G H _ s r fun v G' H' st hv => ⟨false, hvi hv, iteF ((k.step st).sc st.s rfl)⟩⟩
  | true =>
    obtain ⟨τ', x', y'⟩ := h2 rfl
    exact ⟨tAndV τ τ', fun i => pe_and (x i) (x' i), fun σ G H Q s r k => y σ G H _ s r fun v G1 H1 s1 hv => ⟨true, hvi hv, iteT (y' σ G1 H1 _ s1.s (r.mono s1.g) (k.step s1))⟩⟩
theorem ev_or {p q : Bool} {rest : List Expr} (h : Ev F a ρ (tb p)) (h2 : p = false → Ev F (.BoolOp .Or (b :: rest) pos) ρ (tb q)) : Ev F (.BoolOp .Or (a :: b :: rest) pos) ρ (tb (p || q)) := by
  obtain ⟨τ, x, y⟩ := h.use
  cases p with
  | true => exact ⟨tOrV τ _, fun i => pe_or (x i) pe_never, fun σ G H Q s r k => y σ G H _ s r fun v G' H' st hv => ⟨true, hvi hv, iteT ((k.step st).sc st.s rfl)⟩⟩
  | false =>
    obtain ⟨τ', x', y'⟩ := h2 rfl
    exact ⟨tOrV τ τ', fun i => pe_or (x i) (x' i), fun σ G H Q s r k => y σ G H _ s r fun v G1 H1 s1 hv => ⟨false, hvi hv, iteF (y' σ G1 H1 _ s1.s (r.mono s1.g) (k.step s1))⟩⟩
theorem ev_not {p : Bool} (h : Ev F a ρ (tb p)) : Ev F (.UnaryOp .Not a pos) ρ (tb (!p)) := by
  obtain ⟨τ, x, y⟩ := h.use
  exact ⟨tNotV τ, fun i => pe_not (x i), fun σ G H Q s r k => y σ G H _ s r fun v G' H' st hv => ⟨p, hvi hv, (k.step st).sc st.s rfl⟩⟩
theorem ev_lst (h : EvA F es ρ ts) (hz : ts.length ≤ sizeLine) : Ev F (.List es pos) ρ (.ow ts) := by
  obtain ⟨τ, x, y⟩ := h
  refine ⟨tLst τ, fun i => pe_lst (x i), fun σ G H Q s r k => y σ G H _ s r fun vs G1 H1 fq s1 o w => ⟨by rw [← o.length]; exact hz, fun p hp => ?_⟩⟩
  have np : p ∉ fq := fun z => by
    obtain ⟨u, hu⟩ := o.there p z
    rw [hp] at hu; cases hu
  exact k (.ref p) G1 _ (p :: fq) (s1.trans (.newO s1.s hp)) ⟨p, vs, fq, rfl, upd_same, o.mono (Same.refl _) (Same.new hp), rfl⟩
    ⟨fun a ha => (List.mem_cons.mp ha).elim (fun z => by rw [z]; exact s1.h.free hp) (w.n a), fun a ha => (List.mem_cons.mp ha).elim (fun z => by rw [z]; exact s1.s.free hp) (w.g a), List.nodup_cons.mpr ⟨np, w.d⟩⟩
theorem ev_tup {x1} (h : EvA F es ρ ts) (hz : ts.length ≤ sizeLine) : Ev F (.Tuple es x1 pos) ρ (.tp ts) := by
  obtain ⟨τ, x, y⟩ := h
  refine ⟨tTup τ, fun i => pe_tup (x i), fun σ G H Q s r k => y σ G H _ s r fun vs G1 H1 fq s1 o w => ⟨by rw [← o.length]; exact hz, fun p hp => ?_⟩⟩
  have np : p ∉ fq := fun z => by
    obtain ⟨u, hu⟩ := o.there p z
    rw [hp] at hu; cases hu
  exact k (.ref p) G1 _ (p :: fq) (s1.trans (.newO s1.s hp)) ⟨p, vs, fq, rfl, upd_same, o.mono (Same.refl _) (Same.new hp), rfl⟩
    ⟨fun a ha => (List.mem_cons.mp ha).elim (fun z => by rw [z]; exact s1.h.free hp) (w.n a), fun a ha => (List.mem_cons.mp ha).elim (fun z => by rw [z]; exact s1.s.free hp) (w.g a), List.nodup_cons.mpr ⟨np, w.d⟩⟩
theorem ev_tupD {x1} {dd : List Dv} (h : EvA F es ρ ts) (ed : ers ts = dd) (hz : ts.length ≤ sizeLine) : Ev F (.Tuple es x1 pos) ρ (.fz (.tup dd)) := ed ▸ (ev_tup h hz).fz
theorem HvL.get {K : PySem.W.Frag} {G : Hp} : ∀ {ds : List Dv} {vs : List V} {j : Nat} {d : Dv}, HvL K G ds vs → ds[j]? = some d → ∃ v, vs[j]? = some v ∧ Hv K G d v
  | _ :: _, _, 0, _, ⟨x, r, h1, h2, h3⟩, h => by cases h; subst h1; exact ⟨x, rfl, h2⟩
  | _ :: _, _, j + 1, d, ⟨x, r, h1, h2, h3⟩, h => by
    subst h1
    obtain ⟨v, q1, q2⟩ := HvL.get (j := j) h3 h
    exact ⟨v, q1, q2⟩
theorem HvL.at {K : PySem.W.Frag} {G : Hp} {ds : List Dv} {vs : List V} {k : Int} {d : Dv} (h : HvL K G ds vs) (hk : atI ds k = some d) : ∃ v, atI vs k = some v ∧ Hv K G d v := by
  unfold atI at hk ⊢
  rw [← h.length]
  cases q : ixN ds.length k with
  | none => rw [q] at hk; cases hk
  | some j => rw [q] at hk; exact h.get hk
theorem ev_ix {xs : List Dv} {k : Int} {d : Dv} (ha : Ev F a ρ ta) (hb : Ev F b ρ (ti k)) (ea : er ta = .lst xs) (hk : atI xs k = some d) (hs : PlainIx b := by exact fun _ _ => rfl) : Ev F (.Subscript a b pos) ρ (.fz d) := by
  obtain ⟨τ, p, q⟩ := ha.use
  obtain ⟨τ', p', q'⟩ := hb.use
  refine ⟨tOp (rIxL F.K) τ τ', fun i => pe_ix (ix_listK (F.hK i)) (p i) (p' i) hs, fun σ G H Q s rr k => ?_⟩
  refine q σ G H _ s rr fun x G1 H1 s1 hx => q' σ G1 H1 _ s1.s (rr.mono s1.g) fun y G2 H2 s2 hy => ?_
  rw [ea] at hx
  obtain ⟨l, vs, rfl, h1, h2⟩ := hx
  obtain ⟨v, h3, h4⟩ := h2.at hk
  exact ⟨l, vs, _, v, rfl, hvi hy, (s2.g.trans s2.s).seq h1, h3, (k.step (s1.trans s2)).dat s2.s (h4.mono s2.g)⟩
theorem ev_ixT {xs : List Dv} {k : Int} {d : Dv} (ha : Ev F a ρ ta) (hb : Ev F b ρ (ti k)) (ea : er ta = .tup xs) (hk : atI xs k = some d) (hs : PlainIx b := by exact fun _ _ => rfl) : Ev F (.Subscript a b pos) ρ (.fz d) := by
  obtain ⟨τ, p, q⟩ := ha.use
  obtain ⟨τ', p', q'⟩ := hb.use
  refine ⟨tOp (rIxT F.K) τ τ', fun i => pe_ix (ix_tupK (F.hK i)) (p i) (p' i) hs, fun σ G H Q s rr k => ?_⟩
  refine q σ G H _ s rr fun x G1 H1 s1 hx => q' σ G1 H1 _ s1.s (rr.mono s1.g) fun y G2 H2 s2 hy => ?_
  rw [ea] at hx
  obtain ⟨l, vs, rfl, h1, h2⟩ := hx
  obtain ⟨v, h3, h4⟩ := h2.at hk
  exact ⟨l, vs, _, v, rfl, hvi hy, (s2.g.trans s2.s).tup h1, h3, (k.step (s1.trans s2)).dat s2.s (h4.mono s2.g)⟩
def cutD {α : Type} (xs : List α) (lo hi : Option Int) : List α := (xs.drop (HT.sIx xs.length 0 lo)).take (HT.sIx xs.length xs.length hi - HT.sIx xs.length 0 lo)
theorem HvL.drop {K : PySem.W.Frag} {G : Hp} : ∀ {ds : List Dv} {vs : List V} (n : Nat), HvL K G ds vs → HvL K G (ds.drop n) (vs.drop n)
  | ds, vs, 0, h => h
  | [], _, n + 1, h => by rw [show _ = [] from h]; exact rfl
  | _ :: _, _, n + 1, ⟨x, r, h1, h2, h3⟩ => by subst h1; exact HvL.drop n h3
theorem HvL.take {K : PySem.W.Frag} {G : Hp} : ∀ {ds : List Dv} {vs : List V} (n : Nat), HvL K G ds vs → HvL K G (ds.take n) (vs.take n)
  | ds, vs, 0, h => by simp only [List.take_zero]; exact rfl
  | [], _, n + 1, h => by rw [show _ = [] from h]; exact rfl
  | _ :: _, _, n + 1, ⟨x, r, h1, h2, h3⟩ => by subst h1; exact ⟨x, r.take n, rfl, h2, HvL.take n h3⟩
theorem HvL.cut {K : PySem.W.Frag} {G : Hp} {ds : List Dv} {vs : List V} (h : HvL K G ds vs) (lo hi : Option Int) : HvL K G (cutD ds lo hi) (cutV vs lo hi) := by
  unfold cutD cutV
  rw [h.length]
  exact (h.drop _).take _
def Eo (F : Fam ι) (e : Option Expr) (ρ : En) (o : Option Int) : Prop := ∃ τ : TO, (∀ i, PO (F.cx i) e τ) ∧ ∀ σ G H Q, Same G H → RpD F.K G ρ σ → (∀ G' H', Step G H G' H' → Q o H') → τ σ H Q
theorem eo_none : Eo F none ρ none := ⟨tNoPart, fun _ => po_none, fun σ G H Q s r k => k G H (.refl s)⟩
theorem eo_some {n : Int} (h : Ev F e ρ (ti n)) : Eo F (some e) ρ (some n) := by
  obtain ⟨τ, x, y⟩ := h.use
  exact ⟨tPart τ, fun i => po_some (x i), fun σ G H Q s r k => y σ G H _ s r fun v G' H' st hv => ⟨n, hvi hv, k G' H' st⟩⟩
theorem ev_slice {lo hi : Option Expr} {l u : Option Int} {xs : List Dv} {p2 : Pos} (ha : Ev F a ρ ta) (ea : er ta = .lst xs) (hl : Eo F lo ρ l) (hu : Eo F hi ρ u) : Ev F (.Subscript a (.Slice lo hi none p2) pos) ρ (.ow ((cutD xs l u).map .fz)) := by
  obtain ⟨τ, p, q⟩ := ha.use
  obtain ⟨τ1, p1, q1⟩ := hl
  obtain ⟨τ2, p2', q2⟩ := hu
  refine ⟨tSl (rSlL F.K) τ τ1 τ2, fun i => pe_slice (F.hK i ▸ sl_list) (p i) (p1 i) (p2' i), fun σ G H Q s rr k => ?_⟩
  refine q σ G H _ s rr fun x G1 H1 s1 hx => q1 σ G1 H1 _ s1.s (rr.mono s1.g) fun G2 H2 s2 => q2 σ G2 H2 _ s2.s (rr.mono (s1.trans s2).g) fun G3 H3 s3 => ?_
  rw [ea] at hx
  obtain ⟨b, vs, rfl, h1, h2⟩ := hx
  have st := s2.trans s3
  exact ⟨b, vs, rfl, (st.g.trans st.s).seq h1, fun p hp => (k.step (s1.trans st)).lst st.s ((h2.mono st.g).cut l u).owl hp⟩
theorem ev_callB {id : String} {x : Str} {r : List V → Hp → VK → Prop} (hc : ∀ i, CallR (F.cx i) (.builtin id) r) (hm : F.mg x = none) (hv : bootBuiltins x = some (.builtin id)) (ha : EvA F (e :: es) ρ ts)
    (h : ∀ G H xs Q, Same G H → HvL F.K G (ers ts) xs → Kv F.K G H t Q → r xs H Q) {p' : Pos} (hg : ∀ i, Gl (F.cx i) x := by intro _; rfl) (hn : x ≠ "__name__" := by decide) (hdb : (x == ("__debug__" : Str)) = false := by decide)
    (he : ∀ i, starEach (e :: es) (F.cx i).env = (false, eval e (F.cx i).env) :: starEach es (F.cx i).env := by intro _; rfl) (hpl : ∀ i, (backTo pos (starEach es (F.cx i).env)).any (·.1) = false := by intro _; rfl) : Ev F (.Call (.Name x p') (e :: es) [] pos) ρ t := by
  obtain ⟨τ, y, z⟩ := ha.use
  refine ⟨tCB r τ, fun i => pe_callB (hc i) (hg i) ((F.hm i).symm ▸ hm) hv (y i) hn hdb (he i) (hpl i), fun σ G H Q s rr k => z σ G H _ s rr fun vs G1 H1 s1 hx => ?_⟩
  exact h G1 H1 vs Q s1.s hx (k.step s1)
theorem ev_callT {T : String} {x : Str} {r : List V → Hp → VK → Prop} (hc : ∀ i, CallR (F.cx i) (.type T) r) (hm : F.mg x = none) (hv : bootBuiltins x = some (.type T)) (ha : EvA F (e :: es) ρ ts)
    (h : ∀ G H xs Q, Same G H → HvL F.K G (ers ts) xs → Kv F.K G H t Q → r xs H Q) {p' : Pos} (hg : ∀ i, Gl (F.cx i) x := by intro _; rfl) (hn : x ≠ "__name__" := by decide) (hdb : (x == ("__debug__" : Str)) = false := by decide)
    (he : ∀ i, starEach (e :: es) (F.cx i).env = (false, eval e (F.cx i).env) :: starEach es (F.cx i).env := by intro _; rfl) (hpl : ∀ i, (backTo pos (starEach es (F.cx i).env)).any (·.1) = false := by intro _; rfl) : Ev F (.Call (.Name x p') (e :: es) [] pos) ρ t := by
  obtain ⟨τ, y, z⟩ := ha.use
  refine ⟨tCB r τ, fun i => pe_callTy (hc i) (hg i) ((F.hm i).symm ▸ hm) hv (y i) hn hdb (he i) (hpl i), fun σ G H Q s rr k => z σ G H _ s rr fun vs G1 H1 s1 hx => ?_⟩
  exact h G1 H1 vs Q s1.s hx (k.step s1)
theorem hvl1 {K : PySem.W.Frag} {G : Hp} {d : Dv} {xs : List V} (h : HvL K G [d] xs) : ∃ x, xs = [x] ∧ Hv K G d x := by
  obtain ⟨x, r, h1, h2, h3⟩ := h
  exact ⟨x, by rw [h1, show r = [] from h3], h2⟩
theorem hvl2 {K : PySem.W.Frag} {G : Hp} {d d' : Dv} {xs : List V} (h : HvL K G [d, d'] xs) : ∃ x y, xs = [x, y] ∧ Hv K G d x ∧ Hv K G d' y := by
  obtain ⟨x, r, h1, h2, h3⟩ := h
  obtain ⟨y, rfl, h4⟩ := hvl1 h3
  exact ⟨x, y, h1, h2, h4⟩
theorem ev_len {xs : List Dv} (hm : F.mg "len" = none) (ha : Ev F e ρ ta) (ea : er ta = .lst xs ∨ er ta = .tup xs) {p' : Pos} (hg : ∀ i, Gl (F.cx i) "len" := by intro _; rfl)
    (hs : ∀ i, starEach [e] (F.cx i).env = [(false, eval e (F.cx i).env)] := by intro _; rfl) : Ev F (.Call (.Name "len" p') [e] [] pos) ρ (ti xs.length) :=
  ev_callB (r := fun xs H Q => ∃ p ys, xs = [.ref p] ∧ (SqL F.K H p ys ∨ SqT F.K H p ys) ∧ Q (.int ys.length) H) (fun i => call_lenK (F.hK i)) hm bt_len (eva_cons ha eva_nil hs) (fun G H vs Q s hx k => by
    obtain ⟨x, rfl, hxx⟩ := hvl1 hx
    replace hx := hxx
    rcases ea with ea | ea
    · rw [ea] at hx
      obtain ⟨l, ys, rfl, h1, h2⟩ := hx
      exact ⟨l, ys, rfl, .inl (s.seq h1), by rw [← h2.length]; exact k.sc s rfl⟩
    · rw [ea] at hx
      obtain ⟨l, ys, rfl, h1, h2⟩ := hx
      exact ⟨l, ys, rfl, .inr (s.tup h1), by rw [← h2.length]; exact k.sc s rfl⟩) hg (by decide) (by decide) hs (fun _ => rfl)
theorem ev_list {xs : List Dv} (hm : F.mg "list" = none) (ha : Ev F e ρ ta) (ea : er ta = .lst xs ∨ er ta = .tup xs) {p' : Pos} (hg : ∀ i, Gl (F.cx i) "list" := by intro _; rfl)
    (hs : ∀ i, starEach [e] (F.cx i).env = [(false, eval e (F.cx i).env)] := by intro _; rfl) : Ev F (.Call (.Name "list" p') [e] [] pos) ρ (.ow (xs.map .fz)) :=
  ev_callT (r := fun xs H Q => ∃ p ys, xs = [.ref p] ∧ (SqL F.K H p ys ∨ SqT F.K H p ys) ∧ ∀ l, H l = none → Q (.ref l) (upd H l (.lst ys))) (fun i => F.hK i ▸ call_list_of) hm bt_list (eva_cons ha eva_nil hs) (fun G H vs Q s hx k => by
    obtain ⟨x, rfl, hxx⟩ := hvl1 hx
    replace hx := hxx
    rcases ea with ea | ea
    · rw [ea] at hx
      obtain ⟨l, ys, rfl, h1, h2⟩ := hx
      exact ⟨l, ys, rfl, .inl (s.seq h1), fun p hp => k.lst s h2.owl hp⟩
    · rw [ea] at hx
      obtain ⟨l, ys, rfl, h1, h2⟩ := hx
      exact ⟨l, ys, rfl, .inr (s.tup h1), fun p hp => k.lst s h2.owl hp⟩) hg (by decide) (by decide) hs (fun _ => rfl)
theorem ev_sum {ns : List Int} (hm : F.mg "sum" = none) (ha : Ev F e ρ ta) (ea : er ta = dis ns) {p' : Pos} (hg : ∀ i, Gl (F.cx i) "sum" := by intro _; rfl)
    (hs : ∀ i, starEach [e] (F.cx i).env = [(false, eval e (F.cx i).env)] := by intro _; rfl) : Ev F (.Call (.Name "sum" p') [e] [] pos) ρ (ti ns.sum) :=
  ev_callB (r := rSum F.K) (fun i => F.hK i ▸ call_sum (F.calm i)) hm bt_sum (eva_cons ha eva_nil hs) (fun G H vs Q s hx k => by
    obtain ⟨x, rfl, hxx⟩ := hvl1 hx
    replace hx := hxx
    rw [ea] at hx
    obtain ⟨l, ys, rfl, h1, h2⟩ := hx
    have := hvl_ints h2
    subst this
    exact ⟨l, ns, rfl, s.seq h1, k.sc s rfl⟩) hg (by decide) (by decide) hs (fun _ => rfl)
theorem ev_abs {n : Int} (hm : F.mg "abs" = none) (ha : Ev F e ρ (ti n)) {p' : Pos} (hg : ∀ i, Gl (F.cx i) "abs" := by intro _; rfl)
    (hs : ∀ i, starEach [e] (F.cx i).env = [(false, eval e (F.cx i).env)] := by intro _; rfl) : Ev F (.Call (.Name "abs" p') [e] [] pos) ρ (ti (if n < 0 then -n else n)) :=
  ev_callB (fun i => call_abs) hm bt_abs (eva_cons ha eva_nil hs) (fun G H vs Q s hx k => by
    obtain ⟨x, rfl, hxx⟩ := hvl1 hx
    replace hx := hxx
    exact ⟨n, by rw [hvi hx], k.sc s rfl⟩) hg (by decide) (by decide) hs (fun _ => rfl)
def tyD : Dv → Value
  | .fl .non => .type "NoneType"
  | .fl (.bl _) => .type "bool"
  | .fl (.int _) => .type "int"
  | .fl (.str _) => .type "str"
  | .fl _ => .none
  | .lst _ => .type "list"
  | .tup _ => .type "tuple"
def rIsD (K : PySem.W.Frag) (d : Dv) (n : String) (b : Bool) : List V → Hp → VK → Prop := fun xs H Q => ∃ x, xs = [x, .ty n] ∧ Hv K H d x ∧ PySem.W.kitOne K (tyD d) (.type n) = some b ∧ Q (.bl b) H
theorem call_isD {X : Cx} {d : Dv} {n : String} {b : Bool} : CallR X (.builtin "isinstance") (rIsD X.K d n b) := by
  intro pins s σ H xs us Q I r h
  obtain ⟨x, rfl, hx, hb, q⟩ := h
  cases r with
  | cons r1 rr => cases rr with
    | cons r2 rr =>
      cases rr
      cases (show _ = Value.type n from r2)
      have fin : ∀ tk, EP X pins σ Q (.bool b) { s with toks := tk } := fun tk => ⟨.bl b, H, I.tok tk, rfl, q⟩
      cases d with
      | fl v =>
        obtain ⟨rfl, f⟩ := hx
        cases x with
        | non => exact isinst_ok I r1 .non hb fin
        | bl y => exact isinst_ok I r1 (.bl y) hb fin
        | int y => exact isinst_ok I r1 (.int y) hb fin
        | str y => exact isinst_ok I r1 (.str y) hb fin
        | byt y => cases f
        | flt y => cases f
        | ref y => cases f
        | ty y => cases f
      | lst ds =>
        obtain ⟨a, xs, rfl, h1, _⟩ := hx
        cases r1
        obtain ⟨its, _, ⟨o, n, h2, h3, _⟩, _⟩ := I.list h1
        exact PySem.W.kia_one PySem.W.kitx_list I.kIn ⟨o, h2, h3⟩ hb (fun z => nomatch z) fin
      | tup ds =>
        obtain ⟨a, xs, rfl, h1, _⟩ := hx
        cases r1
        obtain ⟨its, _, ⟨o, h2, h3, _⟩, _⟩ := I.tuple h1
        exact PySem.W.kia_one PySem.W.kitx_tuple I.kIn ⟨o, h2, h3⟩ hb (fun z => nomatch z) fin
theorem ev_isi {x : Str} {n : String} {bo : Bool} (hm : F.mg "isinstance" = none) (hm2 : F.mg x = none) (hv : bootBuiltins x = some (.type n)) (ha : Ev F e ρ ta) (hk : PySem.W.kitOne F.K (tyD (er ta)) (.type n) = some bo) {p' p2 : Pos} (hg : ∀ i, Gl (F.cx i) "isinstance" := by intro _; rfl)
    (hg2 : ∀ i, Gl (F.cx i) x := by intro _; rfl) (hn : x ≠ "__name__" := by decide) (hd : (x == ("__debug__" : Str)) = false := by decide)
    (hs : ∀ i, starEach [e, .Name x p2] (F.cx i).env = [(false, eval e (F.cx i).env), (false, eval (.Name x p2) (F.cx i).env)] := by intro _; rfl) : Ev F (.Call (.Name "isinstance" p') [e, .Name x p2] [] pos) ρ (tb bo) := by
  obtain ⟨τ, y, z⟩ := ha.use
  refine ⟨tCB (rIsD F.K (er ta) n bo) (tCons τ (tCons (tC (.ty n)) tNil)), fun i => pe_callB (F.hK i ▸ call_isD) (hg i) ((F.hm i).symm ▸ hm) bt_isinstance (pa_cons (y i) (pa_cons (pe_bltn (v := .ty n) (hg2 i) ((F.hm i).symm ▸ hm2) hv rfl hn hd) pa_nil rfl) (hs i)) (by decide) (by decide) (hs i) rfl, fun σ G H Q s rr k => z σ G H _ s rr fun vs G1 H1 s1 hx => ?_⟩
  exact ⟨vs, rfl, hx.mono s1.s, hk, (k.step s1).sc s1.s rfl⟩
def spT (K : PySem.W.Frag) (R : List Dv → Tr → Prop) : Sp := fun vs H Q _ => ∃ G ds t, Same G H ∧ HvL K G ds vs ∧ R ds t ∧ Kv K G H t Q
theorem ev_call {k : Nat} {f : Addr} {fd : FuncData} {ps : List Str} {R : List Dv → Tr → Prop} {x : Str} (Fn : Kn F.P F.w F.K F.mg F.base CX0 k x f fd ps (spT F.K R)) (hk : k ≤ F.room) (ha : EvA F (e :: es) ρ ts) (hR : R (ers ts) t) {p' : Pos} (hg : ∀ i, Gl (F.cx i) x := by intro _; rfl) (hdb : (x == ("__debug__" : Str)) = false := by decide)
    (he : ∀ i, starEach (e :: es) (F.cx i).env = (false, eval e (F.cx i).env) :: starEach es (F.cx i).env := by intro _; rfl) (hpl : ∀ i, (backTo pos (starEach es (F.cx i).env)).any (·.1) = false := by intro _; rfl) : Ev F (.Call (.Name x p') (e :: es) [] pos) ρ t := by
  obtain ⟨τ, y, z⟩ := ha.use
  refine ⟨tCall (spT F.K R) [] E0 τ, fun i => ?_, fun σ G H Q s rr k => z σ G H _ s rr fun vs G1 H1 s1 hx => ?_⟩
  · have Fn' : Kn (F.cx i).prog (F.cx i).w (F.cx i).K (F.cx i).mg (F.cx i).base CX0 k x f fd ps (spT F.K R) := by
      rw [F.hP i, F.hw i, F.hK i, F.hm i, F.hb i]
      exact Fn
    exact pe_kn Fn' ((F.hr i).mono hk) (hg i) (y i) hdb (he i) (hpl i)
  · show spT F.K R (vs ++ []) H1 Q E0
    rw [List.append_nil]
    exact ⟨G1, _, t, s1.s, hx, hR, k.step s1⟩
end
end L2
namespace L2
open PySem PySem.Spec PyProof.Rows
def OwS (K : PySem.W.Frag) (G H : Hp) : En → St → List Addr → Prop
  | [], σ, fp => σ = [] ∧ fp = []
  | none :: ρ, σ, fp => ∃ o r, σ = o :: r ∧ OwS K G H ρ r fp
  | some t :: ρ, σ, fp => ∃ v r f1 f2, σ = some v :: r ∧ fp = f1 ++ f2 ∧ Ow K G H t v f1 ∧ OwS K G H ρ r f2
theorem OwS.mono {K : PySem.W.Frag} {G G' H H' : Hp} (e : Same G G') (e' : Same H H') : ∀ {ρ : En} {σ : St} {fp : List Addr}, OwS K G H ρ σ fp → OwS K G' H' ρ σ fp
  | [], _, _, h => h
  | none :: _, _, _, ⟨o, r, h1, h2⟩ => ⟨o, r, h1, OwS.mono e e' h2⟩
  | some _ :: _, _, _, ⟨v, r, f1, f2, h1, h2, h3, h4⟩ => ⟨v, r, f1, f2, h1, h2, h3.mono e e', OwS.mono e e' h4⟩
theorem OwS.frame {K : PySem.W.Frag} {G H : Hp} {a : Addr} {o : HO} : ∀ {ρ : En} {σ : St} {fp : List Addr}, OwS K G H ρ σ fp → a ∉ fp → OwS K G (upd H a o) ρ σ fp
  | [], _, _, h, _ => h
  | none :: _, _, _, ⟨o, r, h1, h2⟩, n => ⟨o, r, h1, OwS.frame h2 n⟩
  | some _ :: _, _, _, ⟨v, r, f1, f2, h1, h2, h3, h4⟩, n => by
    subst h2
    exact ⟨v, r, f1, f2, h1, rfl, h3.frame fun z => n (List.mem_append_left _ z), OwS.frame h4 fun z => n (List.mem_append_right _ z)⟩
theorem OwS.there {K : PySem.W.Frag} {G H : Hp} : ∀ {ρ : En} {σ : St} {fp : List Addr}, OwS K G H ρ σ fp → ∀ a ∈ fp, ∃ o, H a = some o
  | [], _, _, ⟨_, h⟩, a, ha => by subst h; cases ha
  | none :: _, _, _, ⟨o, r, h1, h2⟩, a, ha => OwS.there h2 a ha
  | some _ :: _, _, _, ⟨v, r, f1, f2, h1, h2, h3, h4⟩, a, ha => by
    subst h2
    rcases List.mem_append.mp ha with ha | ha
    · exact h3.there a ha
    · exact OwS.there h4 a ha
theorem OwS.off {K : PySem.W.Frag} {G H G1 H1 : Hp} {ρ : En} {σ : St} {fp : List Addr} (r : OwS K G H ρ σ fp) (s1 : Step G H G1 H1) (g : ∀ a ∈ fp, G a = none) : ∀ a ∈ fp, G1 a = none := fun a ha => by
  cases q : G1 a with
  | none => rfl
  | some u =>
    obtain ⟨u', hu'⟩ := r.there a ha
    have := s1.n a (g a ha) (by rw [q]; exact fun z => nomatch z)
    rw [hu'] at this
    cases this
theorem OwS.rpd {K : PySem.W.Frag} {G H : Hp} : ∀ {ρ : En} {σ : St} {fp : List Addr}, OwS K G H ρ σ fp → RpD K G ρ σ
  | [], _, _, _, j, d, h => by cases j <;> cases h
  | none :: _, _, _, ⟨o, r, h1, h2⟩, 0, d, h => by cases h
  | none :: _, _, _, ⟨o, r, h1, h2⟩, j + 1, d, h => by subst h1; exact OwS.rpd h2 j d h
  | some _ :: _, _, _, ⟨v, r, f1, f2, h1, h2, h3, h4⟩, 0, d, h => by cases h; subst h1; exact ⟨v, rfl, h3.2⟩
  | some _ :: _, _, _, ⟨v, r, f1, f2, h1, h2, h3, h4⟩, j + 1, d, h => by subst h1; exact OwS.rpd h4 j d h
def pk (ρ : En) : En := ρ.map (Option.map fun t => .fz (er t))
theorem OwS.pk {K : PySem.W.Frag} {G H G' : Hp} (e : Same G G') : ∀ {ρ : En} {σ : St} {fp : List Addr}, OwS K G H ρ σ fp → (∀ a ∈ fp, G' a = H a) → RpD K G' (pk ρ) σ
  | [], _, _, _, _, j, d, h => by cases j <;> cases h
  | none :: _, _, _, ⟨o, r, h1, h2⟩, _, 0, d, h => by cases h
  | none :: _, _, _, ⟨o, r, h1, h2⟩, q, j + 1, d, h => by subst h1; exact OwS.pk e h2 q j d h
  | some _ :: _, _, _, ⟨v, r, f1, f2, h1, h2, h3, h4⟩, q, 0, d, h => by
    cases h; subst h1 h2; exact ⟨v, rfl, h3.hv e fun a ha => q a (List.mem_append_left _ ha)⟩
  | some _ :: _, _, _, ⟨v, r, f1, f2, h1, h2, h3, h4⟩, q, j + 1, d, h => by
    subst h1 h2; exact OwS.pk e h4 (fun a ha => q a (List.mem_append_right _ ha)) j d h
theorem OwS.split {K : PySem.W.Frag} {G H : Hp} : ∀ {ρ : En} {σ : St} {fp : List Addr} {j : Nat} {t : Tr}, OwS K G H ρ σ fp → ρ[j]? = some (some t) →
    ∃ v f fr, σ[j]? = some (some v) ∧ Ow K G H t v f ∧ OwS K G H (ρ.set j none) σ fr ∧ fp.Perm (f ++ fr)
  | none :: _, _, _, 0, _, _, h => by cases h
  | none :: _, _, _, j + 1, t, ⟨o, r, h1, h2⟩, h => by
    subst h1
    obtain ⟨v, f, fr, q1, q2, q3, q4⟩ := OwS.split (j := j) h2 h
    exact ⟨v, f, fr, q1, q2, ⟨o, r, rfl, q3⟩, q4⟩
  | some _ :: _, _, _, 0, t, ⟨v, r, f1, f2, h1, h2, h3, h4⟩, h => by
    cases h; subst h1 h2
    exact ⟨v, f1, f2, rfl, h3, ⟨some v, r, rfl, h4⟩, .refl _⟩
  | some _ :: _, _, _, j + 1, t, ⟨v, r, f1, f2, h1, h2, h3, h4⟩, h => by
    subst h1 h2
    obtain ⟨v', f, fr, q1, q2, q3, q4⟩ := OwS.split (j := j) h4 h
    refine ⟨v', f, f1 ++ fr, q1, q2, ⟨v, r, f1, fr, rfl, rfl, h3, q3⟩, ?_⟩
    refine (List.Perm.append_left f1 q4).trans ?_
    rw [← List.append_assoc, ← List.append_assoc]
    exact List.Perm.append_right fr List.perm_append_comm
theorem OwS.forget {K : PySem.W.Frag} {G H : Hp} : ∀ {ρ : En} {σ : St} {fp : List Addr} (j : Nat), OwS K G H ρ σ fp → ∃ fr, OwS K G H (ρ.set j none) σ fr ∧ fr.Sublist fp
  | [], _, _, _, h => ⟨_, h, .refl _⟩
  | none :: _, _, _, 0, ⟨o, r, h1, h2⟩ => ⟨_, ⟨o, r, h1, h2⟩, .refl _⟩
  | none :: _, _, _, j + 1, ⟨o, r, h1, h2⟩ => by
    obtain ⟨fr, q1, q2⟩ := OwS.forget j h2
    exact ⟨fr, ⟨o, r, h1, q1⟩, q2⟩
  | some _ :: _, _, _, 0, ⟨v, r, f1, f2, h1, h2, h3, h4⟩ => ⟨f2, ⟨some v, r, h1, h4⟩, h2 ▸ List.sublist_append_right _ _⟩
  | some _ :: _, _, _, j + 1, ⟨v, r, f1, f2, h1, h2, h3, h4⟩ => by
    obtain ⟨fr, q1, q2⟩ := OwS.forget j h4
    exact ⟨f1 ++ fr, ⟨v, r, f1, fr, h1, rfl, h3, q1⟩, h2 ▸ List.Sublist.append (.refl _) q2⟩
theorem OwS.put {K : PySem.W.Frag} {G H : Hp} : ∀ {ρ : En} {σ : St} {fr : List Addr} {j : Nat} {t : Tr} {v : V} {f : List Addr}, OwS K G H ρ σ fr → ρ[j]? = some none → Ow K G H t v f →
    ∃ fp, OwS K G H (ρ.set j (some t)) (σ.set j (some v)) fp ∧ fp.Perm (f ++ fr)
  | none :: _, _, fr, 0, t, v, f, ⟨o, r, h1, h2⟩, _, w => by subst h1; exact ⟨_, ⟨v, r, f, fr, rfl, rfl, w, h2⟩, .refl _⟩
  | none :: _, _, _, j + 1, t, v, f, ⟨o, r, h1, h2⟩, h, w => by
    subst h1
    obtain ⟨fp, q1, q2⟩ := OwS.put (j := j) h2 h w
    exact ⟨fp, ⟨o, _, rfl, q1⟩, q2⟩
  | some _ :: _, _, _, 0, _, _, _, _, h, _ => by cases h
  | some _ :: _, _, _, j + 1, t, v, f, ⟨v', r, f1, f2, h1, h2, h3, h4⟩, h, w => by
    subst h1 h2
    obtain ⟨fp, q1, q2⟩ := OwS.put (j := j) h4 h w
    refine ⟨f1 ++ fp, ⟨v', _, f1, fp, rfl, rfl, h3, q1⟩, ?_⟩
    refine (List.Perm.append_left f1 q2).trans ?_
    rw [← List.append_assoc, ← List.append_assoc]
    exact List.Perm.append_right f2 List.perm_append_comm
structure RSf (K : PySem.W.Frag) (G0 H0 G H : Hp) (ρ : En) (σ : St) (fp : List Addr) : Prop where
  st : Step G0 H0 G H
  own : OwS K G H ρ σ fp
  g : ∀ a ∈ fp, G a = none
  n : ∀ a ∈ fp, H0 a = none
  d : fp.Nodup
def RS (K : PySem.W.Frag) (G0 H0 G H : Hp) (ρ : En) (σ : St) : Prop := ∃ fp, RSf K G0 H0 G H ρ σ fp
theorem get_set_none {α : Type} {ρ : List (Option α)} {j : Nat} (h : j < ρ.length) : (ρ.set j none)[j]? = some none := by rw [List.getElem?_set]; simp [h]
theorem RSf.forget {K : PySem.W.Frag} {G0 H0 G H : Hp} {ρ : En} {σ : St} {fp : List Addr} (r : RSf K G0 H0 G H ρ σ fp) (j : Nat) : ∃ fr, RSf K G0 H0 G H (ρ.set j none) σ fr ∧ fr.Sublist fp := by
  obtain ⟨fr, q1, q2⟩ := r.own.forget j
  exact ⟨fr, ⟨r.st, q1, fun a ha => r.g a (q2.subset ha), fun a ha => r.n a (q2.subset ha), r.d.sublist q2⟩, q2⟩
theorem RS.forget {K : PySem.W.Frag} {G0 H0 G H : Hp} {ρ : En} {σ : St} (r : RS K G0 H0 G H ρ σ) (j : Nat) : RS K G0 H0 G H (ρ.set j none) σ := by
  obtain ⟨fp, r⟩ := r
  obtain ⟨fr, q, _⟩ := r.forget j
  exact ⟨fr, q⟩
theorem RSf.set {K : PySem.W.Frag} {G0 H0 G H G1 H1 : Hp} {ρ : En} {σ : St} {fp fq : List Addr} {j : Nat} {t : Tr} {v : V} (r : RSf K G0 H0 G H ρ σ fp) (hj : j < ρ.length) (e : Step G H G1 H1) (o : Ow K G1 H1 t v fq) (w : Nw H G1 fq) :
    RS K G0 H0 G1 H1 (ρ.set j (some t)) (σ.set j (some v)) := by
  obtain ⟨fr, r1, sub⟩ := r.forget j
  have own1 := r1.own.mono e.g e.h
  obtain ⟨fp', q1, q2⟩ := own1.put (get_set_none hj) o
  rw [List.set_set] at q1
  have dis : ∀ a ∈ fq, ∀ b ∈ fr, a ≠ b := fun a ha b hb z => by
    subst z
    obtain ⟨u, hu⟩ := r1.own.there a hb
    rw [w.n a ha] at hu; cases hu
  refine ⟨fp', r.st.trans e, q1, fun a ha => ?_, fun a ha => ?_, q2.nodup_iff.mpr (List.nodup_append.mpr ⟨w.d, r1.d, dis⟩)⟩
  · rcases List.mem_append.mp (q2.mem_iff.mp ha) with z | z
    · exact w.g a z
    · cases q : G1 a with
      | none => rfl
      | some u =>
        obtain ⟨u', hu'⟩ := r1.own.there a z
        have := e.n a (r1.g a z) (by rw [q]; exact fun z => nomatch z)
        rw [hu'] at this; cases this
  · rcases List.mem_append.mp (q2.mem_iff.mp ha) with z | z
    · exact r.st.h.free (w.n a z)
    · exact r1.n a z
def less (H : Hp) (fp : List Addr) : Hp := fun a => if a ∈ fp then none else H a
theorem less_in {H : Hp} {fp : List Addr} {a : Addr} (h : a ∈ fp) : less H fp a = none := by unfold less; rw [if_pos h]
theorem less_out {H : Hp} {fp : List Addr} {a : Addr} (h : a ∉ fp) : less H fp a = H a := by unfold less; rw [if_neg h]
theorem less_sub {H : Hp} {fp : List Addr} : Same (less H fp) H := fun b o e => by
  by_cases q : b ∈ fp
  · rw [less_in q] at e; cases e
  · rw [less_out q] at e; exact e
theorem same_less {G H : Hp} {fp : List Addr} (s : Same G H) (h : ∀ a ∈ fp, G a = none) : Same G (less H fp) := fun b o e => by
  by_cases q : b ∈ fp
  · rw [h b q] at e; cases e
  · rw [less_out q]; exact s b o e
theorem RSf.rebase {K : PySem.W.Frag} {G0 H0 G H : Hp} {ρ : En} {σ : St} {fp : List Addr} (r : RSf K G0 H0 G H ρ σ fp) : RSf K G (less H fp) G H ρ σ fp :=
  ⟨⟨Same.refl _, less_sub, r.st.s, fun a h h' => absurd h h'⟩, r.own, r.g, fun a ha => less_in ha, r.d⟩
theorem RSf.base {K : PySem.W.Frag} {G0 H0 G H : Hp} {ρ : En} {σ : St} {fp : List Addr} (r : RSf K G0 H0 G H ρ σ fp) : Step G0 H0 G (less H fp) :=
  ⟨r.st.g, same_less r.st.h r.n, same_less r.st.s r.g, r.st.n⟩
theorem RS.under {K : PySem.W.Frag} {G0 H0 G1 H1 G H : Hp} {ρ : En} {σ : St} (e : Step G0 H0 G1 H1) (r : RS K G1 H1 G H ρ σ) : RS K G0 H0 G H ρ σ := by
  obtain ⟨fp, r⟩ := r
  exact ⟨fp, e.trans r.st, r.own, r.g, fun a ha => e.h.free (r.n a ha), r.d⟩
inductive Out where
  | nx (ρ : En)
  | rt (t : Tr)
def Post (K : PySem.W.Frag) (G0 H0 : Hp) (D : Ends) : Out → Prop
  | .nx ρ => ∀ σ G H, RS K G0 H0 G H ρ σ → D.nx σ H
  | .rt t => ∀ v G H fq, Step G0 H0 G H → Ow K G H t v fq → Nw H0 G fq → D.rt v H
theorem Post.under {K : PySem.W.Frag} {G0 H0 G1 H1 : Hp} {D : Ends} {o : Out} (e : Step G0 H0 G1 H1) (p : Post K G0 H0 D o) : Post K G1 H1 D o := by
  cases o with
  | nx ρ => exact fun σ G H r => p σ G H (r.under e)
  | rt t => exact fun v G H fq s o w => p v G H fq (e.trans s) o ⟨fun a ha => e.h.free (w.n a ha), w.g, w.d⟩
def Sm1 (K : PySem.W.Frag) (τ : TS) (ρ : En) (o : Out) : Prop := ∀ D σ G0 H0 G H, RS K G0 H0 G H ρ σ → Post K G0 H0 D o → τ D σ H
section
variable {ι : Type}
def Rn (F : Fam ι) (st : Stmt) (ρ : En) (o : Out) : Prop := ∃ τ : TS, (∀ i, PS (F.cx i) st τ) ∧ Sm1 F.K τ ρ o
def Rns (F : Fam ι) (sts : List Stmt) (ρ : En) (o : Out) : Prop := ∃ τ : TS, (∀ i, PSs (F.cx i) sts τ) ∧ Sm1 F.K τ ρ o
def EvS (F : Fam ι) (e : Expr) (ρ : En) (t : Tr) : Prop := ∃ τ : TE, (∀ i, PE (F.cx i) e τ) ∧ ∀ σ G H fp Q, Same G H → OwS F.K G H ρ σ fp → (∀ a ∈ fp, G a = none) → Kv F.K G H t Q → τ σ H Q
def EtS (F : Fam ι) (e : Expr) (ρ : En) (b : Bool) : Prop := ∃ τ : TT, (∀ i, PT (F.cx i) e τ) ∧ ∀ σ G H fp Q, Same G H → OwS F.K G H ρ σ fp → (∀ a ∈ fp, G a = none) → (∀ G' H', Step G H G' H' → Q b H') → τ σ H Q
variable {F : Fam ι} {e a b c : Expr} {es : List Expr} {ρ ρ1 : En} {t : Tr} {ts : List Tr} {pos : Pos} {o : Out} {st : Stmt} {sts A B : List Stmt}
theorem Ev.s (h : Ev F e ρ t) : EvS F e ρ t := let ⟨τ, x, y⟩ := h; ⟨τ, x, fun σ G H fp Q s r _ k => y σ G H Q s r.rpd k⟩
theorem Et.s {p : Bool} (h : Et F e ρ p) : EtS F e ρ p := let ⟨τ, x, y⟩ := h; ⟨τ, x, fun σ G H fp Q s r _ k => y σ G H Q s r.rpd k⟩
mutual
def Cl : Tr → Prop
  | .fz (.fl _) => True
  | .fz _ => False
  | .ow ts => Cls' ts
  | .tp ts => Cls' ts
def Cls' : List Tr → Prop
  | [] => True
  | t :: ts => Cl t ∧ Cls' ts
end
mutual
theorem Ow.cl {K : PySem.W.Frag} {G G' H : Hp} : ∀ {t : Tr} {v : V} {fp : List Addr}, Cl t → Ow K G H t v fp → Ow K G' H t v fp
  | .fz (.fl _), _, _, _, h => h
  | .fz (.lst _), _, _, c, _ => c.elim
  | .fz (.tup _), _, _, c, _ => c.elim
  | .ow _, _, _, c, ⟨b, vs, fq, h1, h2, h3, h4⟩ => ⟨b, vs, fq, h1, h2, OwL.cl c h3, h4⟩
  | .tp _, _, _, c, ⟨b, vs, fq, h1, h2, h3, h4⟩ => ⟨b, vs, fq, h1, h2, OwL.cl c h3, h4⟩
theorem OwL.cl {K : PySem.W.Frag} {G G' H : Hp} : ∀ {ts : List Tr} {vs : List V} {fp : List Addr}, Cls' ts → OwL K G H ts vs fp → OwL K G' H ts vs fp
  | [], _, _, _, h => h
  | _ :: _, _, _, ⟨c1, c2⟩, ⟨v, r, f1, f2, h1, h2, h3, h4⟩ => ⟨v, r, f1, f2, h1, h2, h3.cl c1, OwL.cl c2 h4⟩
end
theorem cl_ints : ∀ ns : List Int, Cls' (ns.map fun n => Tr.fz (di n))
  | [] => True.intro
  | _ :: ns => ⟨True.intro, cl_ints ns⟩
theorem Ev.pk (h : Ev F e (pk ρ) t) (c : Cl t) : EvS F e ρ t := by
  obtain ⟨τ, x, y⟩ := h
  refine ⟨τ, x, fun σ G H fp Q s r hg k => ?_⟩
  refine y σ (frzd G H fp) H Q (frzd_sub s) (r.pk (frzd_same hg) fun a ha => frzd_in ha) fun v G' H' fq st o w => ?_
  refine k v G H' fq ⟨Same.refl _, st.h, s.trans st.h, fun a h h' => absurd h h'⟩ (o.cl c) ⟨w.n, fun a ha => s.free (w.n a ha), w.d⟩
theorem Et.pk {p : Bool} (h : Et F e (pk ρ) p) : EtS F e ρ p := by
  obtain ⟨τ, x, y⟩ := h
  refine ⟨τ, x, fun σ G H fp Q s r hg k => ?_⟩
  refine y σ (frzd G H fp) H Q (frzd_sub s) (r.pk (frzd_same hg) fun a ha => frzd_in ha) fun G' H' st => ?_
  exact k G H' ⟨Same.refl _, st.h, s.trans st.h, fun a h h' => absurd h h'⟩
theorem rns_nil : Rns F [] ρ (.nx ρ) := ⟨tNext, fun _ => pss_nil, fun D σ G0 H0 G H r k => k σ G H r⟩
theorem rns_cons (h1 : Rn F st ρ (.nx ρ1)) (h2 : Rns F sts ρ1 o) : Rns F (st :: sts) ρ o := by
  obtain ⟨τ, x, y⟩ := h1
  obtain ⟨τ', x', y'⟩ := h2
  exact ⟨tSeq τ τ', fun i => pss_cons (x i) (x' i), fun D σ G0 H0 G H r k => y _ σ G0 H0 G H r fun σ1 G1 H1 r1 => y' D σ1 G0 H0 G1 H1 r1 k⟩
theorem rns_ret (h1 : Rn F st ρ (.rt t)) : Rns F (st :: sts) ρ (.rt t) := by
  obtain ⟨τ, x, y⟩ := h1
  exact ⟨tSeq τ tNever, fun i => pss_cons (x i) pss_never, fun D σ G0 H0 G H r k => y _ σ G0 H0 G H r k⟩
theorem rns_one (h1 : Rn F st ρ o) : Rns F [st] ρ o := by
  obtain ⟨τ, x, y⟩ := h1
  exact ⟨τ, fun i => pss_one (x i), y⟩
theorem rn_set (j : Nat) {x : Str} {pos' : Pos} (he : EvS F e ρ t) (hN : ∀ i, (F.cx i).N.Nodup) (hj : Nat.blt j ρ.length = true := by rfl) (hi : ∀ i, (F.cx i).N[j]? = some x := by intro _; rfl) (hx : ∀ i, Loc (F.cx i).env.scope x := by intro _; first | exact Or.inl rfl | exact Or.inr rfl)
    (hs : ∀ i, swapsWith e (some (.Name x pos')) pos.line (F.cx i).env = pure false := by intro _; rfl) (hf : ∀ i, (F.cx i).fn x = true ∨ (F.cx i).env.scope.names.lookup x = some .local := by intro _; first | exact .inl rfl | exact .inr rfl) :
    Rn F (.Assign [.Name x pos'] e pos) ρ (.nx (ρ.set j (some t))) := by
  obtain ⟨τ, y, z⟩ := he
  refine ⟨tAsg τ (gName j), fun i => ps_set (hN i) (hi i) (hx i) (y i) (hs i) (hf i), fun D σ G0 H0 G H r k => ?_⟩
  obtain ⟨fp, r⟩ := r
  exact z σ G H fp _ r.st.s r.own r.g fun v G1 H1 fq s1 o w => k _ G1 H1 (r.set (Nat.le_of_ble_eq_true hj) s1 o w)
theorem rn_ret (he : EvS F e ρ t) : Rn F (.Return (some e) pos) ρ (.rt t) := by
  obtain ⟨τ, y, z⟩ := he
  refine ⟨tRet τ, fun i => ps_ret (y i), fun D σ G0 H0 G H r k => ?_⟩
  obtain ⟨fp, r⟩ := r
  exact z σ G H fp _ r.st.s r.own r.g fun v G1 H1 fq s1 o w => k v G1 H1 fq (r.st.trans s1) o ⟨fun a ha => r.st.h.free (w.n a ha), w.g, w.d⟩
theorem rn_retO (j : Nat) {x : Str} {p' : Pos} (h : ρ[j]? = some (some t)) (hN : ∀ i, (F.cx i).N[j]? = some x := by intro _; rfl)
    (hv : ∀ i, Vis (F.cx i).env.scope x := by intro _; first | exact Or.inl rfl | exact Or.inr (Or.inl rfl) | exact Or.inr (Or.inr rfl)) (hd : (x == ("__debug__" : Str)) = false := by decide) (hc : (x == ("__classdict__" : Str)) = false := by decide) : Rn F (.Return (some (.Name x p')) pos) ρ (.rt t) := by
  refine ⟨tRet (tVar j), fun i => ps_ret (pe_var (hN i) (hv i) hd hc), fun D σ G0 H0 G H r k => ?_⟩
  obtain ⟨fp, r⟩ := r
  obtain ⟨v, f, fr, q1, q2, q3, q4⟩ := r.own.split h
  have sub : ∀ a ∈ f, a ∈ fp := fun a ha => q4.mem_iff.mpr (List.mem_append_left _ ha)
  exact ⟨v, q1, k v G H f r.st q2 ⟨fun a ha => r.n a (sub a ha), fun a ha => r.g a (sub a ha), (List.nodup_append.mp (q4.nodup_iff.mp r.d)).1⟩⟩
theorem rn_expr (he : EvS F e ρ t) (hs : ∀ i, swapsWith e none pos.line (F.cx i).env = pure false := by intro _; rfl) : Rn F (.Expr e pos) ρ (.nx ρ) := by
  obtain ⟨τ, y, z⟩ := he
  refine ⟨tDrop τ, fun i => ps_expr (y i) (hs i), fun D σ G0 H0 G H r k => ?_⟩
  obtain ⟨fp, r⟩ := r
  refine z σ G H fp _ r.st.s r.own r.g fun v G1 H1 fq s1 o w => k σ G1 H1 ⟨fp, r.st.trans s1, r.own.mono s1.g s1.h, r.own.off s1 r.g, r.n, r.d⟩
theorem rn_if {p : Bool} (hc : EtS F c ρ p) (h1 : p = true → Rns F A ρ o) (h2 : p = false → Rns F B ρ o) : Rn F (.If c A B pos) ρ o := by
  obtain ⟨τ, y, z⟩ := hc
  have key : ∀ {G0 H0 G H G1 H1 : Hp} {σ : St} {fp : List Addr}, RSf F.K G0 H0 G H ρ σ fp → Step G H G1 H1 → RS F.K G0 H0 G1 H1 ρ σ := fun {G0 H0 G H G1 H1 σ fp} r s1 => ⟨fp, r.st.trans s1, r.own.mono s1.g s1.h, r.own.off s1 r.g, r.n, r.d⟩
  cases p with
  | true =>
    obtain ⟨τ', x', y'⟩ := h1 rfl
    refine ⟨tIfS τ τ' tNever, fun i => ps_if (y i) (x' i) pss_never, fun D σ G0 H0 G H r k => ?_⟩
    obtain ⟨fp, r⟩ := r
    exact z σ G H fp _ r.st.s r.own r.g fun G1 H1 s1 => iteT (y' D σ G0 H0 G1 H1 (key r s1) k)
  | false =>
    obtain ⟨τ', x', y'⟩ := h2 rfl
    refine ⟨tIfS τ tNever τ', fun i => ps_if (y i) pss_never (x' i), fun D σ G0 H0 G H r k => ?_⟩
    obtain ⟨fp, r⟩ := r
    exact z σ G H fp _ r.st.s r.own r.g fun G1 H1 s1 => iteF (y' D σ G0 H0 G1 H1 (key r s1) k)
theorem set_self {α : Type} : ∀ {l : List α} {j : Nat} {v : α}, l[j]? = some v → l.set j v = l
  | _ :: _, 0, _, h => by cases h; rfl
  | _ :: _, j + 1, _, h => by rw [List.set_cons_succ, set_self (l := _) (j := j) h]
theorem RSf.chg {K : PySem.W.Frag} {G0 H0 G H G1 H1 : Hp} {ρ : En} {σ : St} {fp : List Addr} {j : Nat} {t : Tr} (r : RSf K G0 H0 G H ρ σ fp) (hj : ρ[j]? = some (some t)) (s1 : Step G H G1 H1) :
    ∃ v f, σ[j]? = some (some v) ∧ Ow K G H t v f ∧ Ow K G1 H1 t v f ∧ f.Nodup ∧ (∀ a ∈ f, a ∈ fp) ∧ ∀ l o t' f', l ∈ f → Ow K G1 (upd H1 l o) t' v f' → f'.Nodup → (∀ a ∈ f', a ∈ f ∨ (H a = none ∧ G1 a = none)) → RS K G0 H0 G1 (upd H1 l o) (ρ.set j (some t')) σ := by
  obtain ⟨v, f, fr, q1, q2, q3, q4⟩ := r.own.split hj
  have nda := List.nodup_append.mp (q4.nodup_iff.mp r.d)
  have qfp : ∀ a ∈ f, a ∈ fp := fun a ha => q4.mem_iff.mpr (List.mem_append_left _ ha)
  have rfp : ∀ a ∈ fr, a ∈ fp := fun a ha => q4.mem_iff.mpr (List.mem_append_right _ ha)
  have lt : j < ρ.length := by
    rcases Nat.lt_or_ge j ρ.length with z | z
    · exact z
    · rw [List.getElem?_eq_none z] at hj; cases hj
  have lG : ∀ a ∈ fp, G1 a = none := fun a ha => by
    cases q : G1 a with
    | none => rfl
    | some u =>
      obtain ⟨u', hu'⟩ := r.own.there a ha
      have := s1.n a (r.g a ha) (by rw [q]; exact fun z => nomatch z)
      rw [hu'] at this; cases this
  refine ⟨v, f, q1, q2, q2.mono s1.g s1.h, nda.1, qfp, fun l o t' f' hl ow nw hw => ?_⟩
  have new : ∀ a, H a = none → a ∉ fp := fun a ha hb => by
    obtain ⟨u, hu⟩ := r.own.there a hb
    rw [ha] at hu; cases hu
  have q3' : OwS K G1 (upd H1 l o) (ρ.set j none) σ fr := (q3.mono s1.g s1.h).frame fun z => nda.2.2 l hl l z rfl
  obtain ⟨fp', p1', p2'⟩ := q3'.put (get_set_none lt) ow
  rw [List.set_set, set_self q1] at p1'
  have memf : ∀ a ∈ fp', a ∈ fp ∨ (H a = none ∧ G1 a = none) := fun a ha => by
    rcases List.mem_append.mp (p2'.mem_iff.mp ha) with z | z
    · exact (hw a z).imp (qfp a) id
    · exact .inl (rfp a z)
  refine ⟨fp', ⟨(r.st.trans s1).g, fun b u hb => ?_, fun b u hb => ?_, (r.st.trans s1).n⟩, p1', fun a ha => ?_, fun a ha => ?_, ?_⟩
  · have hb1 := (r.st.trans s1).h b u hb
    rw [upd_ne fun z => ?_]
    · exact hb1
    · subst z; rw [r.n _ (qfp _ hl)] at hb; cases hb
  · have hb1 := s1.s b u hb
    rw [upd_ne fun z => ?_]
    · exact hb1
    · subst z; rw [lG _ (qfp _ hl)] at hb; cases hb
  · exact (memf a ha).elim (lG a) fun z => z.2
  · exact (memf a ha).elim (r.n a) fun z => r.st.h.free z.1
  · refine p2'.nodup_iff.mpr (List.nodup_append.mpr ⟨nw, nda.2.1, fun a ha b hb z => ?_⟩)
    subst z
    rcases hw a ha with z | z
    · exact nda.2.2 a z a hb rfl
    · exact new a z.1 (rfp a hb)
theorem RSf.mut {K : PySem.W.Frag} {G0 H0 G H G1 H1 : Hp} {ρ : En} {σ : St} {fp : List Addr} {j : Nat} {us : List Tr} (r : RSf K G0 H0 G H ρ σ fp) (hj : ρ[j]? = some (some (.ow us))) (s1 : Step G H G1 H1) :
    ∃ l vs fq, σ[j]? = some (some (.ref l)) ∧ H l = some (.lst vs) ∧ H1 l = some (.lst vs) ∧ OwL K G1 H1 us vs fq ∧ fq.Nodup ∧ (∀ a ∈ fq, a ∈ fp) ∧ ∀ us' ws fw, OwL K G1 H1 us' ws fw → fw.Nodup → (∀ a ∈ fw, a ∈ fq ∨ (H a = none ∧ G1 a = none)) → RS K G0 H0 G1 (upd H1 l (.lst ws)) (ρ.set j (some (.ow us'))) σ := by
  obtain ⟨v, f, q1, q2, q3, nd, qfp, q⟩ := r.chg hj s1
  obtain ⟨l, vs, fq, rfl, hl, ol, rfl⟩ := q3
  obtain ⟨l', vs', fq', e1, hl', _, e2⟩ := q2
  cases e1
  have ev : vs' = vs := by
    have := s1.h _ _ hl'
    rw [hl] at this
    cases this; rfl
  subst ev
  have ndl := List.nodup_cons.mp nd
  refine ⟨l, vs', fq, q1, hl', hl, ol, ndl.2, fun a ha => qfp a (.tail _ ha), fun us' ws fw ow nw hw => ?_⟩
  have lfw : l ∉ fw := fun z => (hw l z).elim ndl.1 fun z => by rw [z.1] at hl'; cases hl'
  exact q l (.lst ws) (.ow us') (l :: fw) (.head _) ⟨l, ws, fw, rfl, upd_same, ow.frame lfw, rfl⟩ (List.nodup_cons.mpr ⟨lfw, nw⟩) fun a ha => (List.mem_cons.mp ha).elim (fun z => .inl (z ▸ .head _)) fun z => (hw a z).imp (fun z => .tail _ z) id
theorem rn_append (j : Nat) {x : Str} {us : List Tr} {p1 p2 p3 : Pos} (h : ρ[j]? = some (some (.ow us))) (he : EvS F e ρ t) (hz : us.length < sizeLine) (hN : ∀ i, (F.cx i).N[j]? = some x := by intro _; rfl)
    (hv : ∀ i, Vis (F.cx i).env.scope x := by intro _; first | exact Or.inl rfl | exact Or.inr (Or.inl rfl) | exact Or.inr (Or.inr rfl)) (hd : (x == ("__debug__" : Str)) = false := by decide) (hc : (x == ("__classdict__" : Str)) = false := by decide)
    (hbase : ∀ i, attributeBase (.Name x p1) "append" (F.cx i).env (eval (.Name x p1) (F.cx i).env) = eval (.Name x p1) (F.cx i).env := by intro _; rfl)
    (hfew : ∀ i, ((backTo p3 (starEach [e] (F.cx i).env)).all (fun x => !x.1) && (backToKw p3 (keywordEach [] (F.cx i).env)).all (fun x => x.1.isSome) && decide (([e] : List Expr).length + ([] : List Keyword).length + (if ([] : List Keyword).isEmpty then 0 else 1) < 30)) = true := by intro _; rfl)
    (hline : (p2.endLine == p3.line) = true := by rfl) (hs : ∀ i, starEach [e] (F.cx i).env = [(false, eval e (F.cx i).env)] := by intro _; rfl) (hsw : ∀ i, swapsWith (.Call (.Attribute (.Name x p1) "append" p2) [e] [] p3) none pos.line (F.cx i).env = pure false := by intro _; rfl) :
    Rn F (.Expr (.Call (.Attribute (.Name x p1) "append" p2) [e] [] p3) pos) ρ (.nx (ρ.set j (some (.ow (us ++ [t]))))) := by
  obtain ⟨τ, y, z⟩ := he
  refine ⟨tDrop (tBM F.K "list" rAppend (tVar j) (tCons τ tNil)), fun i => ps_expr (F.hK i ▸ pe_bm PySem.F.plainAttrs_list PySem.F.slot_list_append PySem.F.type_list_append mt_append (pe_var (hN i) (hv i) hd hc) (pa_cons (y i) pa_nil (hs i)) (hbase i) (hfew i) hline (hs i) rfl) (hsw i), fun D σ G0 H0 G H r k => ?_⟩
  obtain ⟨fp, r⟩ := r
  obtain ⟨l0, vs0, fq0, c1, c2, _⟩ := r.mut h (.refl r.st.s)
  refine ⟨_, c1, .inl ⟨rfl, _, SqL.of c2⟩, ?_⟩
  refine z σ G H fp _ r.st.s r.own r.g fun v1 G1 H1 f1 s1 o1 w1 => ?_
  obtain ⟨l, vs, fq, d1, d2, d3, d4, d5, d6, d7⟩ := r.mut h s1
  rw [c1] at d1
  cases d1
  refine ⟨l0, vs, v1, rfl, rfl, d3, by rw [← d4.length]; exact hz, k σ G1 _ (d7 (us ++ [t]) (vs ++ [v1]) (fq ++ (f1 ++ [])) (d4.append ⟨v1, [], f1, [], rfl, rfl, o1, rfl, rfl⟩) ?_ fun a ha => ?_)⟩
  · rw [List.append_nil]
    refine List.nodup_append.mpr ⟨d5, w1.d, fun a ha b hb e => ?_⟩
    subst e
    obtain ⟨u, hu⟩ := r.own.there a (d6 a ha)
    rw [w1.n a hb] at hu; cases hu
  · rw [List.append_nil] at ha
    exact (List.mem_append.mp ha).imp id fun z => ⟨w1.n a z, w1.g a z⟩
end
end L2
namespace L2
open PySem PySem.Spec PyProof.Rows
def ItD (K : PySem.W.Frag) (G : Hp) (J : It) (its : List Dv) : Prop := ∀ k G1 H1, Same G G1 → Same G1 H1 →
  (∀ d, its[k]? = some d → J.go k H1 ∧ ∀ x H3, J.yld k H1 x H3 → ∃ G3, Step G1 H1 G3 H3 ∧ Hv K G3 d x) ∧ (k = its.length → J.stop k H1)
def setAll {α : Type} : List Nat → List α → List (Option α) → List (Option α)
  | j :: js, v :: vs, σ => setAll js vs (σ.set j (some v))
  | _, _, σ => σ
def dropAll {α : Type} : List Nat → List (Option α) → List (Option α)
  | [], ρ => ρ
  | j :: js, ρ => dropAll js (ρ.set j none)
theorem RS.dropAll {K : PySem.W.Frag} {G0 H0 G H : Hp} : ∀ {ρ : En} {σ : St} (js : List Nat), RS K G0 H0 G H ρ σ → RS K G0 H0 G H (L2.dropAll js ρ) σ
  | _, _, [], r => r
  | _, _, j :: js, r => RS.dropAll js (r.forget j)
def Fg (ρ ρ' : En) : Prop := ∃ fs, L2.dropAll fs ρ = ρ'
theorem Fg.rs {K : PySem.W.Frag} {G0 H0 G H : Hp} {ρ ρ' : En} {σ : St} (f : Fg ρ ρ') (r : RS K G0 H0 G H ρ σ) : RS K G0 H0 G H ρ' σ := by
  obtain ⟨fs, rfl⟩ := f
  exact r.dropAll fs
theorem RS.setAll {K : PySem.W.Frag} {G0 H0 G H : Hp} : ∀ {js : List Nat} {ds : List Dv} {vs : List V} {ρ : En} {σ : St}, (∀ j ∈ js, j < ρ.length) → HvL K G ds vs → RS K G0 H0 G H ρ σ → RS K G0 H0 G H (L2.setAll js (ds.map .fz) ρ) (L2.setAll js vs σ)
  | [], _, _, _, _, _, _, r => r
  | _ :: _, [], _, _, _, _, h, r => by rw [show _ = [] from h]; exact r
  | j :: js, d :: ds, _, ρ, σ, hj, ⟨x, q, h1, h2, h3⟩, ⟨fp, r⟩ => by
    subst h1
    have r' : RS K G0 H0 G H (ρ.set j (some (.fz d))) (σ.set j (some x)) := r.set (t := .fz d) (v := x) (fq := []) (hj j (.head _)) (.refl r.st.s) ⟨rfl, h2⟩ .nil
    exact RS.setAll (js := js) (ds := ds) (fun i hi => by rw [List.length_set]; exact hj i (.tail _ hi)) h3 r'
theorem RpD.set {K : PySem.W.Frag} {G : Hp} {ρ : En} {σ : St} {j : Nat} {d : Dv} {v : V} (r : RpD K G ρ σ) (hj : j < σ.length) (h : Hv K G d v) : RpD K G (ρ.set j (some (.fz d))) (σ.set j (some v)) := fun i e hi => by
  by_cases q : i = j
  · subst q
    rw [List.getElem?_set_self (by
      rcases Nat.lt_or_ge i ρ.length with z | z
      · exact z
      · rw [List.getElem?_eq_none (by rw [List.length_set]; exact z)] at hi; cases hi)] at hi
    cases hi
    exact ⟨v, by rw [List.getElem?_set_self hj], h⟩
  · rw [List.getElem?_set_ne (Ne.symm q)] at hi
    obtain ⟨u, h1, h2⟩ := r i e hi
    exact ⟨u, by rw [List.getElem?_set_ne (Ne.symm q)]; exact h1, h2⟩
theorem setAll_len {α : Type} : ∀ (js : List Nat) (vs : List α) (σ : List (Option α)), (setAll js vs σ).length = σ.length
  | [], _, _ => rfl
  | _ :: _, [], _ => rfl
  | j :: js, v :: vs, σ => by
    show (setAll js vs (σ.set j (some v))).length = _
    rw [setAll_len js vs, List.length_set]
theorem RpD.setAll {K : PySem.W.Frag} {G : Hp} : ∀ {js : List Nat} {ds : List Dv} {vs : List V} {ρ : En} {σ : St}, (∀ j ∈ js, j < σ.length) → HvL K G ds vs → RpD K G ρ σ → RpD K G (L2.setAll js (ds.map .fz) ρ) (L2.setAll js vs σ)
  | [], _, _, _, _, _, _, r => r
  | _ :: _, [], _, _, _, _, h, r => by rw [show _ = [] from h]; exact r
  | j :: js, d :: ds, _, ρ, σ, hj, ⟨x, q, h1, h2, h3⟩, r => by
    subst h1
    exact RpD.setAll (js := js) (ds := ds) (ρ := ρ.set j (some (.fz d))) (fun i hi => by rw [List.length_set]; exact hj i (.tail _ hi)) h3 (r.set (hj j (.head _)) h2)
section
variable {ι : Type}
def EvI (F : Fam ι) (tg iter : Expr) (ρ : En) (its : List Dv) : Prop := ∃ wi : TI, (∀ i, PI (F.cx i) tg iter wi) ∧ ∀ σ G H (R : It → Hp → Prop), Same G H → RpD F.K G ρ σ → (∀ J G' H', Step G H G' H' → ItD F.K G' J its → R J H') → wi σ H R
def EvIS (F : Fam ι) (tg iter : Expr) (ρ : En) (its : List Dv) : Prop := ∃ wi : TI, (∀ i, PI (F.cx i) tg iter wi) ∧ ∀ σ G H fp (R : It → Hp → Prop), Same G H → OwS F.K G H ρ σ fp → (∀ a ∈ fp, G a = none) → (∀ J G' H', Step G H G' H' → ItD F.K G' J its → R J H') → wi σ H R
def EvG (F : Fam ι) (tg : Expr) (js : List Nat) (sp : Dv → Option (List Dv)) : Prop := ∃ g : TG, (∀ i, PG (F.cx i) tg g) ∧ ∀ d dd v σ G H Q, sp d = some dd → Same G H → Hv F.K G d v → (∀ vs, HvL F.K G dd vs → Q (setAll js vs σ) H) → g v σ H Q
def uS (F : Fam ι) (sts : List Stmt) : TS := fun D σ H => ∃ τ : TS, (∀ i, PSs (F.cx i) sts τ) ∧ τ D σ H
theorem uS_ok {F : Fam ι} {sts : List Stmt} (i : ι) : PSs (F.cx i) sts (uS F sts) := fun pins s σ H D I ⟨τ, h, q⟩ => h i pins s σ H D I q
def uT (F : Fam ι) (e : Expr) : TT := fun σ H Q => ∃ τ : TT, (∀ i, PT (F.cx i) e τ) ∧ τ σ H Q
theorem uT_ok {F : Fam ι} {e : Expr} (i : ι) : PT (F.cx i) e (uT F e) := fun pins s σ H D I ⟨τ, h, q⟩ => h i pins s σ H D I q
def uE (F : Fam ι) (e : Expr) : TE := fun σ H Q => ∃ τ : TE, (∀ i, PE (F.cx i) e τ) ∧ τ σ H Q
theorem uE_ok {F : Fam ι} {e : Expr} (i : ι) : PE (F.cx i) e (uE F e) := fun pins s σ H D I ⟨τ, h, q⟩ => h i pins s σ H D I q
variable {F : Fam ι} {e a b c tg iter elt : Expr} {es : List Expr} {ρ ρ1 : En} {t ta : Tr} {ts : List Tr} {pos : Pos} {o : Out} {body : List Stmt} {its : List Dv} {js : List Nat} {sp : Dv → Option (List Dv)}
theorem EvI.s (h : EvI F tg iter ρ its) : EvIS F tg iter ρ its := let ⟨w, x, y⟩ := h; ⟨w, x, fun σ G H fp R s r _ k => y σ G H R s r.rpd k⟩
theorem evg_nm (j : Nat) {x : Str} (hN : ∀ i, (F.cx i).N.Nodup) (hi : ∀ i, (F.cx i).N[j]? = some x := by intro _; rfl) (hx : ∀ i, Loc (F.cx i).env.scope x := by intro _; first | exact Or.inl rfl | exact Or.inr rfl)
    (hf : ∀ i, (F.cx i).fn x = true ∨ (F.cx i).env.scope.names.lookup x = some .local := by intro _; first | exact .inl rfl | exact .inr rfl) : EvG F (.Name x pos) [j] (fun d => some [d]) :=
  ⟨gName j, fun i => pg_name (hN i) (hi i) (hx i) (hf i), fun d dd v σ G H Q e s h k => by
    cases e
    exact k [v] ⟨v, [], rfl, h, rfl⟩⟩
def tupOf (n : Nat) : Dv → Option (List Dv)
  | .tup ds => if ds.length = n then some ds else none
  | _ => none
theorem evi_list {xs : List Dv} (ha : Ev F e ρ ta) (ea : er ta = .lst xs) : EvI F tg e ρ xs := by
  obtain ⟨τ, p, q⟩ := ha.use
  refine ⟨iList F.K τ, fun i => F.hK i ▸ pi_list (p i), fun σ G H R s r k => q σ G H _ s r fun x G1 H1 s1 hx => ?_⟩
  rw [ea] at hx
  obtain ⟨l, vs, rfl, h1, h2⟩ := hx
  refine ⟨l, rfl, ⟨vs, s1.s.seq h1⟩, k _ G1 H1 s1 fun j G2 H2 sg sh => ⟨fun d hd => ?_, fun hz => ⟨vs, (sg.trans sh).seq h1, by rw [← h2.length, hz]; exact Nat.le_refl _⟩⟩⟩
  obtain ⟨v, q1, q2⟩ := h2.get hd
  refine ⟨⟨vs, v, (sg.trans sh).seq h1, q1⟩, ?_⟩
  rintro x H3 ⟨rfl, hx⟩
  have := hx vs ((sg.trans sh).seq h1)
  rw [q1] at this
  cases this
  exact ⟨G2, .refl sh, q2.mono sg⟩
abbrev rngD (lo : Int) (n : Nat) : List Dv := (List.range n).map fun k => di (lo + (k : Nat))
theorem itd_rng {K : PySem.W.Frag} {G : Hp} (lo : Int) (n : Nat) : ItD K G (Itr lo n) (rngD lo n) := fun k G1 H1 sg sh => by
  refine ⟨fun d hd => ?_, fun hz => by show n ≤ k; rw [hz]; simp⟩
  rw [List.getElem?_map] at hd
  rcases Nat.lt_or_ge k n with hk | hk
  · rw [List.getElem?_range hk] at hd
    cases hd
    refine ⟨hk, ?_⟩
    rintro x H3 ⟨rfl, rfl⟩
    exact ⟨G1, .refl sh, rfl, rfl⟩
  · rw [List.getElem?_eq_none (by simpa using hk)] at hd; cases hd
theorem evi_range1 {n : Int} (hm : F.mg "range" = none) (ha : Ev F a ρ (ti n)) (hb : -(2 ^ 62) ≤ n ∧ n < 2 ^ 62) {p : Pos} (hg : ∀ i, Gl (F.cx i) "range" := by intro _; rfl) (hs : ∀ i, starEach [a] (F.cx i).env = [(false, eval a (F.cx i).env)] := by intro _; rfl) : EvI F tg (.Call (.Name "range" p) [a] [] pos) ρ (rngD 0 n.toNat) := by
  obtain ⟨τ, p, q⟩ := ha.use
  refine ⟨iRng1 (tCons τ tNil), fun i => pi_range1 (hg i) ((F.hm i).symm ▸ hm) (pa_cons (p i) pa_nil (hs i)) (hs i), fun σ G H R s r k => q σ G H _ s r fun x G1 H1 s1 hx => ?_⟩
  exact ⟨n, by rw [hvi hx], hb.1, hb.2, k _ G1 H1 s1 (itd_rng 0 n.toNat)⟩
theorem blts {js : List Nat} {n : Nat} (h : js.all (fun j => Nat.blt j n) = true) : ∀ j ∈ js, j < n := fun j hj => Nat.le_of_ble_eq_true (List.all_eq_true.mp h j hj)
theorem pOwn {i : ι} (hx : (F.cx i).xe = NoX) : PassesOwn (model (F.cx i).prog (F.cx i).w) (F.cx i).A (F.cx i).env (F.cx i).xe := by rw [hx]; exact PassesOwn.never
theorem rn_for_gen (hi : EvIS F tg iter ρ its) (hg : EvG F tg js sp) (inv : Nat → En) (m : Nat) (hm : m ≤ its.length) (h0 : inv 0 = ρ) (hlen : ∀ k, js.all (fun j => Nat.blt j (inv k).length) = true)
    (step : ∀ k d, k < m → its[k]? = some d → ∃ dd ρb, sp d = some dd ∧ Rns F body (setAll js (dd.map .fz) (inv k)) (.nx ρb) ∧ Fg ρb (inv (k + 1)))
    (fin : (m = its.length ∧ o = .nx (inv m)) ∨ ∃ d dd t, its[m]? = some d ∧ sp d = some dd ∧ Rns F body (setAll js (dd.map .fz) (inv m)) (.rt t) ∧ o = .rt t)
    (hx : ∀ i, (F.cx i).xe = NoX := by intro _; rfl) (hs : ∀ i x, foldedSetIterable iter (F.cx i).env x = pure x := by intro _ _; rfl) : Rn F (.For tg iter body [] pos) ρ o := by
  obtain ⟨wi, p, q⟩ := hi
  obtain ⟨g, pg, qg⟩ := hg
  subst h0
  refine ⟨tFor wi g (uS F body), fun i => ps_for (pOwn (hx i)) (F.calm i) (p i) (pg i) (uS_ok i) (hs i), fun D σ G0 H0 G H r k => ?_⟩
  obtain ⟨fp, r⟩ := r
  refine q σ G H fp _ r.st.s r.own r.g fun J G1 H1 s1 it => ?_
  have r1 : RSf F.K G0 H0 G1 H1 (inv 0) σ fp := ⟨r.st.trans s1, r.own.mono s1.g s1.h, r.own.off s1 r.g, r.n, r.d⟩
  have kb := k.under r1.base
  refine ⟨fun k m' σ' H' => m' = its.length - k ∧ k ≤ m ∧ ∃ G', RS F.K G1 (less H1 fp) G' H' (inv k) σ', ⟨_, rfl, Nat.zero_le _, G1, fp, r1.rebase⟩, ?_⟩
  rintro n m' σ' H' ⟨rfl, hn, G', r'⟩
  obtain ⟨fp', r'⟩ := r'
  obtain ⟨i1, i2⟩ := it n G' H' r'.st.g r'.st.s
  by_cases hlt : n < m
  · have hd : its[n]? = some its[n] := List.getElem?_eq_getElem (by omega)
    obtain ⟨j1, j2⟩ := i1 _ hd
    refine .inr ⟨j1, fun σ2 H2 => ∃ G2, RS F.K G1 (less H1 fp) G2 H2 (inv (n + 1)) σ2, fun σ2 H2 z => ⟨its.length - (n + 1), by omega, rfl, hlt, z⟩, fun x H3 y => ?_⟩
    obtain ⟨G3, s3, h3⟩ := j2 x H3 y
    obtain ⟨dd, ρb, e1, ⟨τ, pb, qb⟩, e2⟩ := step n _ hlt hd
    refine qg _ dd x σ' G3 H3 _ e1 s3.s h3 fun vs hvs => ⟨τ, pb, qb _ _ G1 (less H1 fp) G3 H3 (RS.setAll (blts (hlen n)) hvs ⟨fp', r'.st.trans s3, r'.own.mono s3.g s3.h, fun a ha => ?_, r'.n, r'.d⟩) fun σ4 G4 H4 r4 => ⟨G4, e2.rs r4⟩⟩
    cases q : G3 a with
    | none => rfl
    | some u =>
      obtain ⟨u', hu'⟩ := r'.own.there a ha
      have := s3.n a (r'.g a ha) (by rw [q]; exact fun z => nomatch z)
      rw [hu'] at this; cases this
  · have en : n = m := by omega
    subst en
    rcases fin with ⟨e, rfl⟩ | ⟨d, dd, t, hd, e1, ⟨τ, pb, qb⟩, rfl⟩
    · refine .inl ⟨i2 e, kb σ' G' H' ⟨fp', r'⟩⟩
    · obtain ⟨j1, j2⟩ := i1 d hd
      refine .inr ⟨j1, fun _ _ => False, fun _ _ z => z.elim, fun x H3 y => ?_⟩
      obtain ⟨G3, s3, h3⟩ := j2 x H3 y
      refine qg d dd x σ' G3 H3 _ e1 s3.s h3 fun vs hvs => ⟨τ, pb, qb _ _ G1 (less H1 fp) G3 H3 (RS.setAll (blts (hlen n)) hvs ⟨fp', r'.st.trans s3, r'.own.mono s3.g s3.h, fun a ha => ?_, r'.n, r'.d⟩) kb⟩
      cases q : G3 a with
      | none => rfl
      | some u =>
        obtain ⟨u', hu'⟩ := r'.own.there a ha
        have := s3.n a (r'.g a ha) (by rw [q]; exact fun z => nomatch z)
        rw [hu'] at this; cases this
theorem rn_for (hi : EvIS F tg iter ρ its) (hg : EvG F tg js sp) (inv : Nat → En) (h0 : inv 0 = ρ) (hlen : ∀ k, js.all (fun j => Nat.blt j (inv k).length) = true)
    (step : ∀ k d, its[k]? = some d → ∃ dd ρb, sp d = some dd ∧ Rns F body (setAll js (dd.map .fz) (inv k)) (.nx ρb) ∧ Fg ρb (inv (k + 1)))
    (hx : ∀ i, (F.cx i).xe = NoX := by intro _; rfl) (hs : ∀ i x, foldedSetIterable iter (F.cx i).env x = pure x := by intro _ _; rfl) : Rn F (.For tg iter body [] pos) ρ (.nx (inv its.length)) :=
  rn_for_gen hi hg inv its.length (Nat.le_refl _) h0 hlen (fun k d _ h => step k d h) (.inl ⟨rfl, rfl⟩) hx hs
theorem rn_while (inv : Nat → En) (n : Nat) (h0 : inv 0 = ρ) (turn : ∀ k, k < n → EtS F c (inv k) true ∧ Rns F body (inv k) (.nx (inv (k + 1)))) (stop : EtS F c (inv n) false)
    (hx : ∀ i, (F.cx i).xe = NoX := by intro _; rfl) : Rn F (.While c body [] pos) ρ (.nx (inv n)) := by
  subst h0
  refine ⟨tWhile (uT F c) (uS F body), fun i => ps_while (pOwn (hx i)) (uT_ok i) (uS_ok i), fun D σ G0 H0 G H r k => ?_⟩
  refine ⟨fun m' σ' H' => ∃ j G', j ≤ n ∧ m' = n - j ∧ RS F.K G0 H0 G' H' (inv j) σ', ⟨_, 0, G, Nat.zero_le _, rfl, r⟩, ?_⟩
  rintro m' σ' H' ⟨j, G', hj, rfl, fp, r'⟩
  have key : ∀ {G1 H1 : Hp}, Step G' H' G1 H1 → RS F.K G0 H0 G1 H1 (inv j) σ' := fun {G1 H1} s1 => ⟨fp, r'.st.trans s1, r'.own.mono s1.g s1.h, r'.own.off s1 r'.g, r'.n, r'.d⟩
  by_cases hlt : j < n
  · obtain ⟨⟨τ, x, y⟩, ⟨τ', x', y'⟩⟩ := turn j hlt
    refine ⟨τ, x, y σ' G' H' fp _ r'.st.s r'.own r'.g fun G1 H1 s1 => iteT ⟨fun σ2 H2 => ∃ G2, RS F.K G0 H0 G2 H2 (inv (j + 1)) σ2, fun σ2 H2 ⟨G2, z⟩ => ⟨n - (j + 1), by omega, j + 1, G2, hlt, rfl, z⟩, τ', x', ?_⟩⟩
    exact y' _ σ' G0 H0 G1 H1 (key s1) fun σ4 G4 H4 r4 => ⟨G4, r4⟩
  · have e : j = n := by omega
    subst e
    obtain ⟨τ, x, y⟩ := stop
    exact ⟨τ, x, y σ' G' H' fp _ r'.st.s r'.own r'.g fun G1 H1 s1 => iteF (k σ' G1 H1 (key s1))⟩
theorem rn_while_by {α : Type} (S : α → En) (Pp : α → Prop) (p : α → Bool) (μ : α → Nat) (hc : ∀ a, Pp a → EtS F c (S a) (p a)) (hb : ∀ a, Pp a → p a = true → ∃ a', Pp a' ∧ μ a' < μ a ∧ Rns F body (S a) (.nx (S a'))) (a0 : α) (h0 : Pp a0)
    (hx : ∀ i, (F.cx i).xe = NoX := by intro _; rfl) : ∃ a', Pp a' ∧ p a' = false ∧ Rn F (.While c body [] pos) (S a0) (.nx (S a')) := by
  have : ∀ (m : Nat) (a : α), μ a ≤ m → Pp a → ∃ (n : Nat) (f : Nat → α), f 0 = a ∧ (∀ k, k < n → Pp (f k) ∧ p (f k) = true ∧ Rns F body (S (f k)) (.nx (S (f (k + 1))))) ∧ Pp (f n) ∧ p (f n) = false := by
    intro m
    induction m with
    | zero =>
      intro a hm ha
      cases hp : p a with
      | false => exact ⟨0, fun _ => a, rfl, fun k hk => absurd hk (Nat.not_lt_zero _), ha, hp⟩
      | true =>
        obtain ⟨a', _, h2, _⟩ := hb a ha hp
        omega
    | succ m ih =>
      intro a hm ha
      cases hp : p a with
      | false => exact ⟨0, fun _ => a, rfl, fun k hk => absurd hk (Nat.not_lt_zero _), ha, hp⟩
      | true =>
        obtain ⟨a', h1, h2, h3⟩ := hb a ha hp
        obtain ⟨n, f, f0, f1, f2, f3⟩ := ih a' (by omega) h1
        refine ⟨n + 1, fun k => match k with | 0 => a | k + 1 => f k, rfl, fun k hk => ?_, f2, f3⟩
        cases k with
        | zero => exact ⟨ha, hp, by show Rns F body (S a) (.nx (S (f 0))); rw [f0]; exact h3⟩
        | succ k => exact f1 k (by omega)
  obtain ⟨n, f, f0, f1, f2, f3⟩ := this (μ a0) a0 (Nat.le_refl _) h0
  refine ⟨f n, f2, f3, rn_while (fun k => S (f k)) n (by rw [f0]) (fun k hk => ?_) (by have := hc _ f2; rw [f3] at this; exact this) hx⟩
  obtain ⟨g1, g2, g3⟩ := f1 k hk
  exact ⟨by have := hc _ g1; rw [g2] at this; exact this, g3⟩
structure IxLc where
  C : Addr
  s : Shared
  H : Hp
  ex : List Addr
  pn : List (Addr × Obj)
def famLc (F : Fam ι) (own : List Str) (fr : List Nat) (sc : Scope) (cl : ι → List (Str × Addr)) : Fam (ι × IxLc) where
  cx i := cxLc (F.cx i.1) own fr sc (cl i.1) i.2.C i.2.s i.2.H i.2.ex i.2.pn
  P := F.P
  w := F.w
  K := F.K
  mg := F.mg
  base := F.base
  room := F.room
  hP i := F.hP i.1
  hw i := F.hw i.1
  hK i := F.hK i.1
  hm i := F.hm i.1
  hb i := F.hb i.1
  hr i := F.hr i.1
  calm i := F.calm i.1
def lcEn (own : List Str) (fr : List Nat) (ρ : En) : En := own.map (fun _ => none) ++ fr.map fun j => (ρ[j]?).join
theorem rpd_lc {K : PySem.W.Frag} {G : Hp} {own : List Str} {fr : List Nat} {ρ : En} {σ : St} (r : RpD K G ρ σ) : RpD K G (lcEn own fr ρ) (lcStart own fr σ) := fun i d h => by
  unfold lcEn at h
  unfold lcStart
  by_cases hi : i < own.length
  · rw [List.getElem?_append_left (by simpa using hi), List.getElem?_map] at h
    cases q : own[i]? with
    | none => rw [q] at h; cases h
    | some z => rw [q] at h; cases h
  · rw [List.getElem?_append_right (by simpa using hi), List.getElem?_map, List.length_map] at h
    rw [List.getElem?_append_right (by simpa using hi), List.getElem?_map, List.length_map]
    cases q : fr[i - own.length]? with
    | none => rw [q] at h; cases h
    | some j =>
      rw [q] at h
      have h' : (ρ[j]?).join = some (.fz d) := Option.some.inj h
      have hj : ρ[j]? = some (some (.fz d)) := by
        cases q2 : ρ[j]? with
        | none => rw [q2] at h'; cases h'
        | some o => rw [q2] at h'; exact congrArg some h'
      obtain ⟨v, h1, h2⟩ := r j d hj
      refine ⟨v, ?_, h2⟩
      show some ((σ[j]?).join) = _
      rw [h1]
      rfl
def El {κ : Type} (F : Fam κ) (ifs : List Expr) (ρ : En) (b : Bool) : Prop := ∃ tt : TT, (∀ i (pins : List (Addr × Obj)) (s1 : Shared) (σ1 : St) (H1 : Hp) (Q : Bool → Hp → Prop), Inv (F.cx i) pins σ1 H1 s1 → tt σ1 H1 Q →
      wpAny (model (F.cx i).prog (F.cx i).w) (F.cx i).A (lcTests ifs (F.cx i).env) (TP (F.cx i) pins σ1 Q) NoX s1) ∧ ∀ σ G H Q, Same G H → RpD F.K G ρ σ → (∀ G' H', Step G H G' H' → Q b H') → tt σ H Q
theorem el_nil : El F [] ρ true := ⟨tNoTest, fun i pins s1 σ1 H1 Q I h => lc_t0 pins s1 σ1 H1 Q I h, fun σ G H Q s r k => k G H (.refl s)⟩
theorem el_one {p : Bool} (h : Et F c ρ p) (hx : ∀ i, (F.cx i).xe = NoX := by intro _; rfl) : El F [c] ρ p := let ⟨τ, x, y⟩ := h; ⟨τ, fun i pins s1 σ1 H1 Q I h => lc_t1 (x i) (hx i) pins s1 σ1 H1 Q I h, y⟩
def uL {κ : Type} (F : Fam κ) (ifs : List Expr) : TT := fun σ H Q => ∃ tt : TT, (∀ i (pins : List (Addr × Obj)) (s1 : Shared) (σ1 : St) (H1 : Hp) (Q : Bool → Hp → Prop), Inv (F.cx i) pins σ1 H1 s1 → tt σ1 H1 Q →
      wpAny (model (F.cx i).prog (F.cx i).w) (F.cx i).A (lcTests ifs (F.cx i).env) (TP (F.cx i) pins σ1 Q) NoX s1) ∧ tt σ H Q
def LcV (F : Fam ι) (own : List Str) (fr : List Nat) (sc : Scope) (cl : ι → List (Str × Addr)) (elt tg iter : Expr) (ifs : List Expr) (τ : TE) : Prop := ∃ wi g tt te, τ = tLc wi g tt te own fr ∧ (∀ i, PI (F.cx i) tg iter wi) ∧ (∀ i, PG ((famLc F own fr sc cl).cx i) tg g) ∧
  (∀ i (pins : List (Addr × Obj)) (s1 : Shared) (σ1 : St) (H1 : Hp) (Q : Bool → Hp → Prop), Inv ((famLc F own fr sc cl).cx i) pins σ1 H1 s1 → tt σ1 H1 Q → wpAny (model ((famLc F own fr sc cl).cx i).prog ((famLc F own fr sc cl).cx i).w) ((famLc F own fr sc cl).cx i).A (lcTests ifs ((famLc F own fr sc cl).cx i).env) (TP ((famLc F own fr sc cl).cx i) pins σ1 Q) NoX s1) ∧
  ∀ i, PE ((famLc F own fr sc cl).cx i) elt te
def Elc (F : Fam ι) (own : List Str) (fr : List Nat) (sc : Scope) (cl : ι → List (Str × Addr)) (elt tg iter : Expr) (ifs : List Expr) (ρ : En) (t : Tr) : Prop := ∃ τ, LcV F own fr sc cl elt tg iter ifs τ ∧ ∀ σ G H Q, Same G H → RpD F.K G ρ σ → Kv F.K G H t Q → τ σ H Q
theorem elc {ifs : List Expr} {sc : Scope} {own : List Str} {fr : List Nat} {cl : ι → List (Str × Addr)} (hi : EvI F tg iter ρ its) (hg : EvG (famLc F own fr sc cl) tg js sp) (hjs : ∀ j ∈ js, j < own.length)
    (p : Nat → Bool) (f : Nat → Tr) (hz : its.length < sizeLine)
    (step : ∀ k d, its[k]? = some d → ∃ dd, sp d = some dd ∧ El (famLc F own fr sc cl) ifs (setAll js (dd.map .fz) (lcEn own fr ρ)) (p k) ∧ (p k = true → Ev (famLc F own fr sc cl) elt (setAll js (dd.map .fz) (lcEn own fr ρ)) (f k)))
    (hdrop : ∀ dd : List Dv, dropAll js (setAll js (dd.map .fz) (lcEn own fr ρ)) = lcEn own fr ρ) : Elc F own fr sc cl elt tg iter ifs ρ (.ow (((List.range its.length).filter p).map f)) := by
  obtain ⟨wi, pi, qi⟩ := hi
  obtain ⟨g, pg, qg⟩ := hg
  refine ⟨_, ⟨wi, g, uL (famLc F own fr sc cl) ifs, uE (famLc F own fr sc cl) elt, rfl, pi, pg, fun i pins s1 σ1 H1 Q I h => by
      obtain ⟨tt, h1, h2⟩ := h
      exact h1 i pins s1 σ1 H1 Q I h2, fun i => uE_ok i⟩, fun σ G H Q s r k => ?_⟩
  refine qi σ G H _ s r fun J G1 H1 s1 it acc hacc => ?_
  have k1 := k.step s1
  have rpDrop : ∀ {G' : Hp} {js' : List Nat} {ρ' : En} {σ' : St}, RpD F.K G' ρ' σ' → RpD F.K G' (dropAll js' ρ') σ' := by
    intro G' js'
    induction js' with
    | nil => intro ρ' σ' z; exact z
    | cons j js' ih =>
      intro ρ' σ' z
      refine ih (ρ' := ρ'.set j none) fun i d hd => ?_
      by_cases q : j = i
      · subst q
        rw [List.getElem?_set] at hd
        simp at hd
      · rw [List.getElem?_set_ne q] at hd
        exact z i d hd
  refine ⟨fun i m ys σ1 H2 => m = its.length - i ∧ i ≤ its.length ∧ σ1.length = own.length + fr.length ∧ H2 acc = some (.lst ys) ∧ ∃ G2 fq, Step G1 H1 G2 H2 ∧ OwL F.K G2 H2 (((List.range i).filter p).map f) ys fq ∧ Nw H1 G2 (acc :: fq) ∧ RpD F.K G2 (lcEn own fr ρ) σ1,
    ⟨_, rfl, Nat.zero_le _, by simp [lcStart], upd_same, G1, [], .newO s1.s hacc, ⟨rfl, rfl⟩, ⟨fun a ha => by rw [List.mem_singleton.mp ha]; exact hacc, fun a ha => by rw [List.mem_singleton.mp ha]; exact s1.s.free hacc, by simp⟩, (rpd_lc r).mono s1.g⟩, ?_⟩
  rintro i m ys σ1 H2 ⟨rfl, hi, hσ, ha2, G2, fq, s2, o2, w2, r2⟩
  have hlen : ys.length < sizeLine := by
    rw [← o2.length, List.length_map]
    have := List.length_filter_le p (List.range i)
    rw [List.length_range] at this
    omega
  refine ⟨ha2, hlen, ?_⟩
  obtain ⟨i1, i2⟩ := it i G2 H2 s2.g s2.s
  by_cases hlt : i < its.length
  · have hd : its[i]? = some its[i] := List.getElem?_eq_getElem hlt
    obtain ⟨j1, j2⟩ := i1 _ hd
    obtain ⟨dd, e1, el, ev⟩ := step i _ hd
    refine .inr ⟨j1, fun zs σ2 H3 => σ2.length = own.length + fr.length ∧ H3 acc = some (.lst zs) ∧ ∃ G3 fq, Step G1 H1 G3 H3 ∧ OwL F.K G3 H3 (((List.range (i + 1)).filter p).map f) zs fq ∧ Nw H1 G3 (acc :: fq) ∧ RpD F.K G3 (lcEn own fr ρ) σ2,
      fun zs σ2 H3 z => ⟨its.length - (i + 1), by omega, rfl, hlt, z⟩, fun x H3 y => ?_⟩
    obtain ⟨G3, s3, h3⟩ := j2 x H3 y
    refine qg _ dd x σ1 G3 H3 _ e1 s3.s h3 fun vs hvs => ?_
    have hjl : ∀ j ∈ js, j < σ1.length := fun j hj => by have := hjs j hj; omega
    have rr : RpD F.K G3 (setAll js (dd.map .fz) (lcEn own fr ρ)) (setAll js vs σ1) := RpD.setAll hjl hvs (r2.mono s3.g)
    have keepG : ∀ {Ga Ha Gb Hb : Hp} {fs : List Addr}, Step Ga Ha Gb Hb → (∀ a ∈ fs, Ga a = none) → (∀ a ∈ fs, ∃ o, Ha a = some o) → ∀ a ∈ fs, Gb a = none := fun {Ga Ha Gb Hb fs} st h1 h2 a ha => by
      cases q : Gb a with
      | none => rfl
      | some u =>
        obtain ⟨u', hu'⟩ := h2 a ha
        have := st.n a (h1 a ha) (by rw [q]; exact fun z => nomatch z)
        rw [hu'] at this; cases this
    have th2 : ∀ a ∈ acc :: fq, ∃ o, H2 a = some o := fun a ha => (List.mem_cons.mp ha).elim (fun z => ⟨_, z ▸ ha2⟩) (o2.there a)
    have er : (List.range (i + 1)).filter p = (List.range i).filter p ++ if p i = true then [i] else [] := by
      rw [List.range_succ, List.filter_append]
      congr 1
      simp only [List.filter_cons, List.filter_nil]
    obtain ⟨tt, pt, qt⟩ := el
    refine ⟨tt, pt, qt _ G3 H3 _ s3.s rr fun G5 H5 s5 => ?_⟩
    have s35 := s3.trans s5
    cases hp : p i with
    | false =>
      refine iteF ⟨by rw [setAll_len]; exact hσ, s35.h _ _ ha2, G5, fq, s2.trans s35, ?_, ⟨w2.n, keepG s35 w2.g th2, w2.d⟩, ?_⟩
      · rw [er, hp, if_neg (by decide), List.append_nil]
        exact o2.mono s35.g s35.h
      · have := rpDrop (js' := js) (rr.mono s5.g)
        rwa [hdrop dd] at this
    | true =>
      obtain ⟨te, pe, qe⟩ := ev hp
      refine iteT ⟨te, pe, qe _ G5 H5 _ s5.s (rr.mono s5.g) fun v G6 H6 f6 s6 o6 w6 => ?_⟩
      have s36 := s35.trans s6
      have ha6 := s36.h _ _ ha2
      have nf6 : ∀ a ∈ f6, a ∉ acc :: fq := fun a ha hb => by
        obtain ⟨u, hu⟩ := th2 a hb
        have := s35.h _ _ hu
        rw [w6.n a ha] at this; cases this
      have ndq := List.nodup_cons.mp w2.d
      have g6 := keepG s36 w2.g th2
      refine ⟨ha6, by rw [setAll_len]; exact hσ, upd_same, G6, fq ++ (f6 ++ []), ⟨(s2.trans s36).g, fun b u hb => ?_, fun b u hb => ?_, (s2.trans s36).n⟩, ?_, ⟨fun a ha => ?_, fun a ha => ?_, ?_⟩, ?_⟩
      · rw [upd_ne fun z => by subst z; rw [hacc] at hb; cases hb]
        exact (s2.trans s36).h b u hb
      · rw [upd_ne fun z => by subst z; rw [g6 _ (.head _)] at hb; cases hb]
        exact s6.s b u hb
      · rw [er, hp, if_pos rfl, List.map_append]
        refine OwL.append ((o2.mono s36.g s36.h).frame ndq.1) ⟨v, [], f6, [], rfl, rfl, o6.frame fun z => nf6 _ z (.head _), rfl, rfl⟩
      · rw [List.append_nil] at ha
        rcases List.mem_cons.mp ha with z | z
        · exact w2.n a (z ▸ .head _)
        · rcases List.mem_append.mp z with z | z
          · exact w2.n a (.tail _ z)
          · exact (s2.trans s35).h.free (w6.n a z)
      · rw [List.append_nil] at ha
        rcases List.mem_cons.mp ha with z | z
        · exact g6 a (z ▸ .head _)
        · rcases List.mem_append.mp z with z | z
          · exact g6 a (.tail _ z)
          · exact w6.g a z
      · rw [List.append_nil]
        refine List.nodup_cons.mpr ⟨fun z => ?_, List.nodup_append.mpr ⟨ndq.2, w6.d, fun a ha b hb z => ?_⟩⟩
        · rcases List.mem_append.mp z with z | z
          · exact ndq.1 z
          · exact nf6 _ z (.head _)
        · subst z; exact nf6 a hb (.tail _ ha)
      · have := rpDrop (js' := js) (rr.mono (s5.trans s6).g)
        rwa [hdrop dd] at this
  · have e : i = its.length := by omega
    subst e
    refine .inl ⟨i2 rfl, k1 (.ref acc) G2 H2 (acc :: fq) s2 ⟨acc, ys, fq, rfl, ha2, o2, rfl⟩ w2⟩
theorem ev_lc {ifs : List Expr} {sc : Scope} {own : List Str} {fr : List Nat} {cl : ι → List (Str × Addr)} (L : ∀ i, LcScope (F.cx i) sc (cl i) fr) (hi : EvI F tg iter ρ its) (hg : EvG (famLc F own fr sc cl) tg js sp) (hjs : ∀ j ∈ js, j < own.length)
    (p : Nat → Bool) (f : Nat → Tr) (hz : its.length < sizeLine)
    (step : ∀ k d, its[k]? = some d → ∃ dd, sp d = some dd ∧ El (famLc F own fr sc cl) ifs (setAll js (dd.map .fz) (lcEn own fr ρ)) (p k) ∧ (p k = true → Ev (famLc F own fr sc cl) elt (setAll js (dd.map .fz) (lcEn own fr ρ)) (f k)))
    (hdrop : ∀ dd : List Dv, dropAll js (setAll js (dd.map .fz) (lcEn own fr ρ)) = lcEn own fr ρ)
    (hs : ∀ i x, foldedSetIterable iter (F.cx i).env x = pure x := by intro _ _; rfl) :
    Ev F (.ListComp elt [⟨tg, iter, ifs, 0⟩] sc pos) ρ (.ow (((List.range its.length).filter p).map f)) := by
  obtain ⟨τ, ⟨wi, g, tt, te, rfl, h1, h2, h3, h4⟩, h5⟩ := elc (ifs := ifs) hi hg hjs p f hz step hdrop
  exact ⟨_, fun i => pe_lc (cl := cl i) (L i) (F.calm i) (h1 i) (fun C s H ex pn => h2 (i, ⟨C, s, H, ex, pn⟩)) (fun C s H ex pn => h3 (i, ⟨C, s, H, ex, pn⟩)) (fun C s H ex pn => h4 (i, ⟨C, s, H, ex, pn⟩)) (hs i), h5⟩
end
structure IxD (k : Nat) (qual : Str) (sc : Scope) (f : Addr) where
  cdv : Value
  A : Around
  outer : List Env
  s : Shared
  H : Hp
  E : XK
  hr : Room k (A.deeper (envOfC qual sc s.heap.objs.size f cdv))
def famD (P : Program) (w : World) (K : PySem.W.Frag) (mg : Str → Option Value) (base : Heap) (N : List Str) (qual : Str) (sc : Scope) (f : Addr) (k : Nat) : Fam (IxD k qual sc f) where
  cx i := (cxOf CX0 P w K mg base N qual sc f i.cdv i.A i.outer i.s i.H i.E).nox
  P := P
  w := w
  K := K
  mg := mg
  base := base
  room := k
  hP _ := rfl
  hw _ := rfl
  hK _ := rfl
  hm _ := rfl
  hb _ := rfl
  hr i := i.hr
  calm _ := rfl
def enD (N : List Str) (dd : List Dv) : En := dd.map (fun d => some (.fz d)) ++ List.replicate (N.length - dd.length) none
theorem ows_none {K : PySem.W.Frag} {G H : Hp} : ∀ n : Nat, OwS K G H (List.replicate n none) (List.replicate n none) []
  | 0 => ⟨rfl, rfl⟩
  | n + 1 => ⟨none, List.replicate n none, rfl, ows_none n⟩
theorem ows_start {K : PySem.W.Frag} {G H : Hp} {n : Nat} : ∀ {dd : List Dv} {vs : List V}, HvL K G dd vs → OwS K G H (dd.map (fun d => some (.fz d)) ++ List.replicate n none) (vs.map some ++ List.replicate n none) []
  | [], _, h => by rw [show _ = [] from h]; exact ows_none n
  | _ :: _, _, ⟨x, r, h1, h2, h3⟩ => by subst h1; exact ⟨x, _, [], [], rfl, rfl, ⟨rfl, h2⟩, ows_start h3⟩
theorem fn_ok {P : Program} {w : World} {K : PySem.W.Frag} {mg : Str → Option Value} {base : Heap} {x qual : Str} {st : Stmt} {dV : Value} {f : Addr} {fd : FuncData} {N ps : List Str} {k : Nat} {R : List Dv → Tr → Prop} (Fd : FunD K x qual st dV f fd) (S : FnScope N ps (defScope st))
    (hl : ∀ dd t, R dd t → dd.length = ps.length)
    (hb : ∀ dd t, R dd t → ∃ o, (o = .rt t ∨ (t = tn ∧ ∃ ρ', o = .nx ρ')) ∧ Rns (famD P w K mg base N qual (defScope st) f k) (defBody st) (enD N dd) o) : FnOk P w K mg base CX0 (k + 1) f fd ps (spT K R) := by
  refine Fd.ok S (fun vs H Q E ⟨G, dd, t, s, h1, h2, h3⟩ => by rw [← h1.length]; exact hl dd t h2) fun cdv A outer s H vs Q E hr h => ?_
  obtain ⟨G, dd, t, s', h1, h2, h3⟩ := h
  obtain ⟨o, ho, τ, x, y⟩ := hb dd t h2
  refine ⟨τ, x ⟨cdv, A, outer, s, H, E, hr⟩, y _ (start N vs) G H G H ⟨[], .refl s', ?_, fun _ z => (nomatch z), fun _ z => (nomatch z), .nil⟩ ?_⟩
  · unfold start enD
    rw [← h1.length]
    exact ows_start h1
  · rcases ho with rfl | ⟨rfl, ρ', rfl⟩
    · exact fun v G1 H1 fq s1 o1 w1 => h3 v G1 H1 fq s1 o1 w1
    · exact fun σ G1 H1 ⟨fp, r⟩ => h3 .non G1 H1 [] r.st ⟨rfl, rfl, rfl⟩ .nil
end L2
namespace L2
open PySem PySem.Spec PyProof.Rows
def Itz (K : PySem.W.Frag) (l1 l2 : Addr) (xs ys : List V) : It :=
  ⟨fun i H => SqL K H l1 xs ∧ SqL K H l2 ys ∧ i < min xs.length ys.length, fun i H x H' => ∃ T vx vy, H T = none ∧ xs[i]? = some vx ∧ ys[i]? = some vy ∧ x = .ref T ∧ H' = upd H T (.tup [vx, vy]), fun i H => SqL K H l1 xs ∧ SqL K H l2 ys ∧ i = min xs.length ys.length⟩
def Ite (K : PySem.W.Frag) (l : Addr) (xs : List V) : It :=
  ⟨fun i H => SqL K H l xs ∧ i < xs.length, fun i H x H' => ∃ T v, H T = none ∧ xs[i]? = some v ∧ x = .ref T ∧ H' = upd H T (.tup [.int (i : Nat), v]), fun i H => SqL K H l xs ∧ i = xs.length⟩
section
variable {X : Cx} {pins : List (Addr × Obj)} {σ : St} {H : Hp} {s : Shared}
theorem Inv.turnedL {t' : Nat} {fs : List Addr} {h' : Heap} (I : Inv X pins σ H s) (k : ∀ b o, b ∉ fs → s.heap.get? b = some o → h'.get? b = some o) (hf : ∀ b ∈ fs, FpOk X pins H b) : Inv X pins σ H { s with heap := h', toks := t' } := by
  have nit : ∀ b u, H b = some u → b ∉ fs := fun b u e z => by rw [(hf b z).1] at e; cases e
  refine I.step (g' := s.gens) (d' := s.drawn) (ch := fs) (fun b hb => ?_) (fun b o _ _ hc e _ => k b o hc e) (fun b o _ _ hc e _ => ⟨o.slots, k b o hc e⟩) (fun _ _ _ _ n => n)
    (fun b o hc e => ⟨o, k b o hc e⟩) (fun _ _ e => e) (fun _ _ _ e => e) (fun b ps e => ⟨#[], by rw [e]; simp⟩) (fun m hm => ?_) (fun b u e => ?_) I.bare
  · obtain ⟨f0, f1, f2, f3, f4, f5⟩ := hf b hb
    exact ⟨f3, f1, f4, f5⟩
  · obtain ⟨o, es, ep, ho, r⟩ := hm
    exact ⟨o, es, ep, k _ o (fun z => (hf _ z).2.1 rfl) ho, r⟩
  · refine (I.hok b u e).stay (fun c v hc q => k c v ?_ q) (fun _ q => q) fun _ _ q => q
    rcases hc with z | z
    · rw [z]; exact nit b u e
    · exact nit c _ z
theorem Inv.turnedT {t' : Nat} {fs : List Addr} {h' : Heap} {T : Addr} {vs : List V} (I : Inv X pins σ H s) (k : ∀ b o, b ∉ fs → s.heap.get? b = some o → h'.get? b = some o) (hf : ∀ b ∈ fs, FpOk X pins H b) (hT : s.heap.objs.size ≤ T)
    (new : ObjOk X.prog X.w (upd H T (.tup vs)) h' T (.tup vs)) : Inv X pins σ (upd H T (.tup vs)) { s with heap := h', toks := t' } := by
  have hn : H T = none := I.hok.fresh hT
  have nit : ∀ b u, H b = some u → b ∉ fs := fun b u e z => by rw [(hf b z).1] at e; cases e
  have ne : ∀ b o, s.heap.get? b = some o → b ≠ T := fun b o e z => by subst z; exact absurd (Nat.lt_of_lt_of_le (Heap.lt_size e) hT) (Nat.lt_irrefl _)
  refine I.step (g' := s.gens) (d' := s.drawn) (ch := fs) (fun b hb => ?_) (fun b o _ _ hc e _ => k b o hc e) (fun b o _ _ hc e _ => ⟨o.slots, k b o hc e⟩) (fun b o _ e n => by rw [upd_ne (ne b o e)]; exact n)
    (fun b o hc e => ⟨o, k b o hc e⟩) (fun _ _ e => by rw [upd_ne (ne_of_none e hn)]; exact e) (fun _ _ _ e => by rw [upd_ne (ne_of_none e hn)]; exact e) (fun b ps e => ⟨#[], by rw [upd_ne (ne_of_none e hn), e]; simp⟩) (fun m hm => ?_) (fun b u e => ?_) I.bare
  · obtain ⟨f0, f1, f2, f3, f4, f5⟩ := hf b hb
    exact ⟨f3, f1, f4, f5⟩
  · obtain ⟨o, es, ep, ho, r⟩ := hm
    exact ⟨o, es, ep, k _ o (fun z => (hf _ z).2.1 rfl) ho, r⟩
  · by_cases hb : b = T
    · subst hb; rw [upd_same] at e; cases e; exact new
    · rw [upd_ne hb] at e
      refine (I.hok b u e).stay (fun c v hc q => k c v ?_ q) (fun c q => by rw [upd_ne (ne_of_none q hn)]; exact q) fun c xs q => by rw [upd_ne (ne_of_none q hn)]; exact q
      rcases hc with z | z
      · rw [z]; exact nit b u e
      · exact nit c _ z
end
theorem turn_zip {P : Program} {w : World} {K : PySem.W.Frag} {elts : List Expr} {kk : Nat} {pos : Pos} {z TI TO i1 i2 l1 l2 : Addr} {xs ys : List V} (D : ZipApart z TI TO i1 i2 l1 l2) :
    Turn P w K (.Tuple elts kk pos) (Itz K l1 l2 xs ys) [z, TI, TO, i1, i2] z (fun i h => IsZip h z TI TO .none ∧ IsPair h TI (.ref i1) (.ref i2) ∧ (∃ a b, IsPair h TO a b) ∧ h.IsListIter i1 l1 i ∧ h.IsListIter i2 l2 i) where
  mem := by simp
  obj := by
    rintro i h ⟨h1, h2, ⟨a, c, h3⟩, ⟨o1, h4, _, h5⟩, ⟨o2, h6, _, h7⟩⟩ b hb
    simp only [List.mem_cons, List.not_mem_nil, or_false] at hb
    rcases hb with rfl | rfl | rfl | rfl | rfl
    · exact ⟨_, h1, fun v z => by cases z⟩
    · exact ⟨_, h2, fun v z => by cases z⟩
    · exact ⟨_, h3, fun v z => by cases z⟩
    · exact ⟨_, h4, fun v z => by rw [h5] at z; cases z⟩
    · exact ⟨_, h6, fun v z => by rw [h7] at z; cases z⟩
  keep := by
    rintro i h h' ⟨h1, h2, ⟨a, c, h3⟩, h4, h5⟩ k
    exact ⟨k _ (by simp) _ h1, k _ (by simp) _ h2, ⟨a, c, k _ (by simp) _ h3⟩, h4.at fun o e => k _ (by simp) o e, h5.at fun o e => k _ (by simp) o e⟩
  item := by
    intro X hP hw hK hc i pins s σ H E I hf st hg
    subst hP hw hK
    obtain ⟨hq1, hq2, hlt⟩ := hg
    obtain ⟨its1, rv1, p1, hz1⟩ := I.list hq1
    obtain ⟨its2, rv2, p2, hz2⟩ := I.list hq2
    have e1 := rv1.length
    have e2 := rv2.length
    have W := WalksT.zip2 (prog := X.prog) (w := X.w) (A := X.A) (I.ok.hd hc) z TI TO i1 i2 l1 l2 D its1.toArray its2.toArray
    refine W.item i s _ _ (by simp; omega) ⟨st.1, st.2.1, st.2.2.1, st.2.2.2.1, st.2.2.2.2, p1.isList, p2.isList⟩ fun T vals h' tk hPt hTn hTup hMid hk => ⟨.ref T, rfl, W.go elts kk pos i T _ _ _ hMid fun h'' st'' hk'' => ?_⟩
    obtain ⟨x, y, hx, hy, rfl⟩ := hPt
    have hx1 : xs[i]? = some (xs[i]'(by omega)) := List.getElem?_eq_getElem _
    have hy1 : ys[i]? = some (ys[i]'(by omega)) := List.getElem?_eq_getElem _
    obtain ⟨u, hu, ru⟩ := rv1.get hx1
    obtain ⟨u', hu', ru'⟩ := rv2.get hy1
    have ex : x = u := by
      have : its1[i]? = some x := by simpa using hx
      rw [hu] at this; exact (Option.some.inj this).symm
    have ey : y = u' := by
      have : its2[i]? = some y := by simpa using hy
      rw [hu'] at this; exact (Option.some.inj this).symm
    subst ex ey
    have sub : ∀ b ∈ [z, TO, i1, i2], b ∈ [z, TI, TO, i1, i2] := fun b hb => by
      simp only [List.mem_cons, List.not_mem_nil, or_false] at hb ⊢
      rcases hb with rfl | rfl | rfl | rfl <;> simp
    have hT2 : IsTup h'' T [x, y].toArray := hTup.at fun o e => hk'' T o (W.apart i T _ hMid) e
    refine ⟨.ref T, upd H T (.tup [xs[i]'(by omega), ys[i]'(by omega)]), I.turnedT (fs := [z, TO, i1, i2]) (fun b o hb e => hk'' b o hb (hk b o hb e)) (fun b hb => hf b (sub b hb)) hTn ⟨by show 2 ≤ sizeLine; decide, [x, y], .cons ru (.cons ru' .nil), hT2⟩, rfl,
      ⟨T, _, _, I.hok.fresh hTn, hx1, hy1, rfl, rfl⟩, ⟨st''.1, st''.2.1, st''.2.2.1, st''.2.2.2.1, st''.2.2.2.2.1⟩, fun b hb => ?_⟩
    obtain ⟨o, eo, _⟩ : ∃ o, s.heap.get? b = some o ∧ True := by
      obtain ⟨g1, g2, ⟨a, c, g3⟩, ⟨o1, g4, _⟩, ⟨o2, g6, _⟩⟩ := st
      simp only [List.mem_cons, List.not_mem_nil, or_false] at hb
      rcases hb with rfl | rfl | rfl | rfl | rfl
      · exact ⟨_, g1, trivial⟩
      · exact ⟨_, g2, trivial⟩
      · exact ⟨_, g3, trivial⟩
      · exact ⟨_, g4, trivial⟩
      · exact ⟨_, g6, trivial⟩
    rw [upd_ne (Nat.ne_of_lt (Nat.lt_of_lt_of_le (Heap.lt_size eo) hTn))]
    exact (hf b hb).1
  done := by
    intro X hP hw hK hc i pins s σ H E I hf st hg
    subst hP hw hK
    obtain ⟨hq1, hq2, rfl⟩ := hg
    obtain ⟨its1, rv1, p1, hz1⟩ := I.list hq1
    obtain ⟨its2, rv2, p2, hz2⟩ := I.list hq2
    have e1 := rv1.length
    have e2 := rv2.length
    have W := WalksT.zip2 (prog := X.prog) (w := X.w) (A := X.A) (I.ok.hd hc) z TI TO i1 i2 l1 l2 D its1.toArray its2.toArray
    have en : min its1.toArray.size its2.toArray.size = min xs.length ys.length := by simp only [List.size_toArray]; omega
    refine W.done s _ _ (by rw [en]; exact ⟨st.1, st.2.1, st.2.2.1, st.2.2.2.1, st.2.2.2.2, p1.isList, p2.isList⟩) fun h' tk hk => ⟨rfl, I.turnedL (fs := [z, TO, i1, i2]) hk fun b hb => hf b ?_⟩
    simp only [List.mem_cons, List.not_mem_nil, or_false] at hb ⊢
    rcases hb with rfl | rfl | rfl | rfl <;> simp
  self := fun A i s Q E st h => wpAny_pyIter_zip st.1 h
theorem turn_enum {P : Program} {w : World} {K : PySem.W.Frag} {elts : List Expr} {kk : Nat} {pos : Pos} {e it l : Addr} {xs : List V} (hei : e ≠ it) (hle : l ≠ e) (hli : l ≠ it) :
    Turn P w K (.Tuple elts kk pos) (Ite K l xs) [e, it] e (fun i h => (∃ old, IsEnum h e it i old) ∧ h.IsListIter it l i) where
  mem := by simp
  obj := by
    rintro i h ⟨⟨old, h1⟩, ⟨o1, h4, _, h5⟩⟩ b hb
    simp only [List.mem_cons, List.not_mem_nil, or_false] at hb
    rcases hb with rfl | rfl
    · exact ⟨_, h1, fun v z => by cases z⟩
    · exact ⟨_, h4, fun v z => by rw [h5] at z; cases z⟩
  keep := by
    rintro i h h' ⟨⟨old, h1⟩, h4⟩ k
    exact ⟨⟨old, k _ (by simp) _ h1⟩, h4.at fun o e => k _ (by simp) o e⟩
  item := by
    intro X hP hw hK hc i pins s σ H E I hf st hg
    subst hP hw hK
    obtain ⟨hq1, hlt⟩ := hg
    obtain ⟨its1, rv1, p1, hz1⟩ := I.list hq1
    have e1 := rv1.length
    have W := WalksT.enumerate (prog := X.prog) (w := X.w) (A := X.A) (I.ok.hd hc) e it l hei hle hli its1.toArray
    refine W.item i s _ _ (by simp; omega) ⟨st.1, st.2, p1.isList⟩ fun T vals h' tk hPt hTn hTup hMid hk => ⟨.ref T, rfl, W.go elts kk pos i T _ _ _ hMid fun h'' st'' hk'' => ?_⟩
    obtain ⟨t, x, hx, rfl⟩ := hPt
    have hx1 : xs[i]? = some (xs[i]'(by omega)) := List.getElem?_eq_getElem _
    obtain ⟨u, hu, ru⟩ := rv1.get hx1
    have ex : x = u := by
      have : its1[i]? = some x := by simpa using hx
      rw [hu] at this; exact (Option.some.inj this).symm
    subst ex
    have hT2 : IsTup h'' T [Value.int (i : Nat) t, x].toArray := hTup.at fun o e => hk'' T o (W.apart i T _ hMid) e
    refine ⟨.ref T, upd H T (.tup [.int (i : Nat), xs[i]'(by omega)]), I.turnedT (fs := [e, it]) (fun b o hb e => hk'' b o hb (hk b o hb e)) hf hTn ⟨by show 2 ≤ sizeLine; decide, [.int (i : Nat) t, x], .cons ⟨t, rfl⟩ (.cons ru .nil), hT2⟩, rfl,
      ⟨T, _, I.hok.fresh hTn, hx1, rfl, rfl⟩, ⟨st''.1, st''.2.1⟩, fun b hb => ?_⟩
    obtain ⟨o, eo, _⟩ : ∃ o, s.heap.get? b = some o ∧ True := by
      obtain ⟨⟨old, g1⟩, ⟨o1, g4, _⟩⟩ := st
      simp only [List.mem_cons, List.not_mem_nil, or_false] at hb
      rcases hb with rfl | rfl
      · exact ⟨_, g1, trivial⟩
      · exact ⟨_, g4, trivial⟩
    rw [upd_ne (Nat.ne_of_lt (Nat.lt_of_lt_of_le (Heap.lt_size eo) hTn))]
    exact (hf b hb).1
  done := by
    intro X hP hw hK hc i pins s σ H E I hf st hg
    subst hP hw hK
    obtain ⟨hq1, rfl⟩ := hg
    obtain ⟨its1, rv1, p1, hz1⟩ := I.list hq1
    have e1 := rv1.length
    have W := WalksT.enumerate (prog := X.prog) (w := X.w) (A := X.A) (I.ok.hd hc) e it l hei hle hli its1.toArray
    have en : its1.toArray.size = xs.length := by simp only [List.size_toArray]; omega
    exact W.done s _ _ (by rw [en]; exact ⟨st.1, st.2, p1.isList⟩) fun h' tk hk => ⟨rfl, I.turnedL (fs := [e, it]) hk hf⟩
  self := fun A i s Q E st h => by
    obtain ⟨⟨old, h1⟩, _⟩ := st
    exact wpAny_pyIter_enum h1 h
def iZip (K : PySem.W.Frag) (ta : TA) : TI := fun σ H R => ta σ H fun vs H1 => ∃ l1 l2 xs ys, vs = [.ref l1, .ref l2] ∧ SqL K H1 l1 xs ∧ SqL K H1 l2 ys ∧ R (Itz K l1 l2 xs ys) H1
def iEnu (K : PySem.W.Frag) (ta : TA) : TI := fun σ H R => ta σ H fun vs H1 => ∃ l xs, vs = [.ref l] ∧ SqL K H1 l xs ∧ R (Ite K l xs) H1
section
variable {X : Cx} {elts : List Expr} {kk : Nat} {tp : Pos}
theorem pi_zip {a b : Expr} {ta : TA} {p pos : Pos} (hg : Gl X "zip") (hm : X.mg "zip" = none) (ha : PA X [a, b] ta) (hs : starEach [a, b] X.env = [(false, eval a X.env), (false, eval b X.env)] := by rfl) (hs2 : starEach [b] X.env = [(false, eval b X.env)] := by rfl) :
    PI X (.Tuple elts kk tp) (.Call (.Name "zip" p) [a, b] [] pos) (iZip X.K ta) := by
  intro pins s σ H R I h
  refine Call_ (ld_blt I hg hm bt_zip (PyProof.Rows.callWith_type1 (thn (ha pos pins s σ H _ I h) fun us s1 ⟨vs, H1, I1, r1, q1⟩ => ?_) (by rw [hs, hs2]) (by rw [hs2]; rfl)))
  obtain ⟨l1, l2, xs, ys, rfl, hq1, hq2, q⟩ := q1
  obtain ⟨u1, u2, rfl, c1, c2⟩ := r1.two
  cases c1
  cases c2
  obtain ⟨its1, rv1, p1, hz1⟩ := I1.list hq1
  obtain ⟨its2, rv2, p2, hz2⟩ := I1.list hq2
  have lt1 : l1 < s1.heap.objs.size := by obtain ⟨o, n, e, _⟩ := p1; exact Heap.lt_size e
  have lt2 : l2 < s1.heap.objs.size := by obtain ⟨o, n, e, _⟩ := p2; exact Heap.lt_size e
  refine call_zip_2 p1.isList p2.isList fun h' hz hTI hTO hi1 hi2 hsz hk => wpAny_pyIter_zip hz ?_
  have I2 : Inv X pins σ H1 { s1 with heap := h' } := I1.kept (t' := s1.toks) hk
  refine ⟨s1.heap.objs.size + 4, [s1.heap.objs.size + 4, s1.heap.objs.size + 2, s1.heap.objs.size + 3, s1.heap.objs.size, s1.heap.objs.size + 1], _, _, H1, rfl, I2, turn_zip (PySem.W.ktu_apart _ _ _ lt1 lt2), ⟨hz, hTI, ⟨_, _, hTO⟩, hi1, hi2⟩, fun b hb => ?_, q⟩
  have hb' : s1.heap.objs.size ≤ b := by
    simp only [List.mem_cons, List.not_mem_nil, or_false] at hb
    rcases hb with rfl | rfl | rfl | rfl | rfl <;> omega
  obtain ⟨f0, f1, f2, f3, f4, f5⟩ := I1.fpOk (H' := H1) hb' (I1.hok.fresh hb')
  exact ⟨f0, f1, f2, f3, f4, f5⟩
theorem pi_enum {a : Expr} {ta : TA} {p pos : Pos} (hg : Gl X "enumerate") (hm : X.mg "enumerate" = none) (ha : PA X [a] ta) (hs : starEach [a] X.env = [(false, eval a X.env)] := by rfl) :
    PI X (.Tuple elts kk tp) (.Call (.Name "enumerate" p) [a] [] pos) (iEnu X.K ta) := by
  intro pins s σ H R I h
  refine Call_ (ld_blt I hg hm bt_enumerate (PyProof.Rows.callWith_type1 (thn (ha pos pins s σ H _ I h) fun us s1 ⟨vs, H1, I1, r1, q1⟩ => ?_) hs rfl))
  obtain ⟨l, xs, rfl, hq1, q⟩ := q1
  obtain ⟨u1, rfl, c1⟩ := r1.one
  cases c1
  obtain ⟨its1, rv1, p1, hz1⟩ := I1.list hq1
  have lt1 : l < s1.heap.objs.size := by obtain ⟨o, n, e, _⟩ := p1; exact Heap.lt_size e
  refine call_enumerate_list p1.isList fun h' hE hI hsz hk => wpAny_pyIter_enum hE ?_
  have I2 : Inv X pins σ H1 { s1 with heap := h' } := I1.kept (t' := s1.toks) hk
  refine ⟨s1.heap.objs.size + 1, [s1.heap.objs.size + 1, s1.heap.objs.size], _, _, H1, rfl, I2, turn_enum (Nat.succ_ne_self _) (PySem.W.ktu_ne 1 lt1) (Nat.ne_of_lt lt1), ⟨⟨_, hE⟩, hI⟩, fun b hb => ?_, q⟩
  have hb' : s1.heap.objs.size ≤ b := by
    simp only [List.mem_cons, List.not_mem_nil, or_false] at hb
    rcases hb with rfl | rfl <;> omega
  obtain ⟨f0, f1, f2, f3, f4, f5⟩ := I1.fpOk (H' := H1) hb' (I1.hok.fresh hb')
  exact ⟨f0, f1, f2, f3, f4, f5⟩
end
section
variable {ι : Type} {F : Fam ι} {a b tg : Expr} {ρ : En} {ta tb' : Tr} {elts : List Expr} {kk : Nat} {tp pos : Pos}
def zipD (xs ys : List Dv) : List Dv := List.zipWith (fun x y => .tup [x, y]) xs ys
def enuD (xs : List Dv) : List Dv := (List.range xs.length).zipWith (fun k x => .tup [di (k : Nat), x]) xs
theorem evi_zip {xs ys : List Dv} (hm : F.mg "zip" = none) (ha : Ev F a ρ ta) (hb : Ev F b ρ tb') (ea : er ta = .lst xs) (eb : er tb' = .lst ys) {p : Pos} (hg : ∀ i, Gl (F.cx i) "zip" := by intro _; rfl)
    (hs : ∀ i, starEach [a, b] (F.cx i).env = [(false, eval a (F.cx i).env), (false, eval b (F.cx i).env)] := by intro _; rfl) (hs2 : ∀ i, starEach [b] (F.cx i).env = [(false, eval b (F.cx i).env)] := by intro _; rfl) :
    EvI F (.Tuple elts kk tp) (.Call (.Name "zip" p) [a, b] [] pos) ρ (zipD xs ys) := by
  obtain ⟨τ, p, q⟩ := (eva_cons ha (eva_cons hb eva_nil hs2) (fun i => by rw [hs i, hs2 i])).use
  refine ⟨iZip F.K τ, fun i => F.hK i ▸ pi_zip (hg i) ((F.hm i).symm ▸ hm) (p i) (hs i) (hs2 i), fun σ G H R s r k => q σ G H _ s r fun vs G1 H1 s1 hx => ?_⟩
  obtain ⟨x, y, rfl, h1, h2⟩ := hvl2 hx
  rw [ea] at h1
  rw [eb] at h2
  obtain ⟨l1, us, rfl, g1, g2⟩ := h1
  obtain ⟨l2, ws, rfl, g3, g4⟩ := h2
  have e1 := g2.length
  have e2 := g4.length
  refine ⟨l1, l2, us, ws, rfl, s1.s.seq g1, s1.s.seq g3, k _ G1 H1 s1 fun j G2 H2 sg sh => ⟨fun d hd => ?_, fun hz => ?_⟩⟩
  · unfold zipD at hd
    rw [List.getElem?_zipWith] at hd
    cases qx : xs[j]? with
    | none => rw [qx] at hd; cases hd
    | some dx =>
      cases qy : ys[j]? with
      | none => rw [qx, qy] at hd; cases hd
      | some dy =>
        rw [qx, qy] at hd
        cases hd
        obtain ⟨vx, x1, x2⟩ := g2.get qx
        obtain ⟨vy, y1, y2⟩ := g4.get qy
        have lx : j < us.length := (List.getElem?_eq_some_iff.mp x1).1
        have ly : j < ws.length := (List.getElem?_eq_some_iff.mp y1).1
        refine ⟨⟨(sg.trans sh).seq g1, (sg.trans sh).seq g3, by omega⟩, ?_⟩
        rintro x H3 ⟨T, wx, wy, hT, z1, z2, rfl, rfl⟩
        rw [x1] at z1
        rw [y1] at z2
        cases z1
        cases z2
        refine ⟨_, .new sh hT, T, _, rfl, SqT.of upd_same, _, _, rfl, (x2.mono sg).mono (Same.new (sh.free hT)), _, _, rfl, (y2.mono sg).mono (Same.new (sh.free hT)), rfl⟩
  · refine ⟨(sg.trans sh).seq g1, (sg.trans sh).seq g3, ?_⟩
    rw [hz]
    unfold zipD
    rw [List.length_zipWith, e1, e2]
theorem evi_enum {xs : List Dv} (hm : F.mg "enumerate" = none) (ha : Ev F a ρ ta) (ea : er ta = .lst xs) {p : Pos} (hg : ∀ i, Gl (F.cx i) "enumerate" := by intro _; rfl)
    (hs : ∀ i, starEach [a] (F.cx i).env = [(false, eval a (F.cx i).env)] := by intro _; rfl) : EvI F (.Tuple elts kk tp) (.Call (.Name "enumerate" p) [a] [] pos) ρ (enuD xs) := by
  obtain ⟨τ, p, q⟩ := (eva_cons ha eva_nil hs).use
  refine ⟨iEnu F.K τ, fun i => F.hK i ▸ pi_enum (hg i) ((F.hm i).symm ▸ hm) (p i) (hs i), fun σ G H R s r k => q σ G H _ s r fun vs G1 H1 s1 hx => ?_⟩
  obtain ⟨x, rfl, h1⟩ := hvl1 hx
  rw [ea] at h1
  obtain ⟨l1, us, rfl, g1, g2⟩ := h1
  have e1 := g2.length
  refine ⟨l1, us, rfl, s1.s.seq g1, k _ G1 H1 s1 fun j G2 H2 sg sh => ⟨fun d hd => ?_, fun hz => ?_⟩⟩
  · unfold enuD at hd
    rw [List.getElem?_zipWith] at hd
    cases qx : xs[j]? with
    | none =>
      rw [qx] at hd
      cases q2 : (List.range xs.length)[j]? with
      | none => rw [q2] at hd; cases hd
      | some z => rw [q2] at hd; cases hd
    | some dx =>
      have lj : j < xs.length := (List.getElem?_eq_some_iff.mp qx).1
      rw [qx, List.getElem?_range lj] at hd
      cases hd
      obtain ⟨vx, x1, x2⟩ := g2.get qx
      refine ⟨⟨(sg.trans sh).seq g1, by omega⟩, ?_⟩
      rintro x H3 ⟨T, wx, hT, z1, rfl, rfl⟩
      rw [x1] at z1
      cases z1
      exact ⟨_, .new sh hT, T, _, rfl, SqT.of upd_same, _, _, rfl, ⟨rfl, rfl⟩, _, _, rfl, (x2.mono sg).mono (Same.new (sh.free hT)), rfl⟩
  · refine ⟨(sg.trans sh).seq g1, ?_⟩
    rw [hz]
    unfold enuD
    rw [List.length_zipWith, List.length_range, Nat.min_self, e1]
theorem tupOf_some {n : Nat} {ds dd : List Dv} (e : tupOf n (.tup ds) = some dd) : ds.length = n ∧ dd = ds := by
  have e' : (if ds.length = n then some ds else none) = some dd := e
  by_cases h : ds.length = n
  · rw [if_pos h] at e'; cases e'; exact ⟨h, rfl⟩
  · rw [if_neg h] at e'; cases e'
theorem evg_t2 (j1 j2 : Nat) {x y : Str} {px py : Pos} (hN : ∀ i, (F.cx i).N.Nodup) (h1 : ∀ i, (F.cx i).N[j1]? = some x := by intro _; rfl) (h2 : ∀ i, (F.cx i).N[j2]? = some y := by intro _; rfl)
    (hx : ∀ i, Loc (F.cx i).env.scope x := by intro _; first | exact Or.inl rfl | exact Or.inr rfl) (hy : ∀ i, Loc (F.cx i).env.scope y := by intro _; first | exact Or.inl rfl | exact Or.inr rfl)
    (fx : ∀ i, (F.cx i).fn x = true ∨ (F.cx i).env.scope.names.lookup x = some .local := by intro _; first | exact .inl rfl | exact .inr rfl) (fy : ∀ i, (F.cx i).fn y = true ∨ (F.cx i).env.scope.names.lookup y = some .local := by intro _; first | exact .inl rfl | exact .inr rfl) :
    EvG F (.Tuple [.Name x px, .Name y py] kk tp) [j1, j2] (tupOf 2) :=
  ⟨gTup F.K 2 (gCons (gName j1) (gCons (gName j2) gNil)), fun i => F.hK i ▸ pg_tup (F.calm i) (pgs_cons (pg_name (hN i) (h1 i) (hx i) (fx i)) (pgs_cons (pg_name (hN i) (h2 i) (hy i) (fy i)) pgs_nil)), fun d dd v σ G H Q e s h k => by
    cases d with
    | fl _ => cases e
    | lst _ => cases e
    | tup ds =>
      obtain ⟨hl, rfl⟩ := tupOf_some e
      obtain ⟨a, vs, rfl, q1, q2⟩ := h
      have hv : vs.length = 2 := by rw [← q2.length]; exact hl
      refine ⟨a, vs, rfl, s.tup q1, hv, ?_⟩
      match vs, hv with
      | [v1, v2], _ => exact ⟨v1, [v2], rfl, v2, [], rfl, rfl, k [v1, v2] q2⟩⟩
theorem rn_par (j1 j2 : Nat) {x y : Str} {m n : Int} {px py pt : Pos} {kt k2 pt2} (ha : EvS F a ρ (ti m)) (hb : EvS F b ρ (ti n)) (hN : ∀ i, (F.cx i).N.Nodup) (hj1 : Nat.blt j1 ρ.length = true := by rfl) (hj2 : Nat.blt j2 ρ.length = true := by rfl) (hi : ∀ i, (F.cx i).N[j1]? = some x := by intro _; rfl) (hj : ∀ i, (F.cx i).N[j2]? = some y := by intro _; rfl) (hij : j1 ≠ j2 := by decide)
    (hx : ∀ i, (F.cx i).env.scope.names.lookup x = some .local := by intro _; rfl) (hy : ∀ i, (F.cx i).env.scope.names.lookup y = some .local := by intro _; rfl)
    (hw : ∀ i, swappedStores [.Tuple [.Name x px, .Name y py] kt pt] (.Tuple [a, b] k2 pt2) (F.cx i).env = pure (some [x, y]) := by intro _; rfl)
    (hs : ∀ i, swapsWithSole [.Tuple [.Name x px, .Name y py] kt pt] (.Tuple [a, b] k2 pt2) pos.line (F.cx i).env = pure false := by intro _; rfl)
    (st1 : ∀ i, starEach [a, b] (F.cx i).env = (false, eval a (F.cx i).env) :: starEach [b] (F.cx i).env := by intro _; rfl) (st2 : ∀ i, starEach [b] (F.cx i).env = (false, eval b (F.cx i).env) :: starEach [] (F.cx i).env := by intro _; rfl) :
    Rn F (.Assign [.Tuple [.Name x px, .Name y py] kt pt] (.Tuple [a, b] k2 pt2) pos) ρ (.nx ((ρ.set j1 (some (ti m))).set j2 (some (ti n)))) := by
  obtain ⟨τ, y1, z1⟩ := ha
  obtain ⟨τ', y2, z2⟩ := hb
  refine ⟨tPar j1 j2 (tCons τ (tCons τ' tNil)), fun i => ps_par (F.calm i) (hN i) (hi i) (hj i) hij (hx i) (hy i) (pa_cons (y1 i) (pa_cons (y2 i) pa_nil (st2 i)) (st1 i)) (hw i) (hs i), fun D σ G0 H0 G H r k => ?_⟩
  obtain ⟨fp, r⟩ := r
  have key : ∀ {G1 H1 : Hp}, Step G H G1 H1 → ∀ a ∈ fp, G1 a = none := fun {G1 H1} s1 a ha => by
    cases q : G1 a with
    | none => rfl
    | some u =>
      obtain ⟨u', hu'⟩ := r.own.there a ha
      have := s1.n a (r.g a ha) (by rw [q]; exact fun z => nomatch z)
      rw [hu'] at this; cases this
  refine z1 σ G H fp _ r.st.s r.own r.g fun v G1 H1 fq s1 o w => z2 σ G1 H1 fp _ s1.s (r.own.mono s1.g s1.h) (key s1) fun v' G2 H2 fq' s2 o' w' => ?_
  have e1 : v = .int m := hvi o.2
  have e2 : v' = .int n := hvi o'.2
  subst e1 e2
  refine ⟨_, _, rfl, ?_⟩
  have s12 := s1.trans s2
  obtain ⟨fp1, r1⟩ := (⟨r.st.trans s12, r.own.mono s12.g s12.h, key s12, r.n, r.d⟩ : RSf F.K G0 H0 G2 H2 ρ σ fp).set (t := ti m) (v := .int m) (Nat.le_of_ble_eq_true hj1) (.refl s12.s) ⟨rfl, rfl, rfl⟩ .nil
  exact k _ G2 H2 (r1.set (t := ti n) (v := .int n) (by rw [List.length_set]; exact Nat.le_of_ble_eq_true hj2) (.refl s12.s) ⟨rfl, rfl, rfl⟩ .nil)
end
end L2
namespace L2
open PySem PySem.Spec PyProof.Rows
theorem ps_lcset {X : Cx} {elt tg iter : Expr} {ifs : List Expr} {sc : Scope} {cl : List (Str × Addr)} {own : List Str} {fr : List Nat} {pos spos py : Pos} {wi : TI} {g : TG} {tt : TT} {te : TE} {y0 : Str} {j0 : Nat}
    (L : LcScope X sc cl fr) (hc : X.calm = true) (hi : PI X tg iter wi)
    (hg : ∀ C s H ex pn, PG (cxLc X own fr sc cl C s H ex pn) tg g)
    (ht : ∀ C s H ex pn (pins : List (Addr × Obj)) (s1 : Shared) (σ1 : St) (H1 : Hp) (Q : Bool → Hp → Prop), Inv (cxLc X own fr sc cl C s H ex pn) pins σ1 H1 s1 → tt σ1 H1 Q →
      wpAny (model X.prog X.w) X.A (lcTests ifs (compEnvC sc (cellsFrom (C + 1) sc.names cl) C X.env)) (TP (cxLc X own fr sc cl C s H ex pn) pins σ1 Q) NoX s1)
    (he : ∀ C s H ex pn, PE (cxLc X own fr sc cl C s H ex pn) elt te) (hN0 : X.N.Nodup) (hj0 : X.N[j0]? = some y0) (hx0 : Loc X.env.scope y0)
    (hsw : swapsWith (.ListComp elt [⟨tg, iter, ifs, 0⟩] sc pos) (some (.Name y0 py)) spos.line X.env = pure true) (hf0 : X.fn y0 = true ∨ X.env.scope.names.lookup y0 = some .local) (hs : ∀ x, foldedSetIterable iter X.env x = pure x := by intro _; rfl) :
    PS X (.Assign [.Name y0 py] (.ListComp elt [⟨tg, iter, ifs, 0⟩] sc pos) spos) (tAsg (tLc wi g tt te own fr) (gName j0)) := by
  intro pins s σ H D I h
  rw [exec_Assign_Name_used _ _ _ _ hsw]
  refine wpAny_bind (wpAny_standAt (wpAny_bind ?_))
  show wpAny _ X.A (do let _ ← comprehension (.ListComp elt [⟨tg, iter, ifs, 0⟩] sc pos) sc X.env _ (newList []) false (eval iter X.env) (some (assign (.Name y0 py) X.env))) _ _ s
  refine wpAny_bind (wpAny_mono (wpAny_comprehension_free (use := some (assign (.Name y0 py) X.env)) (Q := fun _ s' => SP X pins D .next s') rfl hs L.clos L.kind L.names (thn (hi pins s σ H _ I h) fun v s1 h1 => thn h1 fun itv s2 h2 => ?_)) (fun _ s' hq => wpAny_pure (wpAny_pure hq)) fun _ _ e => e)
  obtain ⟨it, fp, tn, J, H2, e, I2, T, st2, f2, h2⟩ := h2
  subst e
  refine wpAny_newObj_type ?_
  have I3 : Inv X pins σ (upd H2 s2.heap.objs.size (.lst [])) { s2 with heap := s2.heap.push { cls := .type "list", data := .seq ([] : List Value).toArray } } := I2.lnew (t' := s2.toks) .nil (Nat.zero_le _)
  have n2 : H2 s2.heap.objs.size = none := I2.fresh
  obtain ⟨W, ⟨m0, w0⟩, turn⟩ := h2 _ n2
  have lt2 : ∀ b ∈ fp, b < s2.heap.objs.size := fun b hb => by
    obtain ⟨o, eo, _⟩ := T.obj 0 _ st2 b hb
    exact Heap.lt_size eo
  have fp3 : ∀ b ∈ fp, FpOk X pins (upd H2 s2.heap.objs.size (.lst [])) b := fun b hb => ⟨by rw [upd_ne (Nat.ne_of_lt (lt2 b hb))]; exact (f2 b hb).1, (f2 b hb).2⟩
  generalize hs3 : ({ s2 with heap := s2.heap.push { cls := .type "list", data := .seq ([] : List Value).toArray } } : Shared) = s3 at I3
  have st3 : tn 0 s3.heap := by
    rw [← hs3]
    exact T.keep 0 _ _ st2 fun b hb o eo => Heap.get?_push_of_some _ eo
  have lt3 : ∀ b ∈ fp, b < s3.heap.objs.size := fun b hb => by
    obtain ⟨o, eo, _⟩ := T.obj 0 _ st3 b hb
    exact Heap.lt_size eo
  generalize hH3 : upd H2 s2.heap.objs.size (.lst []) = H3 at I3 fp3 w0
  generalize s2.heap.objs.size = acc at turn w0 hH3 ⊢
  refine newEnv_cells ?_
  have hns : (pushCells (s3.heap.push { cls := .type "dict", data := .dict #[] }) sc.names).Ns s3.heap.objs.size fun _ => none := (Heap.Ns.new s3.heap (.type "dict")).keeps (pushCells_keeps _ _)
  have kp : ∀ b o, s3.heap.get? b = some o → (pushCells (s3.heap.push { cls := .type "dict", data := .dict #[] }) sc.names).get? b = some o := fun b o eo => pushCells_keeps _ _ b o (Heap.get?_push_of_some _ eo)
  have ncl : ∀ y c, (cellsFrom (s3.heap.objs.size + 1) sc.names cl).lookup y = some c → cl.lookup y = some c ∨ (pushCells (s3.heap.push { cls := .type "dict", data := .dict #[] }) sc.names).IsCell c none := fun y c e =>
    cf_cell sc.names (s3.heap.push { cls := .type "dict", data := .dict #[] }) cl y c (by rw [Heap.size_push]; exact e)
  generalize hh4 : pushCells (s3.heap.push { cls := .type "dict", data := .dict #[] }) sc.names = h4 at hns kp ncl
  have I4 := lcInv (own := own) (tk := s3.toks) L I3 fp3 lt3 hns kp ncl
  have st4 : tn 0 h4 := T.keep 0 _ _ st3 fun b hb o eo => kp b o eo
  have stat : ∀ {H' : Hp}, (∀ b ∈ fp, H' b = none) → ∀ b ∈ fp, FpOk (cxLc X own fr sc cl s3.heap.objs.size s3 H3 fp (X.pn ++ pins)) [] H' b := fun {H'} hn b hb =>
    ⟨hn b hb, Nat.ne_of_lt (lt3 b hb), fun z => (List.mem_cons.mp (I3.stkSub b z)).elim (fp3 b hb).2.1 (fp3 b hb).2.2.1, .inl hb, fun y c e => (cf_lookup _ _ _ y c e).elim (fun q => (fp3 b hb).2.2.2.2.1 y c (L.sub y c q)) fun q => Nat.ne_of_gt (Nat.lt_of_lt_of_le (lt3 b hb) (Nat.le_of_succ_le q.1)), fun p hp => (fp3 b hb).2.2.2.2.2 p (by
      have z : p ∈ (X.pn ++ pins) ++ [] := hp
      simpa using z)⟩
  have loop : codeAny (model X.prog X.w) X.A (.compLoop (.ListComp elt [⟨tg, iter, ifs, 0⟩] sc pos) 0 (.ref it) (.ref acc) (compEnvC sc (cellsFrom (s3.heap.objs.size + 1) sc.names cl) s3.heap.objs.size X.env))
      (compPost (model X.prog X.w) X.A X.xe (some (assign (.Name y0 py) X.env)) (fun _ s' => SP X pins D .next s') (.ref acc) s3.heap.objs.size) { s3 with heap := h4, toks := s3.toks } := by
    refine lcLoop (fun n s' => ∃ i ys σ1 H1, Inv (cxLc X own fr sc cl s3.heap.objs.size s3 H3 fp (X.pn ++ pins)) [] σ1 H1 s' ∧ tn i s'.heap ∧ (∀ b ∈ fp, H1 b = none) ∧ W i n ys σ1 H1) ?_ m0 ⟨0, [], _, H3, I4, st4, fun b hb => (fp3 b hb).1, w0⟩
    rintro n s5 ⟨i, ys, σ5, H5, I5, st5, fr5, w5⟩
    obtain ⟨hacc, hlen, hh⟩ := turn i n ys σ5 H5 w5
    rcases hh with ⟨stop, qn⟩ | ⟨go, N, hN, step⟩
    · refine thn (T.done (cxLc X own fr sc cl s3.heap.objs.size s3 H3 fp (X.pn ++ pins)) rfl rfl rfl hc i [] s5 σ5 H5 NoX I5 (stat fr5) st5 stop) fun r s6 ⟨hr, I6⟩ => ?_
      subst hr
      obtain ⟨m6, ns6, _⟩ := id I6.loc
      have back : ∀ h7, Heap.SameBut s3.heap.objs.size s6.heap h7 → Inv X pins σ H5 { s6 with heap := h7 } := fun h7 sb7 => by
        have old : ∀ b o, s3.heap.get? b = some o → b ≠ s3.heap.objs.size := fun b o eo => Nat.ne_of_lt (Heap.lt_size eo)
        have u6 : Un (frs X.stack) fp H3 H5 s3.heap s6.heap := I6.base
        have u7 : Un (frs X.stack) fp H3 H5 s3.heap h7 :=
          ⟨fun b o eo nn hb hx => (sb7.2 b (old b o eo)).trans (u6.keep b o eo nn hb hx), fun b o eo nn hb hx => by
            obtain ⟨sl, q⟩ := u6.slot b o eo nn hb hx
            exact ⟨sl, (sb7.2 b (old b o eo)).trans q⟩, u6.free, fun b o eo hx => by
            obtain ⟨o', q⟩ := u6.there b o eo hx
            exact ⟨o', (sb7.2 b (old b o eo)).trans q⟩, u6.tups, u6.frzs, u6.tbls⟩
        have fC : H5 s3.heap.objs.size = none := I6.free
        have hok7 : HOk X.prog X.w H5 h7 := fun b ob eb => by
          refine (I6.hok b ob eb).stay (fun c w' hc' q => (sb7.2 c ?_).trans q) (fun _ q => q) fun _ _ q => q
          rintro rfl
          rcases hc' with z | z
          · rw [← z, fC] at eb; cases eb
          · rw [fC] at z; cases z
        exact I3.call' (s' := { s6 with heap := h7 }) I6.os u7 hok7 I6.bare fun b hb => ⟨(fp3 b hb).2.2.2.1, (fp3 b hb).2.1, (fp3 b hb).2.2.2.2.1, (fp3 b hb).2.2.2.2.2⟩
      have fC0 : H5 s3.heap.objs.size = none := I6.free
      show wpAny _ _ (assign (.Name y0 py) X.env (.ref acc)) _ X.xe s6
      refine wpAny_assign_Name (store_ok2 (v := .ref acc) (back s6.heap (Heap.SameBut.refl ..)) hN0 hj0 hx0 rfl (fun s7 I7 ⟨a, sb, ha⟩ => ?_) hf0)
      have aC : s3.heap.objs.size ≠ a := by
        rcases ha with rfl | ha
        · exact Nat.ne_of_gt I3.lt
        · obtain ⟨v0, q0⟩ := I3.cell y0 a ha
          exact Nat.ne_of_gt q0.lt
      refine ⟨m6, ns6.sameBut sb aC, fun h8 sb8 => ⟨_, H5, ?_, qn⟩⟩
      exact Inv.turnedL (t' := s7.toks) (fs := [s3.heap.objs.size]) I7 (fun b o hb e => (sb8.2 b (fun z => hb (by rw [z]; exact .head _))).trans e) (fun b hb => by
        rw [List.mem_singleton.mp hb]
        exact I3.fpOk (H' := H5) (Nat.le_refl _) fC0)
    · refine thn (T.item (cxLc X own fr sc cl s3.heap.objs.size s3 H3 fp (X.pn ++ pins)) rfl rfl rfl hc i [] s5 σ5 H5 NoX I5 (stat fr5) st5 go) fun r s6 ⟨u, hr, h6⟩ => ?_
      subst hr
      refine thn h6 fun _ s7 ⟨x, H7, I7, r7, y7, st7, fr7⟩ => ?_
      have I7' := I7.pinned (stat fr7) (T.obj _ _ st7)
      refine thn (hg _ _ _ _ _ _ s7 σ5 H7 x u _ I7' r7 (step x H7 y7)) fun _ s8 ⟨σ8, H8, I8, q8⟩ => ?_
      have again : ∀ {zs : List V} {σ9 : St} {H9 : Hp} {s9 : Shared}, Inv (cxLc X own fr sc cl s3.heap.objs.size s3 H3 fp (X.pn ++ pins)) ([] ++ pinsAt fp s7.heap) σ9 H9 s9 → N zs σ9 H9 →
          ∃ m, m < n ∧ ∃ i ys σ1 H1, Inv (cxLc X own fr sc cl s3.heap.objs.size s3 H3 fp (X.pn ++ pins)) [] σ1 H1 s9 ∧ tn i s9.heap ∧ (∀ b ∈ fp, H1 b = none) ∧ W i m ys σ1 H1 := fun {zs σ9 H9 s9} I9 n9 => by
        obtain ⟨m', hm, w9⟩ := hN zs σ9 H9 n9
        refine ⟨m', hm, i + 1, zs, σ9, H9, I9.unpinned, T.keep _ _ _ st7 fun b hb o e => (I9.pin (b, o) (List.mem_append_right _ (List.mem_append_right _ (mem_pinsAt hb e)))).1, fun b hb => ?_, w9⟩
        obtain ⟨o, e, d⟩ := T.obj _ _ st7 b hb
        exact (I9.pin (b, o) (List.mem_append_right _ (List.mem_append_right _ (mem_pinsAt hb e)))).2.1
      refine thn (ht _ _ _ _ _ _ s8 σ8 H8 _ I8 q8) fun ok s9 ⟨H9, I9, q9⟩ => ?_
      cases ok with
      | false => exact again I9 (by simpa using q9)
      | true =>
        refine thn (he _ _ _ _ _ _ s9 σ8 H9 _ I9 q9) fun z s10 ⟨y, H10, I10, r10, a10, q10⟩ => ?_
        refine thn (mt_append _ s10 σ8 H10 (.ref acc) [y] (.ref acc) [z] (fun _ H' => N (ys ++ [y]) σ8 H') I10 rfl (.cons r10 .nil) ⟨acc, ys, y, rfl, rfl, a10, hlen, q10⟩) fun _ s11 ⟨_, H11, I11, _, q11⟩ => again I11 q11
  rw [← hs3] at loop ⊢
  exact codeAny_compStart_list loop (noX (T.self _ 0 _ _ _ st4 (by rw [hs3]; rw [hs3] at loop; exact loop)))
section
variable {ι : Type} {F : Fam ι} {elt tg iter : Expr} {ifs : List Expr} {sc : Scope} {own : List Str} {fr : List Nat} {cl : ι → List (Str × Addr)} {ρ : En} {t : Tr} {pos spos py : Pos}
theorem ElcS (h : Elc F own fr sc cl elt tg iter ifs ρ t) : ∃ τ, LcV F own fr sc cl elt tg iter ifs τ ∧ ∀ σ G H fp Q, Same G H → OwS F.K G H ρ σ fp → (∀ a ∈ fp, G a = none) → Kv F.K G H t Q → τ σ H Q :=
  let ⟨τ, v, y⟩ := h; ⟨τ, v, fun σ G H fp Q s r _ k => y σ G H Q s r.rpd k⟩
theorem rn_lcG (j : Nat) {x : Str} (h : ∃ τ, LcV F own fr sc cl elt tg iter ifs τ ∧ ∀ σ G H fp Q, Same G H → OwS F.K G H ρ σ fp → (∀ a ∈ fp, G a = none) → Kv F.K G H t Q → τ σ H Q) (L : ∀ i, LcScope (F.cx i) sc (cl i) fr) (hN : ∀ i, (F.cx i).N.Nodup) (hj : Nat.blt j ρ.length = true := by rfl) (hi : ∀ i, (F.cx i).N[j]? = some x := by intro _; rfl)
    (hx : ∀ i, Loc (F.cx i).env.scope x := by intro _; first | exact Or.inl rfl | exact Or.inr rfl) (hsw : ∀ i, swapsWith (.ListComp elt [⟨tg, iter, ifs, 0⟩] sc pos) (some (.Name x py)) spos.line (F.cx i).env = pure true := by intro _; rfl)
    (hf : ∀ i, (F.cx i).fn x = true ∨ (F.cx i).env.scope.names.lookup x = some .local := by intro _; first | exact .inl rfl | exact .inr rfl) (hs : ∀ i x, foldedSetIterable iter (F.cx i).env x = pure x := by intro _ _; rfl) :
    Rn F (.Assign [.Name x py] (.ListComp elt [⟨tg, iter, ifs, 0⟩] sc pos) spos) ρ (.nx (ρ.set j (some t))) := by
  obtain ⟨τ, ⟨wi, g, tt, te, rfl, h1, h2, h3, h4⟩, z⟩ := h
  refine ⟨_, fun i => ps_lcset (cl := cl i) (L i) (F.calm i) (h1 i) (fun C s H ex pn => h2 (i, ⟨C, s, H, ex, pn⟩)) (fun C s H ex pn => h3 (i, ⟨C, s, H, ex, pn⟩)) (fun C s H ex pn => h4 (i, ⟨C, s, H, ex, pn⟩)) (hN i) (hi i) (hx i) (hsw i) (hf i) (hs i), fun D σ G0 H0 G H r k => ?_⟩
  obtain ⟨fp, r⟩ := r
  exact z σ G H fp _ r.st.s r.own r.g fun v G1 H1 fq s1 o w => k _ G1 H1 (r.set (Nat.le_of_ble_eq_true hj) s1 o w)
theorem Elc.as {d : Dv} (h : Elc F own fr sc cl elt tg iter ifs ρ t) (e : er t = d) : Elc F own fr sc cl elt tg iter ifs ρ (.fz d) := by
  obtain ⟨τ, v, q⟩ := h
  refine ⟨τ, v, fun σ G H Q s r k => q σ G H Q s r fun v G' H' fq st o w => ?_⟩
  exact k v (frzd G' H' fq) H' [] (st.frz w) ⟨rfl, e ▸ o.hv (frzd_same w.g) fun a ha => frzd_in ha⟩ .nil
theorem Elc.to {t' : Tr} (h : Elc F own fr sc cl elt tg iter ifs ρ t) (e : t = t') : Elc F own fr sc cl elt tg iter ifs ρ t' := e ▸ h
end
end L2
namespace L2
open PySem PySem.Spec PyProof.Rows
section
variable {X : Cx}
end
section
variable {ι : Type} {F : Fam ι} {e a b c : Expr} {es : List Expr} {ρ : En} {t ta tb' tc : Tr} {ts : List Tr} {pos : Pos}
theorem hvl_bools {K : PySem.W.Frag} {G : Hp} : ∀ {bs : List Bool} {vs : List V}, HvL K G (bs.map db) vs → vs = bs.map V.bl
  | [], _, h => h
  | _ :: _, _, ⟨x, r, h1, h2, h3⟩ => by subst h1; rw [hvi h2, hvl_bools h3]; rfl
theorem ev_all {bs : List Bool} (hm : F.mg "all" = none) (ha : Ev F e ρ ta) (ea : er ta = .lst (bs.map db)) {p' : Pos} (hg : ∀ i, Gl (F.cx i) "all" := by intro _; rfl)
    (hs : ∀ i, starEach [e] (F.cx i).env = [(false, eval e (F.cx i).env)] := by intro _; rfl) : Ev F (.Call (.Name "all" p') [e] [] pos) ρ (tb (bs.all id)) :=
  ev_callB (r := rAll F.K) (fun i => F.hK i ▸ call_all (F.calm i)) hm bt_all (eva_cons ha eva_nil hs) (fun G H vs Q s hx k => by
    obtain ⟨x, rfl, hxx⟩ := hvl1 hx
    replace hx := hxx
    rw [ea] at hx
    obtain ⟨l, ys, rfl, h1, h2⟩ := hx
    have := hvl_bools h2
    subst this
    exact ⟨l, bs, rfl, s.seq h1, k.sc s rfl⟩) hg (by decide) (by decide) hs (fun _ => rfl)
theorem map_range_get {α β : Type} (l : List α) (d : α) (f : α → β) : (List.range l.length).map (fun k => f ((l[k]?).getD d)) = l.map f := by
  refine List.ext_getElem? fun i => ?_
  rw [List.getElem?_map, List.getElem?_map]
  rcases Nat.lt_or_ge i l.length with h | h
  · rw [List.getElem?_range h, List.getElem?_eq_getElem h]
    show some (f ((l[i]?).getD d)) = _
    rw [List.getElem?_eq_getElem h]
    rfl
  · rw [List.getElem?_eq_none (by simpa using h), List.getElem?_eq_none h]
    rfl
theorem ers_fz : ∀ ds : List Dv, ers (ds.map .fz) = ds
  | [] => rfl
  | d :: ds => by show d :: ers (ds.map .fz) = _; rw [ers_fz ds]
theorem er_fzs (ds : List Dv) : er (.ow (ds.map .fz)) = .lst ds := by show Dv.lst _ = _; rw [ers_fz]
theorem Ev.to {t' : Tr} (h : Ev F e ρ t) (q : t = t') : Ev F e ρ t' := q ▸ h
theorem EvS.to {t' : Tr} (h : EvS F e ρ t) (q : t = t') : EvS F e ρ t' := q ▸ h
theorem rn_ifT {A B : List Stmt} {o : Out} {p : Bool} (hc : EtS F c ρ p) (hp : p = true) (h1 : Rns F A ρ o) : Rn F (.If c A B pos) ρ o := rn_if hc (fun _ => h1) fun h => by rw [hp] at h; cases h
theorem rn_ifF {A B : List Stmt} {o : Out} {p : Bool} (hc : EtS F c ρ p) (hp : p = false) (h1 : Rns F B ρ o) : Rn F (.If c A B pos) ρ o := rn_if hc (fun h => by rw [hp] at h; cases h) fun _ => h1
theorem rn_skip {A : List Stmt} {p : Bool} (hc : EtS F c ρ p) (hp : p = false) : Rn F (.If c A [] pos) ρ (.nx ρ) := rn_ifF hc hp rns_nil
def rLaw (dd : List Dv) (t : Tr) : Prop := ∃ ns : List Int, ns.length ≤ 63 ∧ dd = [dis ns] ∧ t = tb true
def spLaw (K : PySem.W.Frag) : Sp := fun vs H Q _ => ∃ (a : Addr) (ns : List Int), vs = [.ref a] ∧ SqL K H a (ns.map V.int) ∧ ns.length ≤ 63 ∧ ∀ H', Q (.bl true) H'
theorem law_ok {P : Program} {w : World} {K : PySem.W.Frag} {mg : Str → Option Value} {base : Heap} {k : Nat} {f : Addr} {fd : FuncData} (F : FnOk P w K mg base CX0 k f fd ["_law_script"] (spT K rLaw)) : FnOk P w K mg base CX0 k f fd ["_law_script"] (spLaw K) :=
  F.imp fun vs H Q E ⟨a, ns, e, h1, h2, h3⟩ => ⟨H, [dis ns], tb true, Same.refl _, ⟨.ref a, [], e, ⟨a, _, rfl, h1, ints_hvl⟩, rfl⟩, ⟨ns, h2, rfl, rfl⟩, fun v G' H' fq st o w => by rw [hvi o.2]; exact h3 H'⟩
end
end L2
namespace Fra
def gc (a b : Int) : Int := (Int.gcd a b : Int)
theorem gc_pos {a b : Int} (h : b ≠ 0) : 0 < gc a b := by
  have : 0 < Int.gcd a b := Int.gcd_pos_of_ne_zero_right _ h
  unfold gc; omega
theorem gc_dvd_l (a b : Int) : gc a b ∣ a := Int.gcd_dvd_left ..
theorem gc_dvd_r (a b : Int) : gc a b ∣ b := Int.gcd_dvd_right ..
theorem gc_zero (a : Int) : gc a 0 = (a.natAbs : Int) := by unfold gc; rw [Int.gcd_zero_right]
theorem gc_step (a : Int) {b : Int} : gc b (a % b) = gc a b := by
  unfold gc
  congr 1
  apply Nat.dvd_antisymm
  · refine Int.dvd_gcd ?_ (Int.gcd_dvd_left ..)
    have h1 : (↑(Int.gcd b (a % b)) : Int) ∣ b := Int.gcd_dvd_left ..
    have h2 : (↑(Int.gcd b (a % b)) : Int) ∣ a % b := Int.gcd_dvd_right ..
    have := Int.dvd_add (Int.dvd_trans h1 (Int.dvd_mul_right b (a / b))) h2
    rwa [Int.mul_ediv_add_emod] at this
  · refine Int.dvd_gcd (Int.gcd_dvd_right ..) ?_
    have h1 : (↑(Int.gcd a b) : Int) ∣ a := Int.gcd_dvd_left ..
    have h2 : (↑(Int.gcd a b) : Int) ∣ b := Int.gcd_dvd_right ..
    rw [Int.emod_def]
    exact Int.dvd_sub h1 (Int.dvd_trans h2 (Int.dvd_mul_right b (a / b)))
theorem gc_abs (a b : Int) : gc (a.natAbs : Int) (b.natAbs : Int) = gc a b := by
  unfold gc; simp [Int.gcd]
theorem gc_le_r {a b : Int} (h : 0 < b) : gc a b ≤ b := Int.le_of_dvd h (gc_dvd_r a b)
def lT (t b : Int) : Int := (if b < 0 then -t else t) / gc t b
def lB (t b : Int) : Int := (b.natAbs : Int) / gc t b
theorem lT_pos {t b : Int} (h : 0 < b) : lT t b = t / gc t b := by unfold lT; rw [if_neg (by omega)]
theorem lB_pos {t b : Int} (h : 0 < b) : lB t b = b / gc t b := by unfold lB; rw [show (b.natAbs : Int) = b by omega]
theorem lT_mul (t b : Int) : lT t b * gc t b = if b < 0 then -t else t := by
  unfold lT
  refine Int.ediv_mul_cancel ?_
  split
  · exact Int.dvd_neg.mpr (gc_dvd_l t b)
  · exact gc_dvd_l t b
theorem lB_mul (t b : Int) : lB t b * gc t b = (b.natAbs : Int) := by
  unfold lB
  refine Int.ediv_mul_cancel ?_
  exact Int.dvd_natAbs.mpr (gc_dvd_r t b)
theorem lB_ge {t b : Int} (h : b ≠ 0) : 1 ≤ lB t b := by
  have h1 := lB_mul t b
  have h2 := gc_pos (a := t) h
  have h3 : 0 < lB t b := Int.pos_of_mul_pos_left (by rw [h1]; omega) h2
  omega
theorem lB_le {t b : Int} (h : b ≠ 0) : lB t b ≤ (b.natAbs : Int) := by
  unfold lB
  exact Int.ediv_le_self _ (by omega)
theorem lT_abs {t b : Int} (h : b ≠ 0) : (lT t b).natAbs ≤ t.natAbs := by
  have h1 := lT_mul t b
  have h2 := gc_pos (a := t) h
  have h3 : (lT t b * gc t b).natAbs = t.natAbs := by rw [h1]; split <;> omega
  rw [Int.natAbs_mul] at h3
  have h4 : 1 ≤ (gc t b).natAbs := by omega
  calc (lT t b).natAbs = (lT t b).natAbs * 1 := by omega
    _ ≤ (lT t b).natAbs * (gc t b).natAbs := Nat.mul_le_mul_left _ h4
    _ = t.natAbs := h3
theorem l_cross {t b : Int} (h : b ≠ 0) : lT t b * b = t * lB t b := by
  have h1 := lT_mul t b
  have h2 := lB_mul t b
  have h3 := gc_pos (a := t) h
  apply Int.eq_of_mul_eq_mul_right (a := gc t b) (by omega)
  by_cases hb : b < 0
  · rw [if_pos hb] at h1
    have h4 : lB t b * gc t b = -b := by omega
    grind
  · rw [if_neg hb] at h1
    have h4 : lB t b * gc t b = b := by omega
    grind
theorem l_coprime {t b : Int} (h : b ≠ 0) : Int.gcd (lT t b) (lB t b) = 1 := by
  have h1 := lT_mul t b
  have h2 := lB_mul t b
  have h3 := gc_pos (a := t) h
  have hd1 : ((Int.gcd (lT t b) (lB t b) : Int)) ∣ lT t b := Int.gcd_dvd_left ..
  have hd2 : ((Int.gcd (lT t b) (lB t b) : Int)) ∣ lB t b := Int.gcd_dvd_right ..
  have e1 : ((Int.gcd (lT t b) (lB t b) : Int)) * gc t b ∣ t := by
    have := Int.mul_dvd_mul hd1 (Int.dvd_refl (gc t b))
    rw [h1] at this
    split at this
    · exact Int.dvd_neg.mp this
    · exact this
  have e2 : ((Int.gcd (lT t b) (lB t b) : Int)) * gc t b ∣ b := by
    have := Int.mul_dvd_mul hd2 (Int.dvd_refl (gc t b))
    rw [h2] at this
    exact Int.dvd_natAbs.mp this
  have e3 : ((Int.gcd (lT t b) (lB t b) : Int)) * gc t b ∣ gc t b := Int.dvd_coe_gcd e1 e2
  have e4 := Int.le_of_dvd h3 e3
  have e5 : 0 < Int.gcd (lT t b) (lB t b) := Int.gcd_pos_of_ne_zero_right _ (by have := lB_ge (t := t) h; omega)
  by_cases hh : Int.gcd (lT t b) (lB t b) = 1
  · exact hh
  · have e6 : (2 : Int) ≤ ((Int.gcd (lT t b) (lB t b) : Nat) : Int) := by omega
    have : 2 * gc t b ≤ ((Int.gcd (lT t b) (lB t b) : Nat) : Int) * gc t b := Int.mul_le_mul_of_nonneg_right e6 (by omega)
    omega
theorem l_unique {t b p q : Int} (hb : b ≠ 0) (hq : 0 < q) (hg : Int.gcd p q = 1) (h : p * b = t * q) : p = lT t b ∧ q = lB t b := by
  have c := l_cross (t := t) hb
  have g := l_coprime (t := t) hb
  have k := lB_ge (t := t) hb
  have e : p * lB t b = lT t b * q := by
    apply Int.eq_of_mul_eq_mul_right (a := b) hb
    grind
  have d1 : q ∣ lB t b := by
    have z : q ∣ p * lB t b := by rw [e]; exact Int.dvd_mul_left _ _
    have z' : q.natAbs ∣ p.natAbs * (lB t b).natAbs := by rw [← Int.natAbs_mul]; exact Int.natAbs_dvd_natAbs.mpr z
    have cp : Nat.Coprime q.natAbs p.natAbs := by
      have : Int.gcd q p = 1 := by rw [Int.gcd_comm]; exact hg
      exact this
    exact Int.natAbs_dvd_natAbs.mp (cp.dvd_of_dvd_mul_left z')
  have d2 : lB t b ∣ q := by
    have z : lB t b ∣ lT t b * q := by rw [← e]; exact Int.dvd_mul_left _ _
    have z' : (lB t b).natAbs ∣ (lT t b).natAbs * q.natAbs := by rw [← Int.natAbs_mul]; exact Int.natAbs_dvd_natAbs.mpr z
    have cp : Nat.Coprime (lB t b).natAbs (lT t b).natAbs := by
      have : Int.gcd (lB t b) (lT t b) = 1 := by rw [Int.gcd_comm]; exact g
      exact this
    exact Int.natAbs_dvd_natAbs.mp (cp.dvd_of_dvd_mul_left z')
  have eq : q = lB t b := Int.dvd_antisymm (by omega) (by omega) d1 d2
  refine ⟨?_, eq⟩
  rw [← eq] at e
  exact Int.eq_of_mul_eq_mul_right (a := q) (by omega) e
theorem l_eq {t b t' b' : Int} (hb : b ≠ 0) (hb' : b' ≠ 0) (h : t * b' = t' * b) : lT t b = lT t' b' ∧ lB t b = lB t' b' := by
  refine l_unique hb' (by have := lB_ge (t := t) hb; omega) (l_coprime hb) ?_
  have c := l_cross (t := t) hb
  apply Int.eq_of_mul_eq_mul_right (a := b) hb
  grind
end Fra
namespace Fra
def lc (m b : Int) : Int := m * b / gc m b
theorem lc_eq {m b : Int} (hm : 0 < m) (hb : 0 < b) : lc m b = (Int.lcm m b : Int) := by
  unfold lc gc
  have h := Int.gcd_mul_lcm m b
  have g0 : 0 < Int.gcd m b := Int.gcd_pos_of_ne_zero_right _ (by omega)
  have e : m * b = (Int.gcd m b : Int) * (Int.lcm m b : Int) := by
    have h2 : ((m.gcd b * m.lcm b : Nat) : Int) = ((m.natAbs * b.natAbs : Nat) : Int) := by rw [h]
    rw [Int.natCast_mul, Int.natCast_mul] at h2
    rw [h2]
    rw [Int.natAbs_of_nonneg (by omega), Int.natAbs_of_nonneg (by omega)]
  rw [e, Int.mul_ediv_cancel_left _ (by omega)]
theorem lc_pos {m b : Int} (hm : 0 < m) (hb : 0 < b) : 0 < lc m b := by
  rw [lc_eq hm hb]
  have : 0 < Int.lcm m b := Int.lcm_pos (by omega) (by omega)
  omega
theorem lc_l {m b : Int} (hm : 0 < m) (hb : 0 < b) : m ∣ lc m b := by rw [lc_eq hm hb]; exact Int.dvd_lcm_left ..
theorem lc_r {m b : Int} (hm : 0 < m) (hb : 0 < b) : b ∣ lc m b := by rw [lc_eq hm hb]; exact Int.dvd_lcm_right ..
theorem lc_least {m b n : Int} (hm : 0 < m) (hb : 0 < b) (h1 : m ∣ n) (h2 : b ∣ n) : lc m b ∣ n := by
  rw [lc_eq hm hb]
  have := Int.lcm_dvd (a := m) (b := b) (c := n.natAbs) (Int.dvd_natAbs.mpr h1) (Int.dvd_natAbs.mpr h2)
  exact Int.dvd_natAbs.mp (Int.natCast_dvd_natCast.mpr this)
def lcF (m : Int) (bs : List Int) : Int := bs.foldl lc m
theorem lcF_pos : ∀ {bs : List Int} {m : Int}, 0 < m → (∀ b ∈ bs, 0 < b) → 0 < lcF m bs
  | [], _, h, _ => h
  | b :: bs, m, h, hb => lcF_pos (bs := bs) (lc_pos h (hb b (.head _))) fun c hc => hb c (.tail _ hc)
theorem lcF_dvd : ∀ {bs : List Int} {m : Int}, 0 < m → (∀ b ∈ bs, 0 < b) → m ∣ lcF m bs ∧ ∀ b ∈ bs, b ∣ lcF m bs
  | [], m, _, _ => ⟨Int.dvd_refl _, fun _ h => nomatch h⟩
  | c :: bs, m, h, hb => by
    have hc := hb c (.head _)
    obtain ⟨h1, h2⟩ := lcF_dvd (bs := bs) (lc_pos h hc) fun x hx => hb x (.tail _ hx)
    refine ⟨Int.dvd_trans (lc_l h hc) h1, fun b hbm => ?_⟩
    rcases List.mem_cons.mp hbm with rfl | hbm
    · exact Int.dvd_trans (lc_r h hc) h1
    · exact h2 b hbm
theorem lcF_least : ∀ {bs : List Int} {m n : Int}, 0 < m → (∀ b ∈ bs, 0 < b) → m ∣ n → (∀ b ∈ bs, b ∣ n) → lcF m bs ∣ n
  | [], _, _, _, _, h, _ => h
  | c :: bs, m, n, h, hb, h1, h2 => lcF_least (bs := bs) (lc_pos h (hb c (.head _))) (fun x hx => hb x (.tail _ hx)) (lc_least h (hb c (.head _)) h1 (h2 c (.head _))) fun x hx => h2 x (.tail _ hx)
theorem lcF_append (m : Int) (bs : List Int) (b : Int) : lcF m (bs ++ [b]) = lc (lcF m bs) b := by unfold lcF; rw [List.foldl_append]; rfl
end Fra
namespace L2
open PySem PySem.Spec PyProof.Rows
theorem rng_get {lo : Int} {n j : Nat} {d : Dv} (h : (rngD lo n)[j]? = some d) : j < n ∧ d = di (lo + (j : Int)) := by
  rw [List.getElem?_map] at h
  rcases Nat.lt_or_ge j n with hj | hj
  · rw [List.getElem?_range hj] at h; cases h; exact ⟨hj, rfl⟩
  · rw [List.getElem?_eq_none (by simpa using hj)] at h; cases h
theorem map_get {α β : Type} {f : α → β} {l : List α} {j : Nat} {d : β} (h : (l.map f)[j]? = some d) : ∃ x, l[j]? = some x ∧ d = f x := by
  rw [List.getElem?_map] at h
  cases q : l[j]? with
  | none => rw [q] at h; cases h
  | some x => rw [q] at h; cases h; exact ⟨x, rfl, rfl⟩
theorem take_get {α : Type} {l : List α} {i : Nat} {x : α} (h : l[i]? = some x) : l.take (i + 1) = l.take i ++ [x] := by rw [List.take_succ, h]; rfl
theorem Rns.fg {ι : Type} {F : Fam ι} {sts : List Stmt} {ρ ρ1 ρ2 : En} (h : Rns F sts ρ (.nx ρ1)) (f : Fg ρ1 ρ2) : Rns F sts ρ (.nx ρ2) := by
  obtain ⟨τ, x, y⟩ := h
  exact ⟨τ, x, fun D σ G0 H0 G H r k => y D σ G0 H0 G H r fun σ' G' H' r' => k σ' G' H' (f.rs r')⟩
theorem rns_while_by {ι : Type} {F : Fam ι} {sts body : List Stmt} {ρ : En} {o : Out} {c : Expr} {pos : Pos} {α : Type} (S : α → En) (Pp : α → Prop) (p : α → Bool) (μ : α → Nat) (a0 : α) (e : S a0 = ρ) (h0 : Pp a0) (hc : ∀ a, Pp a → EtS F c (S a) (p a)) (hb : ∀ a, Pp a → p a = true → ∃ a', Pp a' ∧ μ a' < μ a ∧ Rns F body (S a) (.nx (S a')))
    (fin : ∀ a, Pp a → p a = false → Rns F sts (S a) o) (hx : ∀ i, (F.cx i).xe = NoX := by intro _; rfl) : Rns F (.While c body [] pos :: sts) ρ o := by
  subst e
  obtain ⟨a', h1, h2, h3⟩ := rn_while_by S Pp p μ hc hb a0 h0 hx
  exact rns_cons h3 (fin a' h1 h2)
def cellF (ns : List Int) (k : Int) : Int := ns.getD k.toNat 0
theorem cell_in {ns : List Int} {k : Int} (h0 : 0 ≤ k) (h : k < ns.length) : atI (ns.map di) k = some (di (cellF ns k)) := by
  obtain ⟨j, rfl⟩ : ∃ j : Nat, k = (j : Int) := ⟨k.toNat, by omega⟩
  have hj : j < ns.length := by omega
  refine atI_nat ?_
  unfold cellF
  rw [List.getElem?_map, List.getElem?_eq_getElem hj, List.getD_eq_getElem?_getD, show (j : Int).toNat = j by omega, List.getElem?_eq_getElem hj]
  rfl
theorem cell_out {ns : List Int} {k : Int} (h0 : 0 ≤ k) (h : ns.length ≤ k) : cellF ns k = 0 := by
  unfold cellF
  rw [List.getD_eq_getElem?_getD, List.getElem?_eq_none (by omega)]
  rfl
theorem cutD_map {α β : Type} (f : α → β) (l : List α) (a b : Option Int) : cutD (l.map f) a b = (cutD l a b).map f := by
  unfold cutD
  rw [List.length_map, List.map_take, List.map_drop]
mutual
def okD : Dv → Bool
  | .fl v => flatV v
  | .lst ds => okDs ds
  | .tup ds => okDs ds
def okDs : List Dv → Bool
  | [] => true
  | d :: ds => okD d && okDs ds
end
mutual
theorem eqD_refl : ∀ {d : Dv}, okD d = true → eqD d d = true
  | .fl v, h => eqV_refl h
  | .lst ds, h => eqDs_refl h
  | .tup ds, h => eqDs_refl h
theorem eqDs_refl : ∀ {ds : List Dv}, okDs ds = true → eqDs ds ds = true
  | [], _ => rfl
  | d :: ds, h => by
    have h' : (okD d && okDs ds) = true := h
    rw [Bool.and_eq_true] at h'
    show (eqD d d && eqDs ds ds) = true
    rw [eqD_refl h'.1, eqDs_refl h'.2]
    rfl
end
theorem okDs_map {α : Type} {f : α → Dv} (h : ∀ a, okD (f a) = true) : ∀ l : List α, okDs (l.map f) = true
  | [] => rfl
  | a :: l => by
    show (okD (f a) && okDs (l.map f)) = true
    rw [h a, okDs_map h l]
    rfl
theorem dpDs_le {n : Nat} : ∀ {ds : List Dv}, (∀ d ∈ ds, dpD d ≤ n) → dpDs ds ≤ n
  | [], _ => Nat.zero_le _
  | d :: ds, h => by
    show max (dpD d) (dpDs ds) ≤ n
    exact Nat.max_le.mpr ⟨h d (.head _), dpDs_le fun x hx => h x (.tail _ hx)⟩
theorem okD_dis (l : List Int) : okD (dis l) = true := okDs_map (fun _ => rfl) l
theorem dpD_dis (l : List Int) : dpD (dis l) ≤ 1 := by
  show dpDs _ + 1 ≤ 1
  have : dpDs (l.map di) ≤ 0 := dpDs_le fun d hd => by
    obtain ⟨_, _, rfl⟩ := List.mem_map.mp hd
    exact Nat.le_refl _
  omega
theorem dpD_lst {n : Nat} {ds : List Dv} (h : ∀ d ∈ ds, dpD d ≤ n) : dpD (.lst ds) ≤ n + 1 := Nat.succ_le_succ (dpDs_le h)
theorem dpD_tup {n : Nat} {ds : List Dv} (h : ∀ d ∈ ds, dpD d ≤ n) : dpD (.tup ds) ≤ n + 1 := Nat.succ_le_succ (dpDs_le h)
theorem okD_lst {α : Type} {f : α → Dv} (h : ∀ a, okD (f a) = true) (l : List α) : okD (.lst (l.map f)) = true := okDs_map h l
end L2
namespace L2
open PySem PySem.Spec PyProof.Rows
theorem OwL.setAt {K : PySem.W.Frag} {G H : Hp} : ∀ {us : List Tr} {vs : List V} {fq : List Addr} {m : Nat} {t : Tr} {v : V} {f : List Addr}, OwL K G H us vs fq → m < us.length → Ow K G H t v f → fq.Nodup → f.Nodup → (∀ a ∈ f, a ∉ fq) →
    ∃ fw, OwL K G H (us.set m t) (vs.set m v) fw ∧ fw.Nodup ∧ ∀ a ∈ fw, a ∈ fq ∨ a ∈ f
  | u :: us, _, _, 0, t, v, f, ⟨w, r, f1, f2, h1, h2, h3, h4⟩, _, o, nd, nf, dj => by
    subst h1 h2
    have nda := List.nodup_append.mp nd
    refine ⟨f ++ f2, ⟨v, r, f, f2, rfl, rfl, o, h4⟩, List.nodup_append.mpr ⟨nf, nda.2.1, fun a ha b hb e => dj a ha (e ▸ List.mem_append_right _ hb)⟩, fun a ha => ?_⟩
    rcases List.mem_append.mp ha with z | z
    · exact .inr z
    · exact .inl (List.mem_append_right _ z)
  | u :: us, _, _, m + 1, t, v, f, ⟨w, r, f1, f2, h1, h2, h3, h4⟩, hm, o, nd, nf, dj => by
    subst h1 h2
    have nda := List.nodup_append.mp nd
    obtain ⟨fw, q1, q2, q3⟩ := OwL.setAt (m := m) h4 (Nat.lt_of_succ_lt_succ hm) o nda.2.1 nf fun a ha z => dj a ha (List.mem_append_right _ z)
    refine ⟨f1 ++ fw, ⟨w, _, f1, fw, rfl, rfl, h3, q1⟩, List.nodup_append.mpr ⟨nda.1, q2, fun a ha b hb e => ?_⟩, fun a ha => ?_⟩
    · subst e
      rcases q3 a hb with z | z
      · exact nda.2.2 a ha a z rfl
      · exact dj a z (List.mem_append_left _ ha)
    · rcases List.mem_append.mp ha with z | z
      · exact .inl (List.mem_append_left _ z)
      · exact (q3 a z).imp (List.mem_append_right _) id
theorem rn_ixset {ι : Type} {F : Fam ι} {e : Expr} {ρ : En} {t : Tr} {pos : Pos} (j : Nat) {x : Str} {us : List Tr} {n : Int} {m : Nat} {nE : Expr} {p1 p2 : Pos} (h : ρ[j]? = some (some (.ow us))) (hn : EvS F nE ρ (ti n)) (hm : ixN us.length n = some m) (he : EvS F e ρ t) (hN : ∀ i, (F.cx i).N[j]? = some x := by intro _; rfl)
    (hv : ∀ i, Vis (F.cx i).env.scope x := by intro _; first | exact Or.inl rfl | exact Or.inr (Or.inl rfl) | exact Or.inr (Or.inr rfl)) (hd : (x == ("__debug__" : Str)) = false := by decide) (hc : (x == ("__classdict__" : Str)) = false := by decide)
    (hs : ∀ i, swapsWithSole [.Subscript (.Name x p1) nE p2] e pos.line (F.cx i).env = pure false := by intro _; rfl) (hw : ∀ i, swappedStores [.Subscript (.Name x p1) nE p2] e (F.cx i).env = pure none := by intro _; rfl)
    (h1 : ∀ i, (assignEach [.Subscript (.Name x p1) nE p2] (F.cx i).env).map (·.2) = [assign (.Subscript (.Name x p1) nE p2) (F.cx i).env] := by intro _; rfl)
    (hps : ∀ i, PG (F.cx i) (.Subscript (.Name x p1) nE p2) (gSub (tVar j) (uE F nE) rSetL)) :
    Rn F (.Assign [.Subscript (.Name x p1) nE p2] e pos) ρ (.nx (ρ.set j (some (.ow (us.set m t))))) := by
  obtain ⟨τ, y, z⟩ := he
  obtain ⟨τn, yn, zn⟩ := hn
  refine ⟨tAsg τ (gSub (tVar j) (uE F nE) rSetL), fun i => ps_asg (y i) (hps i) (hs i) (hw i) (h1 i), fun D σ G0 H0 G H r k => ?_⟩
  obtain ⟨fp, r⟩ := r
  refine z σ G H fp _ r.st.s r.own r.g fun v1 G1 H1 f1 s1 o1 w1 => ?_
  have r1 : RSf F.K G0 H0 G1 H1 ρ σ fp := ⟨r.st.trans s1, r.own.mono s1.g s1.h, r.own.off s1 r.g, r.n, r.d⟩
  obtain ⟨l0, vs0, fq0, c1, c2, _⟩ := r1.mut h (.refl r1.st.s)
  refine ⟨_, c1, τn, yn, zn σ G1 H1 fp _ r1.st.s r1.own r1.g fun vn G2 H2 f2 s2 o2 w2 => ?_⟩
  obtain ⟨l, vs, fq, d1, d2, d3, d4, d5, d6, d7⟩ := r.mut h (s1.trans s2)
  rw [c1] at d1
  cases d1
  have hm' : m < us.length := (ixN_seq hm).2.1
  have nf : ∀ a ∈ f1, a ∉ fq := fun a ha hb => by
    obtain ⟨u, hu⟩ := r.own.there a (d6 a hb)
    rw [w1.n a ha] at hu; cases hu
  obtain ⟨fw, q1, q2, q3⟩ := d4.setAt hm' (o1.mono s2.g s2.h) d5 w1.d nf
  refine ⟨l0, vs, n, m, rfl, hvi o2.2, d3, by rw [← d4.length]; exact hm, k σ G2 _ (d7 (us.set m t) (vs.set m v1) fw q1 q2 fun a ha => (q3 a ha).imp id fun z => ⟨w1.n a z, ?_⟩)⟩
  cases q : G2 a with
  | none => rfl
  | some u =>
    obtain ⟨u', hu'⟩ := o1.there a z
    have := s2.n a (w1.g a z) (by rw [q]; exact fun z => nomatch z)
    rw [hu'] at this; cases this
end L2
namespace L2
open PySem PySem.Spec PyProof.Rows
def tRange (ta : TA) : TE := fun σ H Q => ta σ H fun vs H1 => ∃ j : Int, vs = [.int j] ∧ ∀ p, H1 p = none → Q (.ref p) (upd H1 p (.rng 0 j))
section
variable {X : Cx}
theorem pe_range1 {a : Expr} {ta : TA} {p pos : Pos} (hg : Gl X "range") (hm : X.mg "range" = none) (ha : PA X [a] ta) (hs : starEach [a] X.env = [(false, eval a X.env)] := by rfl) : PE X (.Call (.Name "range" p) [a] [] pos) (tRange ta) := by
  intro pins s σ H Q I h
  refine Call_ (ld_blt I hg hm boot_range (PyProof.Rows.callWith_type1 (thn (ha pos pins s σ H _ I h) fun us s1 ⟨vs, H1, I1, r1, q1⟩ => ?_) hs rfl))
  obtain ⟨j, e, q⟩ := q1
  subst e
  cases r1 with
  | cons r rr =>
    cases rr
    obtain ⟨t, rfl⟩ := r
    refine call_range_1 ⟨.ref _, _, I1.laid (t' := s1.toks + 1 + 1) (o := .rng 0 j) (fun b ob q => Heap.get?_push_of_some _ q) (Nat.le_refl _) ?_, rfl, q _ (I1.hok.fresh (Nat.le_refl _))⟩
    exact ⟨_, _, _, Heap.get?_push_size _ rfl⟩
theorem call_list_rng (hc : X.calm = true) : CallR X (.type "list") (fun xs H Q => ∃ p n, xs = [.ref p] ∧ H p = some (.rng 0 n) ∧ 0 ≤ n ∧ n < 2 ^ 20 ∧ ∀ l, H l = none → Q (.ref l) (upd H l (.lst ((List.range n.toNat).map fun i => .int (0 + ((i : Nat) : Int)))))) := by
  intro pins s σ H xs us Q I r h
  obtain ⟨p, n, rfl, hH, h0, h1, q⟩ := h
  obtain ⟨u, rfl, rx⟩ := vals1 r
  cases rx
  obtain ⟨t, u, v, e⟩ := (show ObjOk X.prog X.w H s.heap p (.rng 0 n) from I.hok p _ hH)
  have hsize : Builtin.Range.rangeSize 0 n 1 = (n.toNat : Nat) := by rw [rangeSize_pos (by decide) h0]; omega
  refine call_list_range (n := n.toNat) (I.ok.hd hc) e (step_small h0 (by omega) (by decide) (by decide)) hsize (by omega) fun h' tk acc' c' kp e' it => ?_
  refine ⟨.ref s.heap.objs.size, _, I.laid (t' := tk) (o := .lst ((List.range n.toNat).map fun i => .int (0 + ((i : Nat) : Int)))) kp (Nat.le_refl _) ?_, rfl, q _ (I.hok.fresh (Nat.le_refl _))⟩
  have hs : sizeLine = 16777216 := sizeLine_eq
  refine ⟨by rw [List.length_map, List.length_range]; omega, acc'.toList, c', ?_, by rw [Array.toArray_toList]; exact e'⟩
  obtain ⟨i1, i2⟩ := it
  have gen : ∀ (l : List Value) (k : Nat), (∀ j v, l[j]? = some v → ∃ t, v = Value.int (0 + ((k + j : Nat) : Int)) t) → Vals ((List.range l.length).map fun i => V.int (0 + ((k + i : Nat) : Int))) l := by
    intro l
    induction l with
    | nil => intro k _; exact .nil
    | cons a l ih =>
      intro k hk
      rw [List.length_cons, List.range_succ_eq_map, List.map_cons, List.map_map]
      obtain ⟨t, ht⟩ := hk 0 a rfl
      refine .cons ⟨t, by rw [ht]⟩ ?_
      have := ih (k + 1) (fun j v hj => by
        obtain ⟨t, ht⟩ := hk (j + 1) v hj
        exact ⟨t, by rw [ht, show k + (j + 1) = k + 1 + j by omega]⟩)
      refine (List.map_congr_left fun i _ => ?_) ▸ this
      show V.int (0 + ((k + 1 + i : Nat) : Int)) = V.int (0 + ((k + (i + 1) : Nat) : Int))
      rw [show k + 1 + i = k + (i + 1) by omega]
  have g0 := gen acc'.toList 0 fun j v hj => by
    obtain ⟨t, ht⟩ := i2 j v (by rw [← Array.getElem?_toList]; exact hj)
    refine ⟨t, ?_⟩
    rw [ht, Int.mul_one, Nat.zero_add]
  rw [Array.length_toList, i1] at g0
  have e0 : ((List.range n.toNat).map fun i => V.int (0 + ((0 + i : Nat) : Int))) = (List.range n.toNat).map fun i => V.int (0 + ((i : Nat) : Int)) := List.map_congr_left fun i _ => by rw [Nat.zero_add]
  rw [e0] at g0
  exact g0
def rAny (K : PySem.W.Frag) : List V → Hp → VK → Prop := fun xs H Q => ∃ (p : Addr) (bs : List Bool), xs = [.ref p] ∧ SqL K H p (bs.map V.bl) ∧ Q (.bl (bs.any id)) H
theorem range_any (bs : List Bool) : ((List.range bs.length).any fun i => (bs[i]?).getD false) = bs.any id := by
  have := congrArg (fun l : List Bool => l.any id) (map_range_get bs false id)
  simp only [List.any_map, List.map_id] at this
  exact this
theorem call_any (hc : X.calm = true) : CallR X (.builtin "any") (rAny X.K) := by
  intro pins s σ H xs us Q I r h
  obtain ⟨p, bs, rfl, hq, q⟩ := h
  cases r with
  | cons r1 rr =>
    cases rr
    cases r1
    obtain ⟨its, rv, pl, hz⟩ := I.list hq
    have hb := boolsAre rv
    have hl : s.heap.IsList p its.toArray := pl.isList
    have hlt : p < s.heap.objs.size := by obtain ⟨_, e, _⟩ := hl; exact Heap.lt_size e
    refine call_any_walk (wpAny_pyIter_list hl ?_)
    refine ⟨s.heap.objs.size, [s.heap.objs.size, p], [s.heap.objs.size], its.toArray.size, _, _, fun i => (bs[i]?).getD false, rfl, Walks.list (A := X.A.in1) (I.ok.hd hc) _ p (Nat.ne_of_lt hlt) its.toArray,
      ⟨⟨_, Heap.get?_push_size _ rfl, rfl, rfl⟩, hl.push _⟩, fun i v s' Q' E' hP hQ => ?_, fun h' tk hk => ?_⟩
    · obtain ⟨b, e, rfl⟩ := hb.get i v (by simpa using hP)
      simp only [e, Option.getD_some] at hQ
      exact wpAny_truthy_bool hQ
    · have e : ((List.range its.toArray.size).any fun i => (bs[i]?).getD false) = bs.any id := by
        rw [List.size_toArray, hb.length]; exact range_any bs
      rw [e]
      exact ⟨.bl _, H, I.kept (t' := tk) (LSm.kept_iter hk), rfl, q⟩
def unlike (ns : List Int) : Nat := (firstMet (fun i => ns.getD i 0) ns.length).length
theorem call_set_ints (hc : X.calm = true) : CallR X (.type "set") (fun xs H Q => ∃ (p : Addr) (ns : List Int), xs = [.ref p] ∧ SqL X.K H p (ns.map V.int) ∧ ns.length < 1000 ∧ ∀ l S, H l = none → Q (.ref l) (upd H l (.set S (unlike ns)))) := by
  intro pins s σ H xs us Q I r h
  obtain ⟨p, ns, rfl, hq, hz, q⟩ := h
  obtain ⟨u, rfl, rx⟩ := vals1 r
  cases rx
  obtain ⟨its, rv, pl, _⟩ := I.list hq
  have hi := intsAre_of rv
  have hl := rv.length
  rw [List.length_map] at hl
  refine call_set_list (ns := ns) (I.ok.hd hc) pl.isList (by simpa using hi) (by rw [List.size_toArray, ← hl]; exact Nat.lt_of_lt_of_le (Nat.succ_lt_succ hz) (by decide)) fun h' tk hs kp => ?_
  have hsz : its.toArray.size = ns.length := by rw [List.size_toArray, ← hl]
  rw [hsz] at hs
  exact ⟨.ref s.heap.objs.size, _, I.laid (t' := tk) (o := .set _ (unlike ns)) (fun b o e => kp b o (Heap.lt_size e) e) (Nat.le_refl _) hs, rfl, q _ _ (I.hok.fresh (Nat.le_refl _))⟩
theorem call_len_setI : CallR X (.builtin "len") (fun xs H Q => ∃ p S n, xs = [.ref p] ∧ H p = some (.set S n) ∧ Q (.int n) H) := by
  intro pins s σ H xs us Q I r h
  obtain ⟨p, S, n, rfl, hH, q⟩ := h
  obtain ⟨u, rfl, rx⟩ := vals1 r
  cases rx
  obtain ⟨o, es, ep, t, h1, h2, h3, _, _, h4, h5, h6⟩ := (show ObjOk X.prog X.w H s.heap p (.set S n) from I.hok p _ hH)
  subst h6
  refine call_len_set h1 h2 h3 h5 (by have : es.size < 4096 := h4; omega) ⟨.int _, H, I.tok _, ⟨_, rfl⟩, q⟩
theorem unlike_nodup {ns : List Int} (h : ns.Nodup) : unlike ns = ns.length := by
  have gen : ∀ i, i ≤ ns.length → firstMet (fun i => ns.getD i 0) i = ns.take i := by
    intro i
    induction i with
    | zero => intro _; rw [firstMet_zero]; simp
    | succ i ih =>
      intro hi
      rw [firstMet_succ, ih (by omega)]
      have hx : ns[i]? = some (ns[i]'(by omega)) := List.getElem?_eq_getElem _
      rw [take_get hx]
      have e : ns.getD i 0 = ns[i]'(by omega) := by rw [List.getD_eq_getElem?_getD, hx]; rfl
      show step_dedup (ns.take i) (ns.getD i 0) = _
      rw [e]
      unfold step_dedup
      have : ((ns.take i).any (· == ns[i]'(by omega))) = false := by
        rw [Bool.eq_false_iff]
        intro z
        obtain ⟨y, hy, hyy⟩ := List.any_eq_true.mp z
        have hy' : y = ns[i]'(by omega) := by simpa using hyy
        subst hy'
        obtain ⟨j, hj, hje⟩ := List.mem_iff_getElem.mp hy
        rw [List.getElem_take] at hje
        rw [List.length_take] at hj
        have := (List.getElem_inj (xs := ns) h).mp hje
        omega
      rw [this]
      rfl
  unfold unlike
  rw [gen ns.length (Nat.le_refl _), List.take_length]
end
section
variable {ι : Type} {F : Fam ι} {e a b c : Expr} {es : List Expr} {ρ : En} {t ta tb' : Tr} {ts : List Tr} {pos : Pos}
theorem ints_tr (l : List Int) : (l.map di).map Tr.fz = l.map fun n => Tr.fz (di n) := by rw [List.map_map]; rfl
theorem ev_listrange {n : Int} (hm : F.mg "list" = none) (hm2 : F.mg "range" = none) (ha : Ev F a ρ (ti n)) (h0 : 0 ≤ n) (h1 : n < 2 ^ 20) {p1 p2 pos1 : Pos} (hg : ∀ i, Gl (F.cx i) "list" := by intro _; rfl) (hg2 : ∀ i, Gl (F.cx i) "range" := by intro _; rfl)
    (hs : ∀ i, starEach [a] (F.cx i).env = [(false, eval a (F.cx i).env)] := by intro _; rfl) (hs2 : ∀ i, starEach [.Call (.Name "range" p2) [a] [] pos1] (F.cx i).env = [(false, eval (.Call (.Name "range" p2) [a] [] pos1) (F.cx i).env)] := by intro _; rfl) :
    Ev F (.Call (.Name "list" p1) [.Call (.Name "range" p2) [a] [] pos1] [] pos) ρ (.ow (((List.range n.toNat).map fun i => (0 + ((i : Nat) : Int))).map fun n => .fz (di n))) := by
  obtain ⟨τ, p, q⟩ := ha.use
  refine ⟨_, fun i => pe_callTy (call_list_rng (F.calm i)) (hg i) ((F.hm i).symm ▸ hm) bt_list (pa_cons (pe_range1 (hg2 i) ((F.hm i).symm ▸ hm2) (pa_cons (p i) pa_nil (hs i)) (hs i)) pa_nil (hs2 i)) (by decide) (by decide) (hs2 i) rfl, fun σ G H Q s rr k => q σ G H _ s rr fun x G1 H1 s1 hx => ?_⟩
  refine ⟨n, by rw [hvi hx], fun p0 hp0 => ⟨p0, n, rfl, upd_same, h0, h1, fun l hl => ?_⟩⟩
  have k2 := k.step (s1.trans (Step.newO (o := .rng 0 n) s1.s hp0))
  have e : ((List.range n.toNat).map fun i => V.int (0 + ((i : Nat) : Int))) = ((List.range n.toNat).map fun i => (0 + ((i : Nat) : Int))).map V.int := by rw [List.map_map]; rfl
  rw [e]
  refine k2.lst (s1.s.trans (Same.new hp0)) ?_ hl
  rw [← ints_tr]
  exact ints_hvl.owl
theorem ev_any {bs : List Bool} (hm : F.mg "any" = none) (ha : Ev F e ρ ta) (ea : er ta = .lst (bs.map db)) {p' : Pos} (hg : ∀ i, Gl (F.cx i) "any" := by intro _; rfl)
    (hs : ∀ i, starEach [e] (F.cx i).env = [(false, eval e (F.cx i).env)] := by intro _; rfl) : Ev F (.Call (.Name "any" p') [e] [] pos) ρ (tb (bs.any id)) :=
  ev_callB (r := rAny F.K) (fun i => F.hK i ▸ call_any (F.calm i)) hm bt_any (eva_cons ha eva_nil hs) (fun G H vs Q s hx k => by
    obtain ⟨x, rfl, hxx⟩ := hvl1 hx
    rw [ea] at hxx
    obtain ⟨l, ys, rfl, h1, h2⟩ := hxx
    have := hvl_bools h2
    subst this
    exact ⟨l, bs, rfl, s.seq h1, k.sc s rfl⟩) hg (by decide) (by decide) hs (fun _ => rfl)
theorem bt_set : bootBuiltins "set" = some (.type "set") := by decide +kernel
theorem ev_lenset {ns : List Int} (hm : F.mg "len" = none) (hm2 : F.mg "set" = none) (ha : Ev F a ρ ta) (ea : er ta = dis ns) (hz : ns.length < 1000) {p1 p2 pos1 : Pos} (hg : ∀ i, Gl (F.cx i) "len" := by intro _; rfl) (hg2 : ∀ i, Gl (F.cx i) "set" := by intro _; rfl)
    (hs : ∀ i, starEach [a] (F.cx i).env = [(false, eval a (F.cx i).env)] := by intro _; rfl) (hs2 : ∀ i, starEach [.Call (.Name "set" p2) [a] [] pos1] (F.cx i).env = [(false, eval (.Call (.Name "set" p2) [a] [] pos1) (F.cx i).env)] := by intro _; rfl) :
    Ev F (.Call (.Name "len" p1) [.Call (.Name "set" p2) [a] [] pos1] [] pos) ρ (ti (unlike ns : Nat)) := by
  obtain ⟨τ, p, q⟩ := ha.use
  refine ⟨tCB _ (tCons (tCB (fun xs H Q => ∃ (p : Addr) (ns : List Int), xs = [.ref p] ∧ SqL F.K H p (ns.map V.int) ∧ ns.length < 1000 ∧ ∀ l S, H l = none → Q (.ref l) (upd H l (.set S (unlike ns)))) (tCons τ tNil)) tNil), fun i => pe_callB call_len_setI (hg i) ((F.hm i).symm ▸ hm) bt_len (pa_cons (pe_callTy (F.hK i ▸ call_set_ints (F.calm i)) (hg2 i) ((F.hm i).symm ▸ hm2) bt_set (pa_cons (p i) pa_nil (hs i)) (by decide) (by decide) (hs i) rfl) pa_nil (hs2 i)) (by decide) (by decide) (hs2 i) rfl, fun σ G H Q s rr k => q σ G H _ s rr fun x G1 H1 s1 hx => ?_⟩
  rw [ea] at hx
  obtain ⟨l, ys, rfl, h1, h2⟩ := hx
  have := hvl_ints h2
  subst this
  refine ⟨l, ns, rfl, s1.s.seq h1, hz, fun l0 S hl0 => ⟨l0, S, _, rfl, upd_same, ?_⟩⟩
  exact (k.step (s1.trans (Step.newO (o := .set S (unlike ns)) s1.s hl0))).sc (s1.s.trans (Same.new hl0)) rfl
theorem OwL.erase {K : PySem.W.Frag} {G H : Hp} : ∀ {us : List Tr} {vs : List V} {fq : List Addr} {m : Nat} {u : Tr}, OwL K G H us vs fq → us[m]? = some u → fq.Nodup → ∃ v f fw, vs[m]? = some v ∧ Ow K G H u v f ∧ OwL K G H (us.eraseIdx m) (vs.eraseIdx m) fw ∧ fw.Nodup ∧ f.Nodup ∧ (∀ a ∈ fw, a ∈ fq) ∧ (∀ a ∈ f, a ∈ fq) ∧ ∀ a ∈ f, a ∉ fw
  | t :: us, _, _, 0, u, ⟨v, r, f1, f2, h1, h2, h3, h4⟩, hu, nd => by
    cases hu
    subst h1 h2
    have nda := List.nodup_append.mp nd
    exact ⟨v, f1, f2, rfl, h3, h4, nda.2.1, nda.1, fun a ha => List.mem_append_right _ ha, fun a ha => List.mem_append_left _ ha, fun a ha hb => nda.2.2 a ha a hb rfl⟩
  | t :: us, _, _, m + 1, u, ⟨v, r, f1, f2, h1, h2, h3, h4⟩, hu, nd => by
    subst h1 h2
    have nda := List.nodup_append.mp nd
    obtain ⟨v', f, fw, q1, q2, q3, q4, q5, q6, q7, q8⟩ := OwL.erase (m := m) h4 hu nda.2.1
    refine ⟨v', f, f1 ++ fw, q1, q2, ⟨v, _, f1, fw, rfl, rfl, h3, q3⟩, List.nodup_append.mpr ⟨nda.1, q4, fun a ha b hb e => nda.2.2 a ha b (q6 b hb) e⟩, q5, fun a ha => ?_, fun a ha => List.mem_append_right _ (q7 a ha), fun a ha hb => ?_⟩
    · rcases List.mem_append.mp ha with z | z
      · exact List.mem_append_left _ z
      · exact List.mem_append_right _ (q6 a z)
    · rcases List.mem_append.mp hb with z | z
      · exact nda.2.2 a z a (q7 a ha) rfl
      · exact q8 a ha z
theorem rn_append_pop (j j2 : Nat) {x y : Str} {us ws : List Tr} {d : Dv} {n : Int} {m : Nat} {nE : Expr} {p1 p2 p3 p4 p5 p6 : Pos} (hjj : j ≠ j2) (h : ρ[j]? = some (some (.ow us))) (h2 : ρ[j2]? = some (some (.ow ws))) (hn : EvS F nE ρ (ti n)) (hm : ixN ws.length n = some m) (hb : -(2 ^ 62) ≤ n ∧ n < 2 ^ 62) (hu : ws[m]? = some (.fz d)) (hz : us.length < sizeLine)
    (hN : ∀ i, (F.cx i).N[j]? = some x := by intro _; rfl) (hN2 : ∀ i, (F.cx i).N[j2]? = some y := by intro _; rfl)
    (hv : ∀ i, Vis (F.cx i).env.scope x := by intro _; first | exact Or.inl rfl | exact Or.inr (Or.inl rfl) | exact Or.inr (Or.inr rfl)) (hv2 : ∀ i, Vis (F.cx i).env.scope y := by intro _; first | exact Or.inl rfl | exact Or.inr (Or.inl rfl) | exact Or.inr (Or.inr rfl))
    (hd : (x == ("__debug__" : Str)) = false := by decide) (hc : (x == ("__classdict__" : Str)) = false := by decide) (hd2 : (y == ("__debug__" : Str)) = false := by decide) (hc2 : (y == ("__classdict__" : Str)) = false := by decide)
    (hbase : ∀ i, attributeBase (.Name x p1) "append" (F.cx i).env (eval (.Name x p1) (F.cx i).env) = eval (.Name x p1) (F.cx i).env := by intro _; rfl) (hbase2 : ∀ i, attributeBase (.Name y p4) "pop" (F.cx i).env (eval (.Name y p4) (F.cx i).env) = eval (.Name y p4) (F.cx i).env := by intro _; rfl)
    (hfew : ∀ i, ((backTo p3 (starEach [.Call (.Attribute (.Name y p4) "pop" p5) [nE] [] p6] (F.cx i).env)).all (fun x => !x.1) && (backToKw p3 (keywordEach [] (F.cx i).env)).all (fun x => x.1.isSome) && decide (([.Call (.Attribute (.Name y p4) "pop" p5) [nE] [] p6] : List Expr).length + ([] : List Keyword).length + (if ([] : List Keyword).isEmpty then 0 else 1) < 30)) = true := by intro _; rfl)
    (hfew2 : ∀ i, ((backTo p6 (starEach [nE] (F.cx i).env)).all (fun x => !x.1) && (backToKw p6 (keywordEach [] (F.cx i).env)).all (fun x => x.1.isSome) && decide (([nE] : List Expr).length + ([] : List Keyword).length + (if ([] : List Keyword).isEmpty then 0 else 1) < 30)) = true := by intro _; rfl)
    (hline : (p2.endLine == p3.line) = true := by rfl) (hline2 : (p5.endLine == p6.line) = true := by rfl) (hs : ∀ i, starEach [.Call (.Attribute (.Name y p4) "pop" p5) [nE] [] p6] (F.cx i).env = [(false, eval (.Call (.Attribute (.Name y p4) "pop" p5) [nE] [] p6) (F.cx i).env)] := by intro _; rfl) (hs2 : ∀ i, starEach [nE] (F.cx i).env = [(false, eval nE (F.cx i).env)] := by intro _; rfl)
    (hsw : ∀ i, swapsWith (.Call (.Attribute (.Name x p1) "append" p2) [.Call (.Attribute (.Name y p4) "pop" p5) [nE] [] p6] [] p3) none pos.line (F.cx i).env = pure false := by intro _; rfl) :
    Rn F (.Expr (.Call (.Attribute (.Name x p1) "append" p2) [.Call (.Attribute (.Name y p4) "pop" p5) [nE] [] p6] [] p3) pos) ρ (.nx ((ρ.set j2 (some (.ow (ws.eraseIdx m)))).set j (some (.ow (us ++ [.fz d]))))) := by
  obtain ⟨τn, yn, zn⟩ := hn
  refine ⟨tDrop (tBM F.K "list" rAppend (tVar j) (tCons (tBM F.K "list" rPopAt (tVar j2) (tCons τn tNil)) tNil)), fun i => ps_expr (F.hK i ▸ pe_bm PySem.F.plainAttrs_list PySem.F.slot_list_append PySem.F.type_list_append mt_append (pe_var (hN i) (hv i) hd hc) (pa_cons (pe_bm PySem.F.plainAttrs_list PySem.F.slot_list_pop PySem.F.type_list_pop mt_popAt (pe_var (hN2 i) (hv2 i) hd2 hc2) (pa_cons (yn i) pa_nil (hs2 i)) (hbase2 i) (hfew2 i) hline2 (hs2 i) rfl) pa_nil (hs i)) (hbase i) (hfew i) hline (hs i) rfl) (hsw i), fun D σ G0 H0 G H r k => ?_⟩
  obtain ⟨fp, r⟩ := r
  obtain ⟨l0, vs0, fq0, c1, c2, _⟩ := r.mut h (.refl r.st.s)
  obtain ⟨l2, vs2, fq2, e1, e2, _⟩ := r.mut h2 (.refl r.st.s)
  refine ⟨_, c1, .inl ⟨rfl, _, SqL.of c2⟩, _, e1, .inl ⟨rfl, _, SqL.of e2⟩, ?_⟩
  refine zn σ G H fp _ r.st.s r.own r.g fun vn G1 H1 f1 s1 o1 w1 => ?_
  obtain ⟨l, vs, fq, d1, d2, d3, d4, d5, d6, d7⟩ := r.mut h2 s1
  rw [e1] at d1
  cases d1
  obtain ⟨v, f, fw, g1, g2, g3, g4, g5, g6, g7, g8⟩ := d4.erase hu d5
  obtain ⟨rfl, hv'⟩ := g2
  obtain ⟨ix1, ix2, ix3, ix4⟩ := ixN_seq hm
  refine ⟨l2, vs, n, m, v, rfl, by rw [hvi o1.2], d3, by omega, by omega, by rw [← d4.length]; exact ix1, g1, ?_⟩
  have r2 := d7 (ws.eraseIdx m) (vs.eraseIdx m) fw g3 g4 fun a ha => .inl (g6 a ha)
  obtain ⟨fp2, r2⟩ := r2
  have hj' : (ρ.set j2 (some (.ow (ws.eraseIdx m))))[j]? = some (some (.ow us)) := by rw [List.getElem?_set_ne (Ne.symm hjj)]; exact h
  obtain ⟨l3, vs3, fq3, b1, b2, b3, b4, b5, b6, b7⟩ := r2.mut hj' (.refl r2.st.s)
  rw [c1] at b1
  cases b1
  refine ⟨l0, vs3, v, rfl, rfl, b2, by rw [← b4.length]; exact hz, k σ G1 _ ?_⟩
  exact b7 (us ++ [.fz d]) (vs3 ++ [v]) (fq3 ++ ([] ++ [])) (b4.append (us := [.fz d]) ⟨v, [], [], [], rfl, rfl, ⟨rfl, hv'⟩, rfl, rfl⟩) (by simpa using b5) fun a ha => .inl (by simpa using ha)
end
end L2
namespace L2
open PySem PySem.Spec PyProof.Rows
theorem enu_get {xs : List Dv} {k : Nat} {d : Dv} (h : (enuD xs)[k]? = some d) : ∃ x, xs[k]? = some x ∧ d = .tup [di (k : Nat), x] := by
  unfold enuD at h
  rw [List.getElem?_zipWith] at h
  cases hx : xs[k]? with
  | none =>
    rw [hx] at h
    cases q2 : (List.range xs.length)[k]? with
    | none => rw [q2] at h; cases h
    | some z => rw [q2] at h; cases h
  | some x =>
    have lj : k < xs.length := (List.getElem?_eq_some_iff.mp hx).1
    rw [hx, List.getElem?_range lj] at h
    cases h
    exact ⟨x, rfl, rfl⟩
theorem er_map {α : Type} (l : List α) (f : α → Int) : er (.ow (l.map fun k => Tr.fz (di (f k)))) = dis (l.map f) := by
  show Dv.lst _ = Dv.lst _
  rw [ers_map, List.map_map, List.map_map]; rfl
abbrev tInts (l : List Int) : Tr := .ow (l.map fun n => .fz (di n))
abbrev tRows (L : List (List Int)) : Tr := .ow (L.map tInts)
theorem er_tInts (l : List Int) : er (tInts l) = dis l := by
  show Dv.lst _ = _
  rw [ers_map, List.map_map]; rfl
theorem er_tRows (L : List (List Int)) : er (tRows L) = .lst (L.map dis) := by
  show Dv.lst _ = _
  rw [ers_map, List.map_map]
  congr 1
  exact List.map_congr_left fun l _ => er_tInts l
theorem okD_rows (L : List (List Int)) : okD (.lst (L.map dis)) = true := okD_lst okD_dis L
theorem dpD_rows (L : List (List Int)) : dpD (.lst (L.map dis)) ≤ 2 := dpD_lst fun d hd => by
  obtain ⟨m, _, rfl⟩ := List.mem_map.mp hd
  exact dpD_dis m
def tabD (c : List Int) (os : List (List Int)) : Dv := .tup [dis c, .lst (os.map dis)]
theorem okD_tab (c : List Int) (os : List (List Int)) : okD (tabD c os) = true := by
  show (okD (dis c) && (okD (.lst (os.map dis)) && true)) = true
  rw [okD_dis, okD_rows]; rfl
theorem dpD_tab (c : List Int) (os : List (List Int)) : dpD (tabD c os) ≤ 3 := dpD_tup fun d hd => by
  rcases List.mem_cons.mp hd with rfl | hd
  · exact Nat.le_trans (dpD_dis c) (by decide)
  · rw [List.mem_singleton.mp hd]; exact dpD_rows os
structure TabOk (c : List Int) (os : List (List Int)) : Prop where
  c6 : c.length ≤ 6
  cnt : ∀ x ∈ c, 0 ≤ x ∧ x ≤ 9
  o1 : 1 ≤ os.length
  o6 : os.length ≤ 6
  nd : ∀ o ∈ os, o.Nodup
  rng : ∀ o ∈ os, ∀ x ∈ o, 0 ≤ x ∧ x < c.length
theorem nodup_len {n : Nat} {l : List Int} (nd : l.Nodup) (h : ∀ x ∈ l, 0 ≤ x ∧ x < n) : l.length ≤ n := by
  have sub : l ⊆ (List.range n).map fun k => ((k : Nat) : Int) := fun x hx => by
    obtain ⟨h0, h1⟩ := h x hx
    exact List.mem_map.mpr ⟨x.toNat, List.mem_range.mpr (by omega), by omega⟩
  have := nd.length_le_of_subset sub
  simpa using this
theorem TabOk.olen {c : List Int} {os : List (List Int)} (h : TabOk c os) {o : List Int} (ho : o ∈ os) : o.length ≤ 6 := Nat.le_trans (nodup_len (h.nd o ho) (h.rng o ho)) h.c6
end L2
namespace L2
open PySem PySem.Spec PyProof.Rows
theorem EvI.to {ι : Type} {F : Fam ι} {tg iter : Expr} {ρ : En} {a b : List Dv} (h : EvI F tg iter ρ a) (e : a = b) : EvI F tg iter ρ b := e ▸ h
theorem erase_perm {α : Type} : ∀ {l : List α} {m : Nat} (h : m < l.length), (l[m] :: l.eraseIdx m).Perm l
  | x :: l, 0, _ => .refl _
  | x :: l, m + 1, h => by
    have h' : m < l.length := by simpa using h
    show (l[m] :: x :: l.eraseIdx m).Perm (x :: l)
    exact (List.Perm.swap ..).trans ((erase_perm h').cons x)
theorem erase_map {α β : Type} (f : α → β) : ∀ (l : List α) (m : Nat), (l.map f).eraseIdx m = (l.eraseIdx m).map f
  | [], _ => rfl
  | _ :: _, 0 => rfl
  | x :: l, m + 1 => by
    show f x :: (l.map f).eraseIdx m = f x :: (l.eraseIdx m).map f
    rw [erase_map f l m]
end L2
namespace L2
open PySem PySem.Spec PyProof.Rows
theorem ev_mulS {ι : Type} {F : Fam ι} {a b : Expr} {ρ : En} {pos : Pos} {i j : Int} (ha : Ev F a ρ (ti i)) (hb : Ev F b ρ (ti j)) (hc : CMul i j) : Ev F (.BinOp a .Mult b pos) ρ (ti (i * j)) := ev_bin (fun _ => op_mul) ha hb fun G H x y Q s hx hy k => ⟨i, j, hvi hx, hvi hy, hc, k.sc s rfl⟩
end L2
namespace L2
open PySem PySem.Spec PyProof.Rows
section
variable {prog : Program} {w : World} {A : Around} {E : Value → Shared → Prop} {s : Shared}
end
section
variable {X : Cx}
end
section
variable {ι : Type} {F : Fam ι} {e a b c : Expr} {es : List Expr} {ρ : En} {t ta tb' : Tr} {ts : List Tr} {pos : Pos}
theorem RSf.move {K : PySem.W.Frag} {G0 H0 G H : Hp} {ρ : En} {σ : St} {fp : List Addr} {j j2 : Nat} {us : List Tr} {t : Tr} (r : RSf K G0 H0 G H ρ σ fp) (hjj : j ≠ j2) (h : ρ[j]? = some (some (.ow us))) (h2 : ρ[j2]? = some (some t)) :
    ∃ l vs v, σ[j]? = some (some (.ref l)) ∧ σ[j2]? = some (some v) ∧ H l = some (.lst vs) ∧ us.length = vs.length ∧ RS K G0 H0 G (upd H l (.lst (vs ++ [v]))) ((ρ.set j2 none).set j (some (.ow (us ++ [t])))) σ := by
  obtain ⟨v2, f2, fr2, a1, a2, a3, a4⟩ := r.own.split h2
  obtain ⟨v, f, fr, b1, b2, b3, b4⟩ := a3.split (j := j) (t := .ow us) (by rw [List.getElem?_set_ne (Ne.symm hjj)]; exact h)
  obtain ⟨l, vs, fq, rfl, hl, ol, rfl⟩ := b2
  have pm : fp.Perm (f2 ++ ((l :: fq) ++ fr)) := a4.trans (List.Perm.append_left _ b4)
  have nd := pm.nodup_iff.mp r.d
  have nd1 := List.nodup_append.mp nd
  have nd2 := List.nodup_append.mp nd1.2.1
  have nd3 := List.nodup_cons.mp nd2.1
  have lf2 : l ∉ f2 := fun z => nd1.2.2 l z l (List.mem_append_left _ (.head _)) rfl
  have lfr : l ∉ fr := fun z => nd2.2.2 l (.head _) l z rfl
  have hlp : l ∈ fp := pm.mem_iff.mpr (List.mem_append_right _ (List.mem_append_left _ (.head _)))
  have lt : j < (ρ.set j2 none).length := by
    rw [List.length_set]
    rcases Nat.lt_or_ge j ρ.length with z | z
    · exact z
    · rw [List.getElem?_eq_none z] at h; cases h
  have own : Ow K G (upd H l (.lst (vs ++ [v2]))) (.ow (us ++ [t])) (.ref l) (l :: (fq ++ (f2 ++ []))) :=
    ⟨l, vs ++ [v2], fq ++ (f2 ++ []), rfl, upd_same, (ol.frame nd3.1).append ⟨v2, [], f2, [], rfl, rfl, a2.frame lf2, rfl, rfl⟩, rfl⟩
  obtain ⟨fp', p1, p2⟩ := (b3.frame (o := .lst (vs ++ [v2])) lfr).put (get_set_none lt) own
  rw [List.set_set, set_self b1] at p1
  have pm2 : fp'.Perm fp := by
    refine p2.trans (List.Perm.trans ?_ pm.symm)
    rw [List.append_nil]
    have : ((l :: (fq ++ f2)) ++ fr).Perm ((f2 ++ (l :: fq)) ++ fr) := List.Perm.append_right fr (by
      show ((l :: fq) ++ f2).Perm (f2 ++ (l :: fq))
      exact List.perm_append_comm)
    rw [List.append_assoc] at this
    exact this
  refine ⟨l, vs, v2, b1, a1, hl, ol.length, fp', ⟨r.st.g, fun b u hb => ?_, fun b u hb => ?_, r.st.n⟩, p1, fun a ha => r.g a (pm2.mem_iff.mp ha), fun a ha => r.n a (pm2.mem_iff.mp ha), pm2.nodup_iff.mpr r.d⟩
  · have hb1 := r.st.h b u hb
    rw [upd_ne fun z => ?_]
    · exact hb1
    · subst z; rw [r.n _ hlp] at hb; cases hb
  · have hb1 := r.st.s b u hb
    rw [upd_ne fun z => ?_]
    · exact hb1
    · subst z; rw [r.g _ hlp] at hb; cases hb
theorem rn_append_mv (j j2 : Nat) {x y : Str} {us : List Tr} {p1 p2 p3 p4 : Pos} (hjj : j ≠ j2) (h : ρ[j]? = some (some (.ow us))) (h2 : ρ[j2]? = some (some t)) (hz : us.length < sizeLine)
    (hN : ∀ i, (F.cx i).N[j]? = some x := by intro _; rfl) (hN2 : ∀ i, (F.cx i).N[j2]? = some y := by intro _; rfl)
    (hv : ∀ i, Vis (F.cx i).env.scope x := by intro _; first | exact Or.inl rfl | exact Or.inr (Or.inl rfl) | exact Or.inr (Or.inr rfl)) (hv2 : ∀ i, Vis (F.cx i).env.scope y := by intro _; first | exact Or.inl rfl | exact Or.inr (Or.inl rfl) | exact Or.inr (Or.inr rfl))
    (hd : (x == ("__debug__" : Str)) = false := by decide) (hc : (x == ("__classdict__" : Str)) = false := by decide) (hd2 : (y == ("__debug__" : Str)) = false := by decide) (hc2 : (y == ("__classdict__" : Str)) = false := by decide)
    (hbase : ∀ i, attributeBase (.Name x p1) "append" (F.cx i).env (eval (.Name x p1) (F.cx i).env) = eval (.Name x p1) (F.cx i).env := by intro _; rfl)
    (hfew : ∀ i, ((backTo p3 (starEach [.Name y p4] (F.cx i).env)).all (fun x => !x.1) && (backToKw p3 (keywordEach [] (F.cx i).env)).all (fun x => x.1.isSome) && decide (([.Name y p4] : List Expr).length + ([] : List Keyword).length + (if ([] : List Keyword).isEmpty then 0 else 1) < 30)) = true := by intro _; rfl)
    (hline : (p2.endLine == p3.line) = true := by rfl) (hs : ∀ i, starEach [.Name y p4] (F.cx i).env = [(false, eval (.Name y p4) (F.cx i).env)] := by intro _; rfl) (hsw : ∀ i, swapsWith (.Call (.Attribute (.Name x p1) "append" p2) [.Name y p4] [] p3) none pos.line (F.cx i).env = pure false := by intro _; rfl) :
    Rn F (.Expr (.Call (.Attribute (.Name x p1) "append" p2) [.Name y p4] [] p3) pos) ρ (.nx ((ρ.set j2 none).set j (some (.ow (us ++ [t]))))) := by
  refine ⟨tDrop (tBM F.K "list" rAppend (tVar j) (tCons (tVar j2) tNil)), fun i => ps_expr (F.hK i ▸ pe_bm PySem.F.plainAttrs_list PySem.F.slot_list_append PySem.F.type_list_append mt_append (pe_var (hN i) (hv i) hd hc) (pa_cons (pe_var (hN2 i) (hv2 i) hd2 hc2) pa_nil (hs i)) (hbase i) (hfew i) hline (hs i) rfl) (hsw i), fun D σ G0 H0 G H r k => ?_⟩
  obtain ⟨fp, r⟩ := r
  obtain ⟨l, vs, v, c1, c2, c3, c4, c5⟩ := r.move hjj h h2
  exact ⟨_, c1, .inl ⟨rfl, _, SqL.of c3⟩, _, c2, l, vs, v, rfl, rfl, c3, by rw [← c4]; exact hz, k σ G _ c5⟩
theorem cutD_nat {α : Type} (l : List α) (a b : Nat) : cutD l (some (a : Int)) (some (b : Int)) = (l.drop (min a l.length)).take (min b l.length - min a l.length) := by
  unfold cutD
  rw [HT.sIx_nat, HT.sIx_nat]
theorem filt_get {α β : Type} (q : α → Bool) (h : α → β) (d : β) : ∀ l : List α, ((List.range l.length).filter fun k => ((l[k]?).map q).getD false).map (fun k => ((l[k]?).map h).getD d) = (l.filter q).map h
  | [] => rfl
  | a :: l => by
    have ih := filt_get q h d l
    rw [List.length_cons, List.range_succ_eq_map, List.filter_cons, List.filter_cons, List.filter_map]
    show List.map _ (if q a = true then _ else _) = _
    cases q a with
    | true =>
      show h a :: ((_ : List Nat).map Nat.succ).map _ = h a :: _
      rw [List.map_map, ← ih]; rfl
    | false =>
      show ((_ : List Nat).map Nat.succ).map _ = _
      rw [List.map_map]; exact ih
variable {js : List Nat} {sp : Dv → Option (List Dv)} {elt tg iter : Expr}
theorem elcf {α : Type} (l : List α) (g : α → Dv) (q : α → Bool) (h : α → Tr) {ifs : List Expr} {sc : Scope} {own : List Str} {fr : List Nat} {cl : ι → List (Str × Addr)} (hi : EvI F tg iter ρ (l.map g)) (hg : EvG (famLc F own fr sc cl) tg js sp) (hjs : ∀ j ∈ js, j < own.length) (hz : l.length < sizeLine)
    (step : ∀ a ∈ l, ∃ dd, sp (g a) = some dd ∧ El (famLc F own fr sc cl) ifs (setAll js (dd.map .fz) (lcEn own fr ρ)) (q a) ∧ (q a = true → Ev (famLc F own fr sc cl) elt (setAll js (dd.map .fz) (lcEn own fr ρ)) (h a)))
    (hdrop : ∀ dd : List Dv, dropAll js (setAll js (dd.map .fz) (lcEn own fr ρ)) = lcEn own fr ρ) : Elc F own fr sc cl elt tg iter ifs ρ (.ow ((l.filter q).map h)) := by
  have := elc (ifs := ifs) hi hg hjs (fun k => ((l[k]?).map q).getD false) (fun k => ((l[k]?).map h).getD tn) (by rw [List.length_map]; exact hz) (fun k d hd => by
    obtain ⟨a, ha, rfl⟩ := map_get hd
    obtain ⟨dd, s1, s2, s3⟩ := step a (List.mem_of_getElem? ha)
    refine ⟨dd, s1, ?_, ?_⟩
    · show El _ _ _ (((l[k]?).map q).getD false)
      rw [ha]; exact s2
    · show ((l[k]?).map q).getD false = true → Ev _ _ _ (((l[k]?).map h).getD tn)
      rw [ha]; exact s3) hdrop
  rw [List.length_map, filt_get] at this
  exact this
theorem elcm {α : Type} (l : List α) (g : α → Dv) (h : α → Tr) {sc : Scope} {own : List Str} {fr : List Nat} {cl : ι → List (Str × Addr)} (hi : EvI F tg iter ρ (l.map g)) (hg : EvG (famLc F own fr sc cl) tg js sp) (hjs : ∀ j ∈ js, j < own.length) (hz : l.length < sizeLine)
    (step : ∀ a ∈ l, ∃ dd, sp (g a) = some dd ∧ Ev (famLc F own fr sc cl) elt (setAll js (dd.map .fz) (lcEn own fr ρ)) (h a))
    (hdrop : ∀ dd : List Dv, dropAll js (setAll js (dd.map .fz) (lcEn own fr ρ)) = lcEn own fr ρ) : Elc F own fr sc cl elt tg iter [] ρ (.ow (l.map h)) := by
  have := elcf l g (fun _ => true) h hi hg hjs hz (fun a ha => let ⟨dd, s1, s2⟩ := step a ha; ⟨dd, s1, el_nil, fun _ => s2⟩) hdrop
  rwa [List.filter_eq_self.mpr fun _ _ => rfl] at this
theorem ev_lcf {α : Type} (l : List α) (g : α → Dv) (q : α → Bool) (h : α → Tr) {ifs : List Expr} {sc : Scope} {own : List Str} {fr : List Nat} {cl : ι → List (Str × Addr)} (L : ∀ i, LcScope (F.cx i) sc (cl i) fr) (hi : EvI F tg iter ρ (l.map g)) (hg : EvG (famLc F own fr sc cl) tg js sp) (hjs : ∀ j ∈ js, j < own.length) (hz : l.length < sizeLine)
    (step : ∀ a ∈ l, ∃ dd, sp (g a) = some dd ∧ El (famLc F own fr sc cl) ifs (setAll js (dd.map .fz) (lcEn own fr ρ)) (q a) ∧ (q a = true → Ev (famLc F own fr sc cl) elt (setAll js (dd.map .fz) (lcEn own fr ρ)) (h a)))
    (hdrop : ∀ dd : List Dv, dropAll js (setAll js (dd.map .fz) (lcEn own fr ρ)) = lcEn own fr ρ) (hs : ∀ i x, foldedSetIterable iter (F.cx i).env x = pure x := by intro _ _; rfl) : Ev F (.ListComp elt [⟨tg, iter, ifs, 0⟩] sc pos) ρ (.ow ((l.filter q).map h)) := by
  have := ev_lc (ifs := ifs) (pos := pos) L hi hg hjs (fun k => ((l[k]?).map q).getD false) (fun k => ((l[k]?).map h).getD tn) (by rw [List.length_map]; exact hz) (fun k d hd => by
    obtain ⟨a, ha, rfl⟩ := map_get hd
    obtain ⟨dd, s1, s2, s3⟩ := step a (List.mem_of_getElem? ha)
    refine ⟨dd, s1, ?_, ?_⟩
    · show El _ _ _ (((l[k]?).map q).getD false)
      rw [ha]; exact s2
    · show ((l[k]?).map q).getD false = true → Ev _ _ _ (((l[k]?).map h).getD tn)
      rw [ha]; exact s3) hdrop hs
  rw [List.length_map, filt_get] at this
  exact this
theorem ev_lcm {α : Type} (l : List α) (g : α → Dv) (h : α → Tr) {sc : Scope} {own : List Str} {fr : List Nat} {cl : ι → List (Str × Addr)} (L : ∀ i, LcScope (F.cx i) sc (cl i) fr) (hi : EvI F tg iter ρ (l.map g)) (hg : EvG (famLc F own fr sc cl) tg js sp) (hjs : ∀ j ∈ js, j < own.length) (hz : l.length < sizeLine)
    (step : ∀ a ∈ l, ∃ dd, sp (g a) = some dd ∧ Ev (famLc F own fr sc cl) elt (setAll js (dd.map .fz) (lcEn own fr ρ)) (h a))
    (hdrop : ∀ dd : List Dv, dropAll js (setAll js (dd.map .fz) (lcEn own fr ρ)) = lcEn own fr ρ) (hs : ∀ i x, foldedSetIterable iter (F.cx i).env x = pure x := by intro _ _; rfl) : Ev F (.ListComp elt [⟨tg, iter, [], 0⟩] sc pos) ρ (.ow (l.map h)) := by
  have := ev_lcf (pos := pos) l g (fun _ => true) h L hi hg hjs hz (fun a ha => let ⟨dd, s1, s2⟩ := step a ha; ⟨dd, s1, el_nil, fun _ => s2⟩) hdrop hs
  rwa [List.filter_eq_self.mpr fun _ _ => rfl] at this
theorem er_ow_map {α : Type} (l : List α) (h : α → Tr) : er (.ow (l.map h)) = .lst (l.map fun a => er (h a)) := by
  show Dv.lst (ers _) = _
  rw [ers_map, List.map_map]; rfl
end
end L2
namespace L2
open PySem PySem.Spec PyProof.Rows Fra
section
variable {ι : Type} {F : Fam ι} {e a b c : Expr} {es : List Expr} {ρ : En} {t ta tb' : Tr} {ts : List Tr} {pos : Pos}
theorem ev_callD {k : Nat} {f : Addr} {fd : FuncData} {ps : List Str} {R : List Dv → Tr → Prop} {x : Str} {n : Int} {tk : Tok} (Fn : Kn F.P F.w F.K F.mg F.base CX0 k x f fd ps (spT F.K R)) (B : Binds F.K fd ps [.int n tk]) (hk : k ≤ F.room) (ha : EvA F (e :: es) ρ ts) (hR : R (ers ts ++ [di n]) t) {p' : Pos} (hg : ∀ i, Gl (F.cx i) x := by intro _; rfl) (hdb : (x == ("__debug__" : Str)) = false := by decide)
    (he : ∀ i, starEach (e :: es) (F.cx i).env = (false, eval e (F.cx i).env) :: starEach es (F.cx i).env := by intro _; rfl) (hpl : ∀ i, (backTo pos (starEach es (F.cx i).env)).any (·.1) = false := by intro _; rfl) : Ev F (.Call (.Name x p') (e :: es) [] pos) ρ t := by
  obtain ⟨τ, y, z⟩ := ha.use
  refine ⟨tCall (spT F.K R) [.int n] E0 τ, fun i => ?_, fun σ G H Q s rr k => z σ G H _ s rr fun vs G1 H1 s1 hx => ?_⟩
  · have Fn' : Kn (F.cx i).prog (F.cx i).w (F.cx i).K (F.cx i).mg (F.cx i).base CX0 k x f fd ps (spT F.K R) := by
      rw [F.hP i, F.hw i, F.hK i, F.hm i, F.hb i]
      exact Fn
    exact pe_call Fn'.ok ((F.hr i).mono hk) (hg i) Fn'.mgx Fn'.kp (by rw [F.hK i]; exact B) (.cons ⟨tk, rfl⟩ .nil) pass0 (y i) hdb (he i) (hpl i)
  · show spT F.K R (vs ++ [.int n]) H1 Q E0
    have app : ∀ {ds : List Dv} {vs : List V}, HvL F.K G1 ds vs → HvL F.K G1 (ds ++ [di n]) (vs ++ [.int n]) := by
      intro ds
      induction ds with
      | nil => intro vs h; have h' : vs = [] := h; subst h'; exact ⟨_, _, rfl, ⟨rfl, rfl⟩, rfl⟩
      | cons d ds ih => intro vs ⟨x, r, h1, h2, h3⟩; subst h1; exact ⟨x, _, rfl, h2, ih h3⟩
    exact ⟨G1, _, t, s1.s, app hx, hR, k.step s1⟩
theorem ev_intb {q : Bool} (hm : F.mg "int" = none) (ha : Ev F e ρ (tb q)) {p' : Pos} (hg : ∀ i, Gl (F.cx i) "int" := by intro _; rfl)
    (hs : ∀ i, starEach [e] (F.cx i).env = [(false, eval e (F.cx i).env)] := by intro _; rfl) : Ev F (.Call (.Name "int" p') [e] [] pos) ρ (ti (if q then 1 else 0)) :=
  ev_callT (r := fun xs H Q => (∃ i, xs = [.int i] ∧ Q (.int i) H) ∨ ∃ k, xs = [.bl k] ∧ Q (.int (if k then 1 else 0)) H) (fun i => call_int1) hm bt_int (eva_cons ha eva_nil hs) (fun G H vs Q s hx k => by
    obtain ⟨x, rfl, hxx⟩ := hvl1 hx
    exact .inr ⟨q, by rw [hvi hxx], k.sc s rfl⟩) hg (by decide) (by decide) hs (fun _ => rfl)
theorem et_neB {p q : Bool} (ha : Ev F a ρ (tb p)) (hb : Ev F b ρ (tb q)) : Et F (.Compare a [.NotEq] [b] pos) ρ (!decide (p = q)) := et_cmp (fun _ => op_ne) ha hb (fun G H x y Q s hx hy k => by
  rw [hvi hx, hvi hy]; exact ⟨rfl, by simpa using k⟩) (nomark _)
theorem op_isB {X : Cx} : OpR X (compareOp .Is) (fun x y H Q => ∃ p q, x = .bl p ∧ y = .bl q ∧ Q (.bl (p == q)) H) := by
  intro pins s σ H x y v u Q I rx ry h
  obtain ⟨p, q, rfl, rfl, z⟩ := h
  cases rx
  cases ry
  exact is_bool (fin_bl I z rfl)
theorem ev_isB {p q : Bool} (ha : Ev F a ρ (tb p)) (hb : Ev F b ρ (tb q)) : Ev F (.Compare a [.Is] [b] pos) ρ (tb (p == q)) := ev_cmp (fun _ => op_isB) ha hb (fun G H x y Q s hx hy k => ⟨p, q, hvi hx, hvi hy, k⟩) (nomark _)
end
abbrev dF (p : Int × Int) : Dv := .tup [di p.1, di p.2]
abbrev tF (p : Int × Int) : Tr := .fz (dF p)
def fW (W s : Int) : Int × Int := (lT s W, lB s W)
theorem fW_pos {W s : Int} (h : 0 < W) : 0 < (fW W s).2 := by have := lB_ge (t := s) (show W ≠ 0 by omega); show 0 < lB s W; omega
theorem fW_le {W s : Int} (h : 0 < W) : (fW W s).2 ≤ W := by have := lB_le (t := s) (show W ≠ 0 by omega); show lB s W ≤ W; omega
theorem fW_top {W s : Int} (h : 0 < W) : (fW W s).1.natAbs ≤ s.natAbs := lT_abs (show W ≠ 0 by omega)
theorem fW_cross {W s : Int} (h : 0 < W) : (fW W s).1 * W = s * (fW W s).2 := l_cross (show W ≠ 0 by omega)
theorem fW_same {W s t b : Int} (h : 0 < W) (hb : b ≠ 0) (e : t * W = s * b) : (lT t b, lB t b) = fW W s := by
  obtain ⟨h1, h2⟩ := l_eq hb (show W ≠ 0 by omega) e
  show _ = (_, _)
  rw [h1, h2]
theorem fW_plus {W s t : Int} (h : 0 < W) : (lT ((fW W s).1 * (fW W t).2 + (fW W t).1 * (fW W s).2) ((fW W s).2 * (fW W t).2), lB ((fW W s).1 * (fW W t).2 + (fW W t).1 * (fW W s).2) ((fW W s).2 * (fW W t).2)) = fW W (s + t) := by
  have p1 := fW_pos (s := s) h
  have p2 := fW_pos (s := t) h
  have c1 := fW_cross (s := s) h
  have c2 := fW_cross (s := t) h
  generalize (fW W s).1 = a at *
  generalize (fW W s).2 = b at *
  generalize (fW W t).1 = c at *
  generalize (fW W t).2 = d at *
  refine fW_same h (by have := Int.mul_pos p1 p2; omega) ?_
  have e1 : (a * d + c * b) * W = (a * W) * d + (c * W) * b := by
    rw [Int.add_mul, Int.mul_right_comm a d W, Int.mul_right_comm c b W]
  rw [e1, c1, c2, Int.add_mul, Int.mul_assoc s b d, Int.mul_assoc t d b, Int.mul_comm d b]
theorem fW_inj {W s t : Int} (h : 0 < W) (e : fW W s = fW W t) : s = t := by
  have c1 := fW_cross (s := s) h
  have c2 := fW_cross (s := t) h
  rw [e] at c1
  have p := fW_pos (s := t) h
  have : s * (fW W t).2 = t * (fW W t).2 := by rw [← c1, ← c2]
  exact Int.eq_of_mul_eq_mul_right (by omega) this
theorem fW_scale {W c s : Int} (h : 0 < W) (hc : 0 < c) : fW (W * c) (s * c) = fW W s := by
  have hb : W * c ≠ 0 := by have := Int.mul_pos h hc; omega
  exact fW_same h hb (by rw [Int.mul_assoc, Int.mul_comm c W])
theorem fW_self {W : Int} (h : 0 < W) : fW W W = (1, 1) := by
  have := l_unique (t := W) (b := W) (p := 1) (q := 1) (by omega) (by decide) (by decide) (by rw [Int.one_mul, Int.mul_one])
  show (_, _) = _
  rw [← this.1, ← this.2]
theorem fW_zero {W : Int} (h : 0 < W) : fW W 0 = (0, 1) := by
  have := l_unique (t := 0) (b := W) (p := 0) (q := 1) (by omega) (by decide) (by decide) (by rw [Int.zero_mul, Int.zero_mul])
  show (_, _) = _
  rw [← this.1, ← this.2]
theorem fW_lt {W s t : Int} (h : 0 < W) : (fW W s).1 * (fW W t).2 < (fW W t).1 * (fW W s).2 ↔ s < t := by
  have p1 := fW_pos (s := s) h
  have p2 := fW_pos (s := t) h
  have c1 := fW_cross (s := s) h
  have c2 := fW_cross (s := t) h
  generalize (fW W s).1 = a at *
  generalize (fW W s).2 = b at *
  generalize (fW W t).1 = c at *
  generalize (fW W t).2 = d at *
  have bd : 0 < b * d := Int.mul_pos p1 p2
  have e1 : a * d * W = s * (b * d) := by rw [Int.mul_right_comm, c1, Int.mul_assoc]
  have e2 : c * b * W = t * (b * d) := by rw [Int.mul_right_comm, c2, Int.mul_assoc, Int.mul_comm d b]
  constructor
  · intro z
    have := Int.mul_lt_mul_of_pos_right z h
    rw [e1, e2] at this
    exact Int.lt_of_mul_lt_mul_right this (by omega)
  · intro z
    have := Int.mul_lt_mul_of_pos_right z bd
    rw [← e1, ← e2] at this
    exact Int.lt_of_mul_lt_mul_right this (by omega)
end L2
namespace L2
open PySem PySem.Spec PyProof.Rows
section
variable {ι : Type} {F : Fam ι} {e a b c : Expr} {es : List Expr} {ρ : En} {t ta tb' : Tr} {ts : List Tr} {pos : Pos}
theorem Rn.to {st : Stmt} {ρ1 ρ2 : En} (h : Rn F st ρ (.nx ρ1)) (e : ρ1 = ρ2) : Rn F st ρ (.nx ρ2) := e ▸ h
end
end L2
namespace L2
open PySem PySem.Spec PyProof.Rows
section
variable {prog : Program} {w : World} {A : Around} {E : Value → Shared → Prop} {s : Shared}
end
end L2
namespace PySem.F
end PySem.F
namespace L2
open PySem PySem.Spec PyProof.Rows
section
variable {prog : Program} {w : World} {A : Around} {E : Value → Shared → Prop} {s : Shared}
end
section
variable {prog : Program} {w : World} {A : Around} {s : Shared} {R : Result → Shared → Prop}
end
section
variable {ι : Type} {F : Fam ι} {a b : Expr} {ρ : En} {ta tb' : Tr} {pos : Pos}
end
end L2
namespace L2
open PySem PySem.Spec PyProof.Rows
section
variable {ι : Type} {F : Fam ι} {sts : List Stmt} {ρ : En} {o : Out} {t : Tr}
end
theorem op_isntB {X : Cx} : OpR X (compareOp .IsNot) (fun x y H Q => ∃ p q, x = .bl p ∧ y = .bl q ∧ Q (.bl (p != q)) H) := by
  intro pins s σ H x y v u Q I rx ry h
  obtain ⟨p, q, rfl, rfl, z⟩ := h
  cases rx
  cases ry
  exact isnot_bool (fin_bl I z rfl)
section
variable {ι : Type} {F : Fam ι} {a b : Expr} {ρ : En} {pos : Pos}
theorem et_isntB {p q : Bool} (ha : Ev F a ρ (tb p)) (hb : Ev F b ρ (tb q)) : Et F (.Compare a [.IsNot] [b] pos) ρ (p != q) := et_cmp (fun _ => op_isntB) ha hb (fun G H x y Q s hx hy k => ⟨p, q, hvi hx, hvi hy, k⟩) (nomark _)
end
end L2
namespace L2
open PySem PySem.Spec PyProof.Rows
end L2
namespace L2
open PySem PySem.Spec PyProof.Rows
def Md (f : List Addr) (H H2 : Hp) : Prop := ∀ b o, b ∉ f → H b = some o → H2 b = some o
theorem Md.refl {f : List Addr} {H : Hp} : Md f H H := fun _ _ _ h => h
theorem Md.trans {f : List Addr} {H H1 H2 : Hp} (a : Md f H H1) (b : Md f H1 H2) : Md f H H2 := fun x o n h => b x o n (a x o n h)
theorem Md.upd {f : List Addr} {H : Hp} {l : Addr} {o : HO} (hl : l ∈ f) : Md f H (L2.upd H l o) := fun b u n h => by
  rw [upd_ne (show b ≠ l from fun z => n (z ▸ hl))]; exact h
theorem Md.same {f : List Addr} {H H' : Hp} (s : Same H H') : Md f H H' := fun b o _ h => s b o h
mutual
theorem Ow.agree {K : PySem.W.Frag} {G H H2 : Hp} : ∀ {t : Tr} {v : V} {fp : List Addr}, Ow K G H t v fp → (∀ a ∈ fp, H2 a = H a) → Ow K G H2 t v fp
  | .fz _, _, _, h, _ => h
  | .ow _, _, _, ⟨b, vs, fq, h1, h2, h3, h4⟩, n => by
    subst h4
    exact ⟨b, vs, fq, h1, (n b (.head _)).trans h2, OwL.agree h3 fun a z => n a (.tail _ z), rfl⟩
  | .tp _, _, _, ⟨b, vs, fq, h1, h2, h3, h4⟩, n => by
    subst h4
    exact ⟨b, vs, fq, h1, (n b (.head _)).trans h2, OwL.agree h3 fun a z => n a (.tail _ z), rfl⟩
theorem OwL.agree {K : PySem.W.Frag} {G H H2 : Hp} : ∀ {ts : List Tr} {vs : List V} {fp : List Addr}, OwL K G H ts vs fp → (∀ a ∈ fp, H2 a = H a) → OwL K G H2 ts vs fp
  | [], _, _, h, _ => h
  | _ :: _, _, _, ⟨v, r, f1, f2, h1, h2, h3, h4⟩, n => by
    subst h2
    exact ⟨v, r, f1, f2, h1, rfl, h3.agree fun a z => n a (List.mem_append_left _ z), OwL.agree h4 fun a z => n a (List.mem_append_right _ z)⟩
end
theorem OwS.agree {K : PySem.W.Frag} {G H H2 : Hp} : ∀ {ρ : En} {σ : St} {fp : List Addr}, OwS K G H ρ σ fp → (∀ a ∈ fp, H2 a = H a) → OwS K G H2 ρ σ fp
  | [], _, _, h, _ => h
  | none :: _, _, _, ⟨o, r, h1, h2⟩, n => ⟨o, r, h1, OwS.agree h2 n⟩
  | some _ :: _, _, _, ⟨v, r, f1, f2, h1, h2, h3, h4⟩, n => by
    subst h2
    exact ⟨v, r, f1, f2, h1, rfl, h3.agree fun a z => n a (List.mem_append_left _ z), OwS.agree h4 fun a z => n a (List.mem_append_right _ z)⟩
section
variable {ι : Type} {F : Fam ι} {ρ ρ' : En} {o : Out} {rest : List Stmt}
end
end L2
namespace L2
open PySem PySem.Spec PyProof.Rows
def isFl : Dv → Bool
  | .fl _ => true
  | _ => false
def lfD : Dv → Bool
  | .fl _ => true
  | .lst _ => false
  | .tup ds => ds.all isFl
mutual
def lfT : Tr → Bool
  | .fz d => lfD d
  | .ow ts => lfTs ts
  | .tp ts => lfTs ts
def lfTs : List Tr → Bool
  | [] => true
  | t :: ts => lfT t && lfTs ts
end
theorem lfTs_of : ∀ {ts : List Tr}, (∀ t ∈ ts, lfT t = true) → lfTs ts = true
  | [], _ => rfl
  | t :: ts, h => by
    show (lfT t && lfTs ts) = true
    rw [h t (.head _), lfTs_of fun t' ht => h t' (.tail _ ht)]; rfl
def isO : Tr → Bool
  | .fz _ => false
  | _ => true
mutual
def gdT : Tr → Bool
  | .fz _ => true
  | .ow ts => gdTs ts
  | .tp ts => ts.any isO && gdTs ts
def gdTs : List Tr → Bool
  | [] => true
  | t :: ts => gdT t && gdTs ts
end
theorem gdTs_of : ∀ {ts : List Tr}, (∀ t ∈ ts, gdT t = true) → gdTs ts = true
  | [], _ => rfl
  | t :: ts, h => by
    show (gdT t && gdTs ts) = true
    rw [h t (.head _), gdTs_of fun t' ht => h t' (.tail _ ht)]; rfl
def Gd (H : Hp) (a : Addr) : Prop := (∃ xs, H a = some (.lst xs)) ∨ ∃ xs b, H a = some (.tup xs) ∧ V.ref b ∈ xs
theorem any_ref {K : PySem.W.Frag} {G H : Hp} : ∀ {ts : List Tr} {vs : List V} {fp : List Addr}, OwL K G H ts vs fp → ts.any isO = true → ∃ b, V.ref b ∈ vs
  | [], _, _, _, h => by cases h
  | t :: ts, _, _, ⟨v, r, f1, f2, h1, h2, h3, h4⟩, h => by
    subst h1
    rw [List.any_cons, Bool.or_eq_true] at h
    rcases h with h | h
    · cases t with
      | fz d => cases h
      | ow us => obtain ⟨a, _, _, rfl, _⟩ := h3; exact ⟨a, .head _⟩
      | tp us => obtain ⟨a, _, _, rfl, _⟩ := h3; exact ⟨a, .head _⟩
    · obtain ⟨b, hb⟩ := any_ref h4 h
      exact ⟨b, .tail _ hb⟩
mutual
theorem Ow.gd {K : PySem.W.Frag} {G H : Hp} : ∀ {t : Tr} {v : V} {fp : List Addr}, Ow K G H t v fp → gdT t = true → ∀ a ∈ fp, Gd H a
  | .fz _, _, _, ⟨h, _⟩, _, a, ha => by subst h; cases ha
  | .ow ts, _, _, ⟨b, vs, fq, h1, h2, h3, h4⟩, g, a, ha => by
    subst h4
    rcases List.mem_cons.mp ha with rfl | ha
    · exact .inl ⟨_, h2⟩
    · exact OwL.gd h3 g a ha
  | .tp ts, _, _, ⟨b, vs, fq, h1, h2, h3, h4⟩, g, a, ha => by
    subst h4
    have g' : (ts.any isO && gdTs ts) = true := g
    rw [Bool.and_eq_true] at g'
    rcases List.mem_cons.mp ha with rfl | ha
    · obtain ⟨c, hc⟩ := any_ref h3 g'.1
      exact .inr ⟨_, c, h2, hc⟩
    · exact OwL.gd h3 g'.2 a ha
theorem OwL.gd {K : PySem.W.Frag} {G H : Hp} : ∀ {ts : List Tr} {vs : List V} {fp : List Addr}, OwL K G H ts vs fp → gdTs ts = true → ∀ a ∈ fp, Gd H a
  | [], _, _, ⟨_, h⟩, _, a, ha => by subst h; cases ha
  | t :: ts, _, _, ⟨v, r, f1, f2, h1, h2, h3, h4⟩, g, a, ha => by
    subst h2
    have g' : (gdT t && gdTs ts) = true := g
    rw [Bool.and_eq_true] at g'
    rcases List.mem_append.mp ha with ha | ha
    · exact h3.gd g'.1 a ha
    · exact OwL.gd h4 g'.2 a ha
end
def gdS (ρ : En) : Bool := ρ.all fun o => match o with
  | none => true
  | some t => gdT t
theorem OwS.gd {K : PySem.W.Frag} {G H : Hp} : ∀ {ρ : En} {σ : St} {fp : List Addr}, OwS K G H ρ σ fp → gdS ρ = true → ∀ a ∈ fp, Gd H a
  | [], _, _, ⟨_, h⟩, _, a, ha => by subst h; cases ha
  | none :: ρ, _, _, ⟨o, r, h1, h2⟩, g, a, ha => OwS.gd (ρ := ρ) h2 g a ha
  | some t :: ρ, _, _, ⟨v, r, f1, f2, h1, h2, h3, h4⟩, g, a, ha => by
    subst h2
    have g' : (gdT t && gdS ρ) = true := g
    rw [Bool.and_eq_true] at g'
    rcases List.mem_append.mp ha with ha | ha
    · exact h3.gd g'.1 a ha
    · exact OwS.gd h4 g'.2 a ha
theorem hvl_flats {K : PySem.W.Frag} {G : Hp} : ∀ {ds : List Dv} {xs : List V}, HvL K G ds xs → ds.all isFl = true → (∀ G', HvL K G' ds xs) ∧ ∀ b, V.ref b ∉ xs
  | [], _, h, _ => by rw [show _ = [] from h]; exact ⟨fun _ => rfl, fun _ z => nomatch z⟩
  | .fl v :: ds, _, ⟨x, r, h1, h2, h3⟩, g => by
    subst h1
    obtain ⟨q1, q2⟩ := hvl_flats h3 (show ds.all isFl = true from g)
    obtain ⟨rfl, hf⟩ := h2
    refine ⟨fun G' => ⟨_, r, rfl, ⟨rfl, hf⟩, q1 G'⟩, fun b z => ?_⟩
    rcases List.mem_cons.mp z with z | z
    · subst z; cases hf
    · exact q2 b z
  | .lst _ :: _, _, _, g => by cases g
  | .tup _ :: _, _, _, g => by cases g
theorem Hv.lf {K : PySem.W.Frag} {G : Hp} {fp : List Addr} (hg : ∀ a ∈ fp, Gd G a) : ∀ {d : Dv} {v : V}, Hv K G d v → lfD d = true → Hv K (less G fp) d v
  | .fl _, _, h, _ => h
  | .lst _, _, _, g => by cases g
  | .tup ds, _, ⟨a, xs, h1, h2, h3⟩, g => by
    obtain ⟨q1, q2⟩ := hvl_flats h3 g
    refine ⟨a, xs, h1, ?_, q1 _⟩
    have out : ∀ o, G a = some o → (∀ xs, o ≠ .lst xs) → (∀ ys, o = .tup ys → ys = xs) → less G fp a = some o := fun o ho n1 n2 => by
      rw [less_out fun z => ?_]
      · exact ho
      · rcases hg a z with ⟨ys, hy⟩ | ⟨ys, b, hy, hb⟩
        · rw [ho] at hy; cases hy; exact n1 ys rfl
        · rw [ho] at hy
          cases hy
          rw [n2 ys rfl] at hb
          exact q2 b hb
    rcases h2 with (h | ⟨o, h⟩) | h
    · exact .inl (.inl (out _ h (fun _ z => nomatch z) fun ys z => by cases z; rfl))
    · exact .inl (.inr ⟨o, out _ h (fun _ z => nomatch z) fun ys z => nomatch z⟩)
    · exact .inr h
mutual
theorem Ow.lf {K : PySem.W.Frag} {G H : Hp} {fp : List Addr} (hg : ∀ a ∈ fp, Gd G a) : ∀ {t : Tr} {v : V} {fq : List Addr}, Ow K G H t v fq → lfT t = true → Ow K (less G fp) H t v fq
  | .fz _, _, _, ⟨h1, h2⟩, g => ⟨h1, h2.lf hg g⟩
  | .ow _, _, _, ⟨b, vs, fq, h1, h2, h3, h4⟩, g => ⟨b, vs, fq, h1, h2, OwL.lf hg h3 g, h4⟩
  | .tp _, _, _, ⟨b, vs, fq, h1, h2, h3, h4⟩, g => ⟨b, vs, fq, h1, h2, OwL.lf hg h3 g, h4⟩
theorem OwL.lf {K : PySem.W.Frag} {G H : Hp} {fp : List Addr} (hg : ∀ a ∈ fp, Gd G a) : ∀ {ts : List Tr} {vs : List V} {fq : List Addr}, OwL K G H ts vs fq → lfTs ts = true → OwL K (less G fp) H ts vs fq
  | [], _, _, h, _ => h
  | t :: ts, _, _, ⟨v, r, f1, f2, h1, h2, h3, h4⟩, g => by
    have g' : (lfT t && lfTs ts) = true := g
    rw [Bool.and_eq_true] at g'
    exact ⟨v, r, f1, f2, h1, h2, h3.lf hg g'.1, OwL.lf hg h4 g'.2⟩
end
theorem Ev.pkL {ι : Type} {F : Fam ι} {e : Expr} {ρ : En} {t : Tr} (h : Ev F e (L2.pk ρ) t) (c : lfT t = true) (hρ : gdS ρ = true) : EvS F e ρ t := by
  obtain ⟨τ, x, y⟩ := h
  refine ⟨τ, x, fun σ G H fp Q s r hg k => ?_⟩
  refine y σ (frzd G H fp) H Q (frzd_sub s) (r.pk (frzd_same hg) fun a ha => frzd_in ha) fun v G' H' fq st o w => ?_
  have gd : ∀ a ∈ fp, Gd G' a := fun a ha => by
    rcases r.gd hρ a ha with ⟨xs, q⟩ | ⟨xs, b, q, hb⟩
    · exact .inl ⟨xs, st.g _ _ ((frzd_in ha).trans q)⟩
    · exact .inr ⟨xs, b, st.g _ _ ((frzd_in ha).trans q), hb⟩
  refine k v (less G' fp) H' fq ⟨fun b u hb => ?_, st.h, less_sub.trans st.s, fun a h h' => ?_⟩ (o.lf gd c) ⟨w.n, fun a ha => ?_, w.d⟩
  · have nb : b ∉ fp := fun z => by rw [hg b z] at hb; cases hb
    rw [less_out nb]
    exact st.g _ _ ((frzd_out nb).trans hb)
  · have nb : a ∉ fp := fun z => h' (less_in z)
    rw [less_out nb] at h'
    exact st.n a ((frzd_out nb).trans h) h'
  · by_cases z : a ∈ fp
    · exact less_in z
    · rw [less_out z]; exact w.g a ha
end L2
namespace L2
open PySem PySem.Spec PyProof.Rows
theorem uE_of {ι : Type} {F : Fam ι} {e : Expr} {ρ : En} {t : Tr} {σ : St} {G H : Hp} {Q : VK} (h : Ev F e ρ t) (s : Same G H) (r : RpD F.K G ρ σ) (k : Kv F.K G H t Q) : uE F e σ H Q := let ⟨τ, x, y⟩ := h; ⟨τ, x, y σ G H Q s r k⟩
theorem uT_of {ι : Type} {F : Fam ι} {e : Expr} {ρ : En} {b : Bool} {σ : St} {G H : Hp} {Q : Bool → Hp → Prop} (h : Et F e ρ b) (s : Same G H) (r : RpD F.K G ρ σ) (k : ∀ G' H', Step G H G' H' → Q b H') : uT F e σ H Q := let ⟨τ, x, y⟩ := h; ⟨τ, x, y σ G H Q s r k⟩
section
variable {ι : Type} {F : Fam ι} {e : Expr} {ρ : En} {pos : Pos}
end
theorem ElcL {ι : Type} {F : Fam ι} {own : List Str} {fr : List Nat} {sc : Scope} {cl : ι → List (Str × Addr)} {elt tg iter : Expr} {ifs : List Expr} {ρ : En} {t : Tr} (h : Elc F own fr sc cl elt tg iter ifs (pk ρ) t) (c : lfT t = true) (hρ : gdS ρ = true) : ∃ τ, LcV F own fr sc cl elt tg iter ifs τ ∧ ∀ σ G H fp Q, Same G H → OwS F.K G H ρ σ fp → (∀ a ∈ fp, G a = none) → Kv F.K G H t Q → τ σ H Q := by
  obtain ⟨τ, x, y⟩ := h
  refine ⟨τ, x, fun σ G H fp Q s r hg k => ?_⟩
  refine y σ (frzd G H fp) H Q (frzd_sub s) (r.pk (frzd_same hg) fun a ha => frzd_in ha) fun v G' H' fq st o w => ?_
  have gd : ∀ a ∈ fp, Gd G' a := fun a ha => by
    rcases r.gd hρ a ha with ⟨xs, q⟩ | ⟨xs, b, q, hb⟩
    · exact .inl ⟨xs, st.g _ _ ((frzd_in ha).trans q)⟩
    · exact .inr ⟨xs, b, st.g _ _ ((frzd_in ha).trans q), hb⟩
  refine k v (less G' fp) H' fq ⟨fun b u hb => ?_, st.h, less_sub.trans st.s, fun a h h' => ?_⟩ (o.lf gd c) ⟨w.n, fun a ha => ?_, w.d⟩
  · have nb : b ∉ fp := fun z => by rw [hg b z] at hb; cases hb
    rw [less_out nb]
    exact st.g _ _ ((frzd_out nb).trans hb)
  · have nb : a ∉ fp := fun z => h' (less_in z)
    rw [less_out nb] at h'
    exact st.n a ((frzd_out nb).trans h) h'
  · by_cases z : a ∈ fp
    · exact less_in z
    · rw [less_out z]; exact w.g a ha
end L2
namespace L2
open PySem PySem.Spec PyProof.Rows
section
variable {ι : Type} {F : Fam ι} {ρ ρ1 ρ' : En} {st : Stmt} {sts body A B : List Stmt} {c tg iter : Expr} {pos : Pos} {its : List Dv} {js : List Nat} {sp : Dv → Option (List Dv)}
end
end L2
namespace L2
open PySem PySem.Spec PyProof.Rows
end L2
namespace L2
open PySem PySem.Spec PyProof.Rows
section
variable {X : Cx}
def rMin1 (K : PySem.W.Frag) : List V → Hp → VK → Prop := fun xs H Q => ∃ (p : Addr) (ns : List Int) (m : Int), xs = [.ref p] ∧ SqL K H p (ns.map V.int) ∧ (m ∈ ns ∧ ∀ a ∈ ns, m ≤ a) ∧ Q (.int m) H
theorem call_min1 (hc : X.calm = true) : CallR X (.builtin "min") (rMin1 X.K) := by
  intro pins s σ H xs us Q I r h
  obtain ⟨p, ns, m, rfl, hq, hm, q⟩ := h
  cases r with
  | cons r1 rr =>
    cases rr
    cases r1
    obtain ⟨its, rv, pl, hz⟩ := I.list hq
    obtain ⟨zs, rfl, rfl⟩ := vals_intItems rv
    have hne : 0 < zs.toArray.size := by
      cases zs with
      | nil => cases hm.1
      | cons z zs => simp
    refine PySem.min_intList (xs := zs.toArray) (I.ok.hd hc) (by simpa [PySem.intItems] using pl.isList) hne fun v h' tk hv hk => ?_
    obtain ⟨t, rfl⟩ := PySem.intItems_at hv
    obtain ⟨h1, h2⟩ := PySem.argBest_lt (PySem.numAt zs.toArray) (zs.toArray.size - 1)
    generalize PySem.argBest (fun i j => decide (PySem.numAt zs.toArray i < PySem.numAt zs.toArray j)) (zs.toArray.size - 1) = b at *
    have hl : (zs.toArray.toList.map (·.1)).length = zs.toArray.size := by rw [List.length_map, Array.length_toList]
    have e : PySem.numAt zs.toArray b = m := by
      have i1 : PySem.numAt zs.toArray b ∈ zs.map (·.1) := by
        rw [PySem.numAt_eq]
        exact PySem.getD_mem (by
          have e0 : zs.toArray.size = zs.length := by simp
          rw [List.length_map]; omega)
      obtain ⟨j, hj, ej⟩ := PySem.mem_getD hm.1
      have := h2 j (by rw [List.length_map] at hj; simp; omega)
      have e2 : PySem.numAt zs.toArray j = m := by rw [PySem.numAt_eq]; exact ej
      have := hm.2 _ i1
      omega
    rw [e]
    exact ⟨.int m, H, I.kept (t' := tk) hk, ⟨t, rfl⟩, q⟩
end
section
variable {ι : Type} {F : Fam ι} {e : Expr} {ρ : En} {pos : Pos} {ta : Tr}
theorem ev_min1 {ns : List Int} {m : Int} (hm : F.mg "min" = none) (ha : Ev F e ρ ta) (ea : er ta = dis ns) (h : m ∈ ns ∧ ∀ a ∈ ns, m ≤ a) {p' : Pos} (hg : ∀ i, Gl (F.cx i) "min" := by intro _; rfl)
    (hs : ∀ i, starEach [e] (F.cx i).env = [(false, eval e (F.cx i).env)] := by intro _; rfl) : Ev F (.Call (.Name "min" p') [e] [] pos) ρ (ti m) :=
  ev_callB (r := rMin1 F.K) (fun i => F.hK i ▸ call_min1 (F.calm i)) hm bt_min (eva_cons ha eva_nil hs) (fun G H vs Q s hx k => by
    obtain ⟨x, rfl, hxx⟩ := hvl1 hx
    replace hx := hxx
    rw [ea] at hx
    obtain ⟨l, ys, rfl, h1, h2⟩ := hx
    have := hvl_ints h2
    subst this
    exact ⟨l, ns, m, rfl, s.seq h1, h, k.sc s rfl⟩) hg (by decide) (by decide) hs (fun _ => rfl)
end
section
variable {ι : Type} {F : Fam ι} {ρ : En} {t : Tr} {c : Expr} {A sts : List Stmt} {pos : Pos}
theorem rns_ifr {p : Bool} (hc : EtS F c ρ p) (h1 : p = true → Rns F A ρ (.rt t)) (h2 : p = false → Rns F sts ρ (.rt t)) : Rns F (.If c A [] pos :: sts) ρ (.rt t) := by
  cases p with
  | true => exact rns_ret (rn_ifT hc rfl (h1 rfl))
  | false => exact rns_cons (rn_skip hc rfl) (h2 rfl)
end
section
variable {ι : Type} {F : Fam ι} {ρ : En} {tg iter : Expr} {body sts : List Stmt} {pos : Pos} {its : List Dv} {js : List Nat} {sp : Dv → Option (List Dv)} {o : Out}
theorem rns_forg (hi : EvIS F tg iter ρ its) (hg : EvG F tg js sp) (inv : Nat → En) (m : Nat) (hm : m ≤ its.length) (h0 : inv 0 = ρ) (hlen : ∀ k, js.all (fun j => Nat.blt j (inv k).length) = true)
    (step : ∀ k d, k < m → its[k]? = some d → ∃ dd ρb, sp d = some dd ∧ Rns F body (setAll js (dd.map .fz) (inv k)) (.nx ρb) ∧ Fg ρb (inv (k + 1)))
    (fin : (m = its.length ∧ Rns F sts (inv m) o) ∨ ∃ d dd t, its[m]? = some d ∧ sp d = some dd ∧ Rns F body (setAll js (dd.map .fz) (inv m)) (.rt t) ∧ o = .rt t)
    (hx : ∀ i, (F.cx i).xe = NoX := by intro _; rfl) (hs : ∀ i x, foldedSetIterable iter (F.cx i).env x = pure x := by intro _ _; rfl) : Rns F (.For tg iter body [] pos :: sts) ρ o := by
  rcases fin with ⟨h1, h2⟩ | ⟨d, dd, t, h1, h2, h3, rfl⟩
  · exact rns_cons (rn_for_gen hi hg inv m hm h0 hlen step (.inl ⟨h1, rfl⟩) hx hs) h2
  · exact rns_ret (rn_for_gen hi hg inv m hm h0 hlen step (.inr ⟨d, dd, t, h1, h2, h3, rfl⟩) hx hs)
end
end L2
namespace L2
open PySem PySem.Spec PyProof.Rows
section
open PySem.MeetsSeq PySem.AutoSeq1
theorem rm_loop (l : Addr) (items : Array Value) (n : Nat) (x : Value) (e : Value → Bool) (j : Nat) (hj : j < items.size) (hit : e items[j] = true) (k : Nat) (hs1 : items.size ≤ sizeLine) :
    ∀ i : Nat, j - i = k → i ≤ j → (∀ m (hm : m < items.size), i ≤ m → m < j → e items[m] = false) → Meets (Builtin.«list.remove.loop» ⟨[.ref l, x, rawInt i], []⟩)
      (fun A R s => s.heap.get? l = some { cls := .type "list", dict := none, data := .seq items n, slots := #[] } ∧ (∀ y, y ∈ items → SeqAt.EqAt A.in1 s y x (e y)) ∧ R (.ok (.ret .none)) { s with heap := s.heap.update l (Obj.mapSeq fun xs => xs.eraseIdxIfInBounds j) }) := by
  induction k with
  | zero =>
    intro i hk hij hno prog w A R s h
    obtain ⟨hp, g, d, tk, os⟩ := s; obtain ⟨hl, he, h⟩ := h
    have hij' : i = j := by omega
    subst hij'
    wp_walk using wpAny_loadPart' hl
    have hi : items[((i : Nat) : Int).toNat]? = some items[i] := by simp [hj]
    rw [hi]
    refine wpAny_bind (he _ (Array.getElem_mem hj) prog w _ _ ?_)
    rw [hit]
    have hz' : (items.eraseIdxIfInBounds i).size ≤ sizeLine + 1 := Nat.le_trans (size_erased items _) (Nat.le_succ_of_le hs1)
    wp_walk using (wpAny_updateSeq hl rfl (hz := hs1) (_hz' := hz')), wpAny_loadPart' hl
    simpa using h
  | succ k ih =>
    intro i hk hij hno prog w A R s h
    obtain ⟨hp, g, d, tk, os⟩ := s; obtain ⟨hl, he, h⟩ := h
    have hlt : i < items.size := by omega
    wp_walk using wpAny_loadPart' hl
    have hi : items[((i : Nat) : Int).toNat]? = some items[i] := by simp [hlt]
    have hc : ((i : Int) + 1) = ((i + 1 : Nat) : Int) := by push_cast; rfl
    rw [hi]
    refine wpAny_bind (he _ (Array.getElem_mem hlt) prog w _ _ ?_)
    rw [hno i hlt (Nat.le_refl _) (by omega)]
    wp_walk
    rw [hc]
    exact ⟨plainId_quiet plain_remove_loop _, codeAny_builtin entry_remove_loop (by
      rw [Around.under_plainId plain_remove_loop _]
      exact ih (i + 1) (by omega) (by omega) (fun m hm h1 h2 => hno m hm (by omega) h2) prog w A R _ ⟨hl, he, h⟩)⟩
theorem rm_list (l : Addr) (items : Array Value) (n : Nat) (x : Value) (e : Value → Bool) (j : Nat) (hj : j < items.size)
    (hit : e items[j] = true) (hno : ∀ m (hm : m < items.size), m < j → e items[m] = false) (hs1 : items.size ≤ sizeLine) :
    Meets (Builtin.«list.remove» ⟨[.ref l, x], []⟩)
      (fun A R s => s.heap.get? l = some { cls := .type "list", dict := none, data := .seq items n, slots := #[] } ∧ (∀ y, y ∈ items → SeqAt.EqAt A.in1 s y x (e y)) ∧ R (.ok (.ret .none)) { s with heap := s.heap.update l (Obj.mapSeq fun xs => xs.eraseIdxIfInBounds j) }) := by
  intro prog w A R s h
  obtain ⟨hp, g, d, tk, os⟩ := s; obtain ⟨hl, he, h⟩ := h
  wp_walk using wpAny_loadPart' hl
  exact ⟨plainId_quiet plain_remove_loop _, codeAny_builtin entry_remove_loop (by
    rw [Around.under_plainId plain_remove_loop _]
    exact rm_loop l items n x e j hj hit _ hs1 0 rfl (Nat.zero_le _) (fun m hm _ h2 => hno m hm h2) prog w A R _ ⟨hl, he, h⟩)⟩
end
section
variable {X : Cx}
def rInsert : V → List V → Hp → VK → Prop := fun x vs H Q => ∃ l xs i y, x = .ref l ∧ vs = [.int i, y] ∧ H l = some (.lst xs) ∧ 0 ≤ i ∧ i ≤ xs.length ∧ xs.length < 1000 ∧ Q .non (upd H l (.lst (xs.take i.toNat ++ y :: xs.drop i.toNat)))
theorem mt_insert : MtM X "list.insert" rInsert := by
  intro pins s σ H x vs v us Q I rx rv h
  obtain ⟨l, xs, i, y, rfl, rfl, hH, h0, h1, hz, q⟩ := h
  cases rx
  cases rv with
  | cons r1 rr =>
    cases rr with
    | cons r2 rr =>
      cases rr
      obtain ⟨t, rfl⟩ := r1
      rename_i u
      obtain ⟨z, its, n, r, hl, e⟩ := I.lstM hH
      have big : 1000 < sizeLine := by decide
      have hf : Builtin.List.listFitsIndex i = true := fitsIndex_both (by omega) (by omega)
      refine call_meets PySem.F.slot_list_insert ⟨_, e, rfl⟩ PySem.F.entry_list_insert (PySem.F.args_list_insert_3 _ _ _)
        (AutoSeq1.list_insert_list_int_val_1 l its.toArray n i t u (by rw [hf]; decide) (by rw [List.size_toArray]; omega)) ⟨e, ?_⟩
      refine ⟨.non, _, I.lset (its' := its.take i.toNat ++ u :: its.drop i.toNat) hH e ?_ ?_ ?_, rfl, q⟩
      · show (its.toArray.extract 0 (if i < 0 then (i + (its.toArray.size : Int)).toNat else min i.toNat its.toArray.size)).push u ++ its.toArray.extract (if i < 0 then (i + (its.toArray.size : Int)).toNat else min i.toNat its.toArray.size) = _
        rw [if_neg (by omega), List.size_toArray, Nat.min_eq_left (by omega)]
        apply Array.toList_inj.mp
        simp
        exact List.take_of_length_le (by rw [List.length_drop]; omega)
      · exact (r.take _).append (.cons r2 (r.drop _))
      · rw [List.length_append, List.length_cons, List.length_take, List.length_drop]; omega
def rRemove (K : PySem.W.Frag) : V → List V → Hp → VK → Prop := fun x vs H Q => ∃ (l : Addr) (as : List Addr) (ds : List Dv) (d : Dv) (y : V) (j : Nat), x = .ref l ∧ vs = [y] ∧ H l = some (.lst (as.map V.ref)) ∧ as.Nodup ∧ HvL K H ds (as.map V.ref) ∧ Hv K H d y ∧ (∀ d' ∈ ds, dpD d' ≤ 50) ∧ j < ds.length ∧ (∀ d', ds[j]? = some d' → eqD d' d = true) ∧ (∀ m d', m < j → ds[m]? = some d' → eqD d' d = false) ∧ as.length < 1000 ∧ Q .non (upd H l (.lst ((as.map V.ref).eraseIdx j)))
theorem hvl_at {K : PySem.W.Frag} {H : Hp} : ∀ {ds : List Dv} {xs : List V} {m : Nat} {d : Dv}, HvL K H ds xs → ds[m]? = some d → ∃ x, xs[m]? = some x ∧ Hv K H d x
  | d0 :: ds, _, 0, d, ⟨x, r, h1, h2, _⟩, h => by cases h; subst h1; exact ⟨x, rfl, h2⟩
  | d0 :: ds, _, m + 1, d, ⟨x, r, h1, _, h3⟩, h => by
    subst h1
    exact hvl_at (ds := ds) (xs := r) (m := m) h3 h
  | [], _, m, d, _, h => by cases m <;> cases h
theorem refs_vals : ∀ {as : List Addr} {its : List Value}, Vals (as.map V.ref) its → its = as.map Value.ref
  | [], _, .nil => rfl
  | a :: as, _, .cons r t => by
    cases r
    rw [refs_vals t]; rfl
theorem mt_remove (hr : X.A.units + 64 < cLine) : MtM X "list.remove" (rRemove X.K) := by
  intro pins s σ H x vs v us Q I rx rv h
  obtain ⟨l, as, ds, d, y, j, rfl, rfl, hH, nd, hds, hd, dp, hj, hit, hno, hz, q⟩ := h
  cases rx
  obtain ⟨u, rfl, ru⟩ := rv.one
  obtain ⟨z, its, n, r, hl, e⟩ := I.lstM hH
  have hits := refs_vals r
  subst hits
  have big : 1000 < sizeLine := by decide
  have dl : ds.length = as.length := by have := hds.length; rw [List.length_map] at this; exact this
  let ev : Value → Bool := fun w => match w with
    | .ref a => (match ds[as.idxOf a]? with | some d' => eqD d' d | none => false)
    | _ => false
  have evm : ∀ (m : Nat) (hm : m < as.length) (d' : Dv), ds[m]? = some d' → ev (.ref as[m]) = eqD d' d := fun m hm d' h => by
    show (match ds[as.idxOf as[m]]? with | some d' => eqD d' d | none => false) = _
    have : as.idxOf as[m] = m := by
      have hi : as.idxOf as[m] < as.length := List.idxOf_lt_length_iff.mpr (List.getElem_mem hm)
      exact (List.getElem_inj nd).mp (List.getElem_idxOf hi)
    rw [this, h]
  refine call_meets PySem.F.slot_list_remove ⟨_, e, rfl⟩ PySem.F.entry_list_remove (PySem.F.args_list_remove_2 _ _)
    (rm_list l (as.map Value.ref).toArray n u ev j (by simp; omega) ?_ ?_ (by simp; omega)) ⟨e, fun w hw => ?_, ?_⟩
  · have : (as.map Value.ref).toArray[j]'(by simp; omega) = .ref (as[j]'(by omega)) := by simp
    rw [this, evm j (by omega) _ (List.getElem?_eq_getElem hj)]
    exact hit _ (List.getElem?_eq_getElem hj)
  · intro m hm hlt
    have hm' : m < as.length := by simpa using hm
    have : (as.map Value.ref).toArray[m]'hm = .ref (as[m]'hm') := by simp
    rw [this, evm m hm' _ (List.getElem?_eq_getElem (by omega))]
    exact hno m _ hlt (List.getElem?_eq_getElem (by omega))
  · obtain ⟨a, ha, rfl⟩ : ∃ a, a ∈ as ∧ Value.ref a = w := by simpa using hw
    obtain ⟨m, hm, rfl⟩ := List.getElem_of_mem ha
    have hdm : ds[m]? = some (ds[m]'(by omega)) := List.getElem?_eq_getElem (by omega)
    rw [evm m hm _ hdm]
    obtain ⟨xv, hx1, hx2⟩ := hvl_at hds hdm
    rw [List.getElem?_map, List.getElem?_eq_getElem hm] at hx1
    cases hx1
    refine eqAt_D I _ d X.A.in1 _ y _ u ?_ hx2 hd rfl ru
    have := dp _ (List.mem_of_getElem? hdm)
    show X.A.units + 1 + _ < cLine
    omega
  · refine ⟨.non, _, I.lset (its' := (as.map Value.ref).eraseIdx j) hH e ?_ (r.eraseIdx j) ?_, rfl, q⟩
    · show (as.map Value.ref).toArray.eraseIdxIfInBounds j = _
      rw [List.eraseIdxIfInBounds_toArray]
    · have := len_erase (as.map V.ref) j
      rw [List.length_map] at this
      omega
end
end L2
namespace K10
open PySem L2 Fra
def top (i : Nat) : Stmt := PySem.Challenge.pw_lotmeal_k10_shares_or_none.main.body.getD i (.Pass ⟨0, 0, 0, 0⟩)
structure Txt (mg : Str → Option Value) : Prop where
  b_isinstance : mg "isinstance" = none
  b_int : mg "int" = none
  b_bool : mg "bool" = none
  b_list : mg "list" = none
  b_tuple : mg "tuple" = none
  b_len : mg "len" = none
  b_range : mg "range" = none
  b_zip : mg "zip" = none
  b_any : mg "any" = none
  b_all : mg "all" = none
  b_enumerate : mg "enumerate" = none
  b_set : mg "set" = none
  b_abs : mg "abs" = none
  b_sum : mg "sum" = none
  b_min : mg "min" = none
  g_MOST : ∃ tk, mg "MOST" = some (.int 6 tk)
  g_MOST_COUNT : ∃ tk, mg "MOST_COUNT" = some (.int 9 tk)
section
variable {P : Program} {w : World} {K : PySem.W.Frag} {mg : Str → Option Value} {base : Heap}
def numsF (n : Nat) : List Int := (List.range n).map fun i => 0 + ((i : Nat) : Int)
theorem mem_nums {n : Nat} {x : Int} : x ∈ numsF n ↔ 0 ≤ x ∧ x < n := by
  unfold numsF
  constructor
  · intro h
    obtain ⟨i, hi, rfl⟩ := List.mem_map.mp h
    have := List.mem_range.mp hi
    omega
  · rintro ⟨h0, h1⟩
    exact List.mem_map.mpr ⟨x.toNat, List.mem_range.mpr (by omega), by omega⟩
theorem nums_nodup (n : Nat) : (numsF n).Nodup := by
  unfold numsF
  rw [List.nodup_iff_pairwise_ne, List.pairwise_map]
  exact (List.nodup_range (n := n)).imp fun h z => h (by omega)
abbrev s_common_part : Stmt := top 9
theorem sc_common_part : FnScope ["one", "other", "rest"] ["one", "other"] (defScope s_common_part) := ⟨rfl, rfl, rfl, by decide +kernel, rfl, by decide +kernel, by decide +kernel⟩
def rPart (dd : List Dv) (t : Tr) : Prop := ∃ a b : Int, 0 ≤ a ∧ 0 ≤ b ∧ dd = [di a, di b] ∧ t = ti (gc a b)
theorem ok_common_part {f : Addr} {fd : FuncData} {k : Nat} (F : Fun K "common_part" "common_part" s_common_part f fd) (T : Txt mg) : FnOk P w K mg base CX0 (k + 1) f fd ["one", "other"] (spT K rPart) := by
  refine fn_ok F.d sc_common_part (fun dd t h => by obtain ⟨_, _, _, _, rfl, _⟩ := h; rfl) fun dd t h => ?_
  obtain ⟨a, b, ha, hb, rfl, rfl⟩ := h
  refine ⟨_, .inl rfl, ?_⟩
  refine rns_while_by (fun p : Int × Int => [some (ti p.1), some (ti p.2), none]) (fun p => 0 ≤ p.1 ∧ 0 ≤ p.2 ∧ gc p.1 p.2 = gc a b) (fun p => !decide (p.2 = 0)) (fun p => p.2.toNat) (a, b) rfl ⟨ha, hb, rfl⟩ (fun p hp => Et.s (et_ne (ev_nm 1 rfl) ev_int)) (fun p hp h => ?_) (fun p hp h => ?_)
  · obtain ⟨x, y⟩ := p
    obtain ⟨h1, h2, h3⟩ := hp
    have hy : y ≠ 0 := by simpa using h
    have h2' : 0 ≤ y := h2
    have l1 := Int.emod_lt_of_pos x (show 0 < y by omega)
    have l2 := Int.emod_nonneg x hy
    refine ⟨(y, x % y), ⟨h2, l2, ?_⟩, ?_, Rns.fg (rns_cons (rn_set 2 (Ev.s (ev_mod (ev_nm 0 rfl) (ev_nm 1 rfl) (by omega))) (fun _ => sc_common_part.nd)) (rns_cons (rn_set 0 (Ev.s (ev_nm 1 rfl)) (fun _ => sc_common_part.nd)) (rns_one (rn_set 1 (Ev.s (ev_nm 2 rfl)) (fun _ => sc_common_part.nd))))) ⟨[2], rfl⟩⟩
    · show gc y (x % y) = _
      rw [gc_step]; exact h3
    · show (x % y).toNat < y.toNat
      omega
  · obtain ⟨x, y⟩ := p
    obtain ⟨h1, h2, h3⟩ := hp
    have hy0 : y = 0 := by simpa using h
    have h3' : gc x y = gc a b := h3
    have h1' : 0 ≤ x := h1
    have e : gc a b = x := by rw [← h3', hy0, gc_zero]; omega
    rw [e]
    exact rns_one (rn_ret (Ev.s (ev_nm 0 rfl)))
abbrev s_is_whole : Stmt := top 8
theorem sc_is_whole : FnScope ["number"] ["number"] (defScope s_is_whole) := ⟨rfl, rfl, rfl, by decide +kernel, rfl, by decide +kernel, by decide +kernel⟩
def rIsWhole (dd : List Dv) (t : Tr) : Prop := ∃ n : Int, dd = [di n] ∧ t = tb true
theorem ok_is_whole {f : Addr} {fd : FuncData} {k : Nat} (F : Fun K "is_whole" "is_whole" s_is_whole f fd) (T : Txt mg) : FnOk P w K mg base CX0 (k + 1) f fd ["number"] (spT K rIsWhole) := by
  refine fn_ok F.d sc_is_whole (fun dd t h => by obtain ⟨n, rfl, _⟩ := h; rfl) fun dd t h => ?_
  obtain ⟨n, rfl, rfl⟩ := h
  refine ⟨_, .inl rfl, ?_⟩
  exact rns_one (rn_ret (Ev.s (Ev.to (ev_and (p := true) (q := true) (ev_isi T.b_isinstance T.b_int bt_int (ev_nm 0 rfl) (by with_unfolding_all rfl)) fun _ => (ev_one (ev_not (p := false) (ev_isi T.b_isinstance T.b_bool bt_bool (ev_nm 0 rfl) (by with_unfolding_all rfl))))) rfl)))
abbrev s_fraction : Stmt := top 10
theorem sc_fraction : FnScope ["top", "bottom", "part"] ["top", "bottom"] (defScope s_fraction) := ⟨rfl, rfl, rfl, by decide +kernel, rfl, by decide +kernel, by decide +kernel⟩
def rFrac (dd : List Dv) (t : Tr) : Prop := ∃ a b : Int, 0 < b ∧ b.natAbs < 2 ^ 8000 ∧ dd = [di a, di b] ∧ t = tF (lT a b, lB a b)
theorem ok_fraction {f f1 f2 : Addr} {fd fd1 fd2 : FuncData} {dV : Value} {k : Nat} (F : FunD K "fraction" "fraction" s_fraction dV f fd) (T : Txt mg) (K_is_whole : Kn P w K mg base CX0 (k + 1) "is_whole" f1 fd1 ["number"] (spT K rIsWhole)) (K_common_part : Kn P w K mg base CX0 (k + 1) "common_part" f2 fd2 ["one", "other"] (spT K rPart)) : FnOk P w K mg base CX0 (k + 2) f fd ["top", "bottom"] (spT K rFrac) := by
  refine fn_ok F sc_fraction (fun dd t h => by obtain ⟨_, _, _, _, rfl, _⟩ := h; rfl) fun dd t h => ?_
  obtain ⟨a, b, hb, hz, rfl, rfl⟩ := h
  refine ⟨_, .inl rfl, ?_⟩
  refine rns_cons (rn_skip (Et.s (Ew.et (ew_or (et_not (et_val (ev_call K_is_whole (Nat.le_refl _) (eva_cons (ev_nm 0 rfl) eva_nil) ⟨a, rfl, rfl⟩))) fun _ => (ew_or1 (et_not (et_val (ev_call K_is_whole (Nat.le_refl _) (eva_cons (ev_nm 1 rfl) eva_nil) ⟨b, rfl, rfl⟩))))))) rfl) ?_
  refine rns_cons (rn_skip (Et.s (et_eq (ev_nm 1 rfl) ev_int)) (decide_eq_false (by omega))) ?_
  have ha : 0 ≤ (if a < 0 then -a else a) := by split <;> omega
  have hb' : 0 ≤ (if b < 0 then -b else b) := by split <;> omega
  have eg : gc (if a < 0 then -a else a) (if b < 0 then -b else b) = gc a b := by
    rw [show (if a < 0 then -a else a) = (a.natAbs : Int) by split <;> omega, show (if b < 0 then -b else b) = (b.natAbs : Int) by split <;> omega, gc_abs]
  have gp := gc_pos (a := a) (show b ≠ 0 by omega)
  have gl := gc_le_r (a := a) hb
  refine rns_cons (rn_set 2 (EvS.to (t' := ti (gc a b)) (Ev.s (ev_call K_common_part (Nat.le_refl _) (eva_cons (ev_abs T.b_abs (ev_nm 0 rfl)) (eva_cons (ev_abs T.b_abs (ev_nm 1 rfl)) eva_nil)) ⟨_, _, ha, hb', rfl, rfl⟩)) (by rw [eg])) (fun _ => sc_fraction.nd)) ?_
  refine rns_cons (rn_skip (Et.s (et_lt (ev_nm 1 rfl) ev_int)) (decide_eq_false (by omega))) ?_
  have cd : ∀ i : Int, CDivB i (gc a b) := fun i => ⟨gp, Nat.lt_of_le_of_lt (by omega) hz⟩
  refine rns_one (rn_ret (Ev.s (ev_tupD (eva_cons (ev_div (ev_nm 0 rfl) (ev_nm 2 rfl) (cd _)) (eva_cons (ev_div (ev_nm 1 rfl) (ev_nm 2 rfl) (cd _)) eva_nil)) ?_ (by show 2 ≤ sizeLine; decide))))
  show [di (a / gc a b), di (b / gc a b)] = _
  rw [lT_pos hb, lB_pos hb]
abbrev s_plus : Stmt := top 11
theorem sc_plus : FnScope ["one", "other"] ["one", "other"] (defScope s_plus) := ⟨rfl, rfl, rfl, by decide +kernel, rfl, by decide +kernel, by decide +kernel⟩
def SmallF (p : Int × Int) : Prop := 0 < p.2 ∧ p.2.natAbs < 2 ^ 90 ∧ p.1.natAbs < 2 ^ 90
def rPlus (dd : List Dv) (t : Tr) : Prop := ∃ p q : Int × Int, SmallF p ∧ SmallF q ∧ dd = [dF p, dF q] ∧ t = tF (lT (p.1 * q.2 + q.1 * p.2) (p.2 * q.2), lB (p.1 * q.2 + q.1 * p.2) (p.2 * q.2))
theorem lt_big {a : Int} {n : Nat} (h : a.natAbs < 2 ^ n) (hn : n ≤ 8000) : a.natAbs < 2 ^ 8000 := Nat.lt_of_lt_of_le h (Nat.pow_le_pow_right (by decide) hn)
theorem mul_lt {a b : Int} {m n : Nat} (h1 : a.natAbs < 2 ^ m) (h2 : b.natAbs < 2 ^ n) : (a * b).natAbs < 2 ^ (m + n) := by
  rw [Int.natAbs_mul, Nat.pow_add]
  exact Nat.mul_lt_mul'' h1 h2
theorem ok_plus {f f1 : Addr} {fd fd1 : FuncData} {k : Nat} (F : Fun K "plus" "plus" s_plus f fd) (T : Txt mg) (K_fraction : Kn P w K mg base CX0 (k + 2) "fraction" f1 fd1 ["top", "bottom"] (spT K rFrac)) : FnOk P w K mg base CX0 (k + 3) f fd ["one", "other"] (spT K rPlus) := by
  refine fn_ok F.d sc_plus (fun dd t h => by obtain ⟨_, _, _, _, rfl, _⟩ := h; rfl) fun dd t h => ?_
  obtain ⟨p, q, ⟨p1, p2, p3⟩, ⟨q1, q2, q3⟩, rfl, rfl⟩ := h
  refine ⟨_, .inl rfl, ?_⟩
  have at0 : ∀ r : Int × Int, atI [di r.1, di r.2] 0 = some (di r.1) := fun _ => rfl
  have at1 : ∀ r : Int × Int, atI [di r.1, di r.2] 1 = some (di r.2) := fun _ => rfl
  exact rns_one (rn_ret (Ev.s (ev_call K_fraction (Nat.le_refl _) (eva_cons (ev_add (ev_mul (ev_ixT (ev_nm 0 rfl) ev_int rfl (at0 p)) (ev_ixT (ev_nm 1 rfl) ev_int rfl (at1 q)) ⟨lt_big p3 (by decide), lt_big q2 (by decide)⟩) (ev_mul (ev_ixT (ev_nm 1 rfl) ev_int rfl (at0 q)) (ev_ixT (ev_nm 0 rfl) ev_int rfl (at1 p)) ⟨lt_big q3 (by decide), lt_big p2 (by decide)⟩)) (eva_cons (ev_mul (ev_ixT (ev_nm 0 rfl) ev_int rfl (at1 p)) (ev_ixT (ev_nm 1 rfl) ev_int rfl (at1 q)) ⟨lt_big p2 (by decide), lt_big q2 (by decide)⟩) eva_nil)) ⟨_, _, Int.mul_pos p1 q1, lt_big (mul_lt p2 q2) (by decide), rfl, rfl⟩)))
abbrev s_check_orders : Stmt := top 17
theorem sc_check_orders : FnScope ["orders", "many", "asker", "order"] ["orders", "many"] (defScope s_check_orders) := ⟨rfl, rfl, rfl, by decide +kernel, rfl, by decide +kernel, by decide +kernel⟩
def rCheck (dd : List Dv) (t : Tr) : Prop := ∃ (os : List (List Int)) (n : Int), (∀ o ∈ os, o.Nodup ∧ o.length ≤ 100 ∧ ∀ x ∈ o, 0 ≤ x ∧ x < n) ∧ dd = [.lst (os.map dis), di n] ∧ t = tn
theorem er_mapB {α : Type} (l : List α) (f : α → Bool) : er (.ow (l.map fun k => Tr.fz (db (f k)))) = .lst ((l.map f).map db) := by
  rw [er_ow_map, List.map_map]; rfl
theorem ok_check_orders {f : Addr} {fd : FuncData} {k : Nat} (F : Fun K "check_orders" "check_orders" s_check_orders f fd) (T : Txt mg) : FnOk P w K mg base CX0 (k + 1) f fd ["orders", "many"] (spT K rCheck) := by
  refine fn_ok F.d sc_check_orders (fun dd t h => by obtain ⟨_, _, _, rfl, _⟩ := h; rfl) fun dd t h => ?_
  obtain ⟨os, n, ho, rfl, rfl⟩ := h
  refine ⟨_, .inr ⟨rfl, [some (.fz (.lst (os.map dis))), some (ti n), none, none], rfl⟩, ?_⟩
  have big : 1000 < sizeLine := by decide
  refine rns_cons (ρ1 := [some (.fz (.lst (os.map dis))), some (ti n), none, none]) (rn_for (EvI.s (evi_enum T.b_enumerate (ev_nm 0 rfl) rfl)) (evg_t2 2 3 (fun _ => sc_check_orders.nd)) (fun _ => [some (.fz (.lst (os.map dis))), some (ti n), none, none]) rfl (fun _ => rfl) (fun j d hd => ?_)) ?_
  · obtain ⟨x, hx, rfl⟩ := enu_get hd
    obtain ⟨o, ho', rfl⟩ := map_get hx
    obtain ⟨o1, o2, o3⟩ := ho o (List.mem_of_getElem? ho')
    refine ⟨_, _, rfl, rns_one (rn_skip (Et.s (et_val (ev_any (bs := o.map fun x => decide (x < 0) || decide (n ≤ x)) T.b_any (ev_lcm (own := ["thing"]) (fr := [1]) o di (fun x => tb (decide (x < 0) || decide (n ≤ x))) (fun i => lcs ⟨rfl, rfl, by decide +kernel, by decide +kernel, by decide +kernel, by decide +kernel⟩) (evi_list (ev_nm 3 rfl) rfl) (evg_nm 0 (fun _ => by show List.Nodup (["thing", "many"] : List Str); decide)) (by decide) (by omega) (fun x hx => ⟨_, rfl, ev_or (ev_lt (ev_nm 0 rfl) ev_int) fun _ => ev_one (ev_ge (ev_nm 0 rfl) (ev_nm 1 rfl))⟩) (fun dd => by cases dd <;> rfl)) (er_mapB o _)))) ?_), [2, 3], rfl⟩
    rw [List.any_eq_false]
    intro b hb
    obtain ⟨x, hx, rfl⟩ := List.mem_map.mp hb
    obtain ⟨x0, x1⟩ := o3 x hx
    simp only [id, decide_eq_false (show ¬ x < 0 by omega), decide_eq_false (show ¬ n ≤ x by omega)]
    decide
  refine rns_cons (ρ1 := [some (.fz (.lst (os.map dis))), some (ti n), none, none]) (rn_for (EvI.s (evi_enum T.b_enumerate (ev_nm 0 rfl) rfl)) (evg_t2 2 3 (fun _ => sc_check_orders.nd)) (fun _ => [some (.fz (.lst (os.map dis))), some (ti n), none, none]) rfl (fun _ => rfl) (fun j d hd => ?_)) rns_nil
  obtain ⟨x, hx, rfl⟩ := enu_get hd
  obtain ⟨o, ho', rfl⟩ := map_get hx
  obtain ⟨o1, o2, o3⟩ := ho o (List.mem_of_getElem? ho')
  refine ⟨_, _, rfl, rns_one (rn_skip (Et.s (et_ne (ev_lenset T.b_len T.b_set (ev_nm 3 rfl) rfl (by omega)) (ev_len T.b_len (ev_nm 3 rfl) (.inl rfl)))) ?_), [2, 3], rfl⟩
  rw [unlike_nodup o1, List.length_map]
  simp
abbrev s_table_of : Stmt := top 18
theorem sc_table_of : FnScope ["counts", "orders"] ["counts", "orders"] (defScope s_table_of) := ⟨rfl, rfl, rfl, by decide +kernel, rfl, by decide +kernel, by decide +kernel⟩
def rTab (dd : List Dv) (t : Tr) : Prop := ∃ (c : List Int) (os : List (List Int)), TabOk c os ∧ dd = [dis c, .lst (os.map dis)] ∧ t = .tp [tInts c, tRows os]
theorem ok_table_of {f f1 : Addr} {fd fd1 : FuncData} {k : Nat} (F : Fun K "table_of" "table_of" s_table_of f fd) (T : Txt mg) (K_check_orders : Kn P w K mg base CX0 (k + 1) "check_orders" f1 fd1 ["orders", "many"] (spT K rCheck)) : FnOk P w K mg base CX0 (k + 2) f fd ["counts", "orders"] (spT K rTab) := by
  refine fn_ok F.d sc_table_of (fun dd t h => by obtain ⟨_, _, _, rfl, _⟩ := h; rfl) fun dd t h => ?_
  obtain ⟨c, os, ok, rfl, rfl⟩ := h
  refine ⟨_, .inl rfl, ?_⟩
  have big : 1000 < sizeLine := by decide
  have c6 := ok.c6
  have o6 := ok.o6
  have o1 := ok.o1
  obtain ⟨tk, gm⟩ := T.g_MOST
  obtain ⟨tk2, gm2⟩ := T.g_MOST_COUNT
  refine rns_cons (rn_skip (Et.s (Ew.et (ew_or (et_gt (ev_len T.b_len (ev_nm 0 rfl) (.inl rfl)) (ev_glob (v := .int 6) gm ⟨_, rfl⟩ rfl)) fun _ => (ew_or1 (et_gt (ev_len T.b_len (ev_nm 1 rfl) (.inl rfl)) (ev_glob (v := .int 6) gm ⟨_, rfl⟩ rfl)))))) ?_) ?_
  · rw [List.length_map, List.length_map, decide_eq_false (by omega), decide_eq_false (by omega)]; rfl
  refine rns_cons (rn_skip (Et.s (et_eq (ev_len T.b_len (ev_nm 1 rfl) (.inl rfl)) ev_int)) ?_) ?_
  · rw [List.length_map, decide_eq_false (by omega)]
  refine rns_cons (rn_skip (Et.s (et_val (ev_any (bs := c.map fun x => decide (x < 0) || decide (9 < x)) T.b_any (ev_lcm (own := ["count"]) (fr := []) c di (fun x => tb (decide (x < 0) || decide (9 < x))) (fun i => lcs ⟨rfl, rfl, by decide +kernel, by decide +kernel, by decide +kernel, by decide +kernel⟩) (evi_list (ev_nm 0 rfl) rfl) (evg_nm 0 (fun _ => by show List.Nodup (["count"] : List Str); decide)) (by decide) (by omega) (fun x hx => ⟨_, rfl, by exact ev_or (ev_lt (ev_nm 0 rfl) ev_int) fun _ => ev_one (ev_gt (ev_nm 0 rfl) (ev_glob (v := .int 9) gm2 ⟨_, rfl⟩ rfl))⟩) (fun dd => by cases dd <;> rfl)) (er_mapB c _)))) ?_) ?_
  · rw [List.any_eq_false]
    intro b hb
    obtain ⟨x, hx, rfl⟩ := List.mem_map.mp hb
    obtain ⟨x0, x1⟩ := ok.cnt x hx
    simp only [id, decide_eq_false (show ¬ x < 0 by omega), decide_eq_false (show ¬ 9 < x by omega)]
    decide
  refine rns_cons (rn_expr (Ev.s (ev_call K_check_orders (Nat.le_refl _) (eva_cons (ev_nm 1 rfl) (eva_cons (ev_len T.b_len (ev_nm 0 rfl) (.inl rfl)) eva_nil)) ⟨os, c.length, fun o ho => ⟨ok.nd o ho, Nat.le_trans (ok.olen ho) (by decide), ok.rng o ho⟩, ?_, rfl⟩))) ?_
  rotate_left
  · rw [List.length_map]; rfl
  refine rns_one (rn_ret (Ev.s (Ev.to (ev_tup (eva_cons (ev_list T.b_list (ev_nm 0 rfl) (.inl rfl)) (eva_cons (ev_lcm (own := ["order"]) (fr := []) os dis tInts (fun i => lcs ⟨rfl, rfl, by decide +kernel, by decide +kernel, by decide +kernel, by decide +kernel⟩) (evi_list (ev_nm 1 rfl) rfl) (evg_nm 0 (fun _ => by show List.Nodup (["order"] : List Str); decide)) (by decide) (by omega) (fun o ho => ⟨_, rfl, Ev.to (ev_list T.b_list (ev_nm 0 rfl) (.inl rfl)) (by rw [ints_tr])⟩) (fun dd => by cases dd <;> rfl)) eva_nil)) (by show 2 ≤ sizeLine; decide)) (by rw [ints_tr]))))
structure RowOk (W : Int) (n : Nat) (tops : List Int) : Prop where
  w0 : 0 < W
  w1 : W < 2 ^ 70
  len : tops.length = n + 1
  t0 : ∀ t ∈ tops, 0 ≤ t ∧ t ≤ W
theorem frac1 (c : Int) : (lT c 1, lB c 1) = (c, 1) := by
  have := l_unique (t := c) (b := 1) (p := c) (q := 1) (by decide) (by decide) (by simp) (by rfl)
  rw [← this.1, ← this.2]
theorem okD_dF (p : Int × Int) : okD (dF p) = true := rfl
theorem dpD_dF (p : Int × Int) : dpD (dF p) ≤ 1 := by
  show dpDs _ + 1 ≤ 1
  exact Nat.succ_le_succ (dpDs_le fun d hd => by
    rcases List.mem_cons.mp hd with rfl | hd
    · exact Nat.le_refl _
    · rw [List.mem_singleton.mp hd]; exact Nat.le_refl _)
theorem eqD_dF (p q : Int × Int) : eqD (dF p) (dF q) = decide (p = q) := by
  show (p.1 == q.1 && (p.2 == q.2 && true)) = _
  rw [Bool.and_true, Bool.eq_iff_iff, Bool.and_eq_true, beq_iff_eq, beq_iff_eq, decide_eq_true_iff]
  exact ⟨fun h => Prod.ext h.1 h.2, fun h => by rw [h]; exact ⟨rfl, rfl⟩⟩
def underP (p q : Int × Int) : Bool := decide (p.1 * q.2 < q.1 * p.2)
def rUnder (dd : List Dv) (t : Tr) : Prop := ∃ p q : Int × Int, SmallF p ∧ SmallF q ∧ dd = [dF p, dF q] ∧ t = tb (underP p q)
abbrev s_under : Stmt := top 12
theorem sc_under : FnScope ["one", "other"] ["one", "other"] (defScope s_under) := ⟨rfl, rfl, rfl, by decide +kernel, rfl, by decide +kernel, by decide +kernel⟩
theorem ok_under {f : Addr} {fd : FuncData} {k : Nat} (F : Fun K "under" "under" s_under f fd) (T : Txt mg) : FnOk P w K mg base CX0 (k + 1) f fd ["one", "other"] (spT K rUnder) := by
  refine fn_ok F.d sc_under (fun dd t h => by obtain ⟨_, _, _, _, rfl, _⟩ := h; rfl) fun dd t h => ?_
  obtain ⟨p, q, ⟨p1, p2, p3⟩, ⟨q1, q2, q3⟩, rfl, rfl⟩ := h
  refine ⟨_, .inl rfl, ?_⟩
  have at0 : ∀ r : Int × Int, atI [di r.1, di r.2] 0 = some (di r.1) := fun _ => rfl
  have at1 : ∀ r : Int × Int, atI [di r.1, di r.2] 1 = some (di r.2) := fun _ => rfl
  exact rns_one (rn_ret (Ev.s (ev_lt (ev_mul (ev_ixT (ev_nm 0 rfl) ev_int rfl (at0 p)) (ev_ixT (ev_nm 1 rfl) ev_int rfl (at1 q)) ⟨lt_big p3 (by decide), lt_big q2 (by decide)⟩) (ev_mul (ev_ixT (ev_nm 1 rfl) ev_int rfl (at0 q)) (ev_ixT (ev_nm 0 rfl) ev_int rfl (at1 p)) ⟨lt_big q3 (by decide), lt_big p2 (by decide)⟩))))
theorem under_fW {W s t : Int} (h : 0 < W) : underP (fW W s) (fW W t) = decide (s < t) := by
  unfold underP
  rw [decide_eq_decide]
  exact fW_lt h
end
end K10
namespace K10
open PySem L2 Fra
section
variable {P : Program} {w : World} {K : PySem.W.Frag} {mg : Str → Option Value} {base : Heap}
abbrev s__law_cell_at : Stmt := top 24
theorem sc__law_cell_at : FnScope ["_law_script", "_law_k"] ["_law_script", "_law_k"] (defScope s__law_cell_at) := ⟨rfl, rfl, rfl, by decide +kernel, rfl, by decide +kernel, by decide +kernel⟩
def rCell (dd : List Dv) (t : Tr) : Prop := ∃ (ns : List Int) (k : Int), 0 ≤ k ∧ dd = [dis ns, di k] ∧ t = ti (cellF ns k)
theorem ok__law_cell_at {f : Addr} {fd : FuncData} {k : Nat} (F : Fun K "_law_cell_at" "_law_cell_at" s__law_cell_at f fd) (T : Txt mg) : FnOk P w K mg base CX0 (k + 1) f fd ["_law_script", "_law_k"] (spT K rCell) := by
  refine fn_ok F.d sc__law_cell_at (fun dd t h => by obtain ⟨_, _, _, rfl, _⟩ := h; rfl) fun dd t h => ?_
  obtain ⟨ns, j, hj, rfl, rfl⟩ := h
  refine ⟨_, .inl rfl, ?_⟩
  by_cases hl : j < ns.length
  · refine rns_ret (rn_ifT (Et.s (et_lt (ev_nm 1 rfl) (ev_len T.b_len (ev_nm 0 rfl) (.inl rfl)))) ?_ (rns_one (rn_ret (Ev.s (ev_ix (ev_nm 0 rfl) (ev_nm 1 rfl) rfl ?_)))))
    · rw [List.length_map]; exact decide_eq_true hl
    · exact cell_in hj hl
  · refine rns_cons (rn_skip (Et.s (et_lt (ev_nm 1 rfl) (ev_len T.b_len (ev_nm 0 rfl) (.inl rfl)))) ?_) ?_
    · rw [List.length_map]; exact decide_eq_false hl
    · rw [cell_out hj (by omega)]
      exact rns_one (rn_ret (Ev.s ev_int))
def strK (cell : Int) : Nat → Int × List Int
  | 0 => (cell % 2147483629 + 7, [])
  | k + 1 => (((strK cell k).1 * (strK cell k).1 + 48271 * (strK cell k).1 + (0 + ((k : Nat) : Int))) % 2147483647, (strK cell k).2 ++ [((strK cell k).1 * (strK cell k).1 + 48271 * (strK cell k).1 + (0 + ((k : Nat) : Int))) % 2147483647 / 16])
def strF (cell : Int) (n : Nat) : List Int := (strK cell n).2
theorem strK_ok (cell : Int) : ∀ k, 0 ≤ (strK cell k).1 ∧ (strK cell k).1 < 2147483648 ∧ (strK cell k).2.length = k
  | 0 => by
    have a := Int.emod_nonneg cell (show (2147483629 : Int) ≠ 0 by decide)
    have b := Int.emod_lt_of_pos cell (show (0 : Int) < 2147483629 by decide)
    show 0 ≤ cell % 2147483629 + 7 ∧ cell % 2147483629 + 7 < 2147483648 ∧ _
    exact ⟨by omega, by omega, rfl⟩
  | k + 1 => by
    obtain ⟨_, _, h⟩ := strK_ok cell k
    refine ⟨Int.emod_nonneg _ (by decide), Int.lt_trans (Int.emod_lt_of_pos _ (by decide)) (by decide), ?_⟩
    show ((strK cell k).2 ++ [_]).length = _
    rw [List.length_append, h]; rfl
abbrev s__law_stream : Stmt := top 25
theorem sc__law_stream : FnScope ["_law_cell", "_law_many", "_law_drawn_here", "_law_found", "_law_k"] ["_law_cell", "_law_many"] (defScope s__law_stream) := ⟨rfl, rfl, rfl, by decide +kernel, rfl, by decide +kernel, by decide +kernel⟩
def rStream (dd : List Dv) (t : Tr) : Prop := ∃ (cell : Int) (n : Nat), n ≤ 100 ∧ dd = [di cell, di n] ∧ t = tInts (strF cell n)
theorem ok__law_stream {f : Addr} {fd : FuncData} {k : Nat} (F : Fun K "_law_stream" "_law_stream" s__law_stream f fd) (T : Txt mg) : FnOk P w K mg base CX0 (k + 1) f fd ["_law_cell", "_law_many"] (spT K rStream) := by
  refine fn_ok F.d sc__law_stream (fun dd t h => by obtain ⟨_, _, _, rfl, _⟩ := h; rfl) fun dd t h => ?_
  obtain ⟨cell, n, hn, rfl, rfl⟩ := h
  refine ⟨_, .inl rfl, ?_⟩
  have big : 1000 < sizeLine := by decide
  refine rns_cons (rn_set 2 (Ev.s (ev_add (ev_mod (ev_nm 0 rfl) ev_int (by decide)) ev_int)) (fun _ => sc__law_stream.nd)) ?_
  refine rns_cons (rn_set 3 (Ev.s (ev_lst eva_nil (Nat.zero_le _))) (fun _ => sc__law_stream.nd)) ?_
  refine rns_cons (rn_for (EvI.s (evi_range1 T.b_range (ev_nm 1 rfl) ⟨by omega, by omega⟩)) (evg_nm 4 (fun _ => sc__law_stream.nd)) (fun k => [some (ti cell), some (ti n), some (ti (strK cell k).1), some (tInts (strK cell k).2), none]) rfl (fun _ => rfl) (fun j d hd => ?_)) ?_
  · obtain ⟨hj, rfl⟩ := rng_get hd
    obtain ⟨d0, d1, dl⟩ := strK_ok cell j
    have e : strK cell (j + 1) = (((strK cell j).1 * (strK cell j).1 + 48271 * (strK cell j).1 + (0 + ((j : Nat) : Int))) % 2147483647, (strK cell j).2 ++ [((strK cell j).1 * (strK cell j).1 + 48271 * (strK cell j).1 + (0 + ((j : Nat) : Int))) % 2147483647 / 16]) := rfl
    rw [e]
    generalize strK cell j = s at d0 d1 dl
    obtain ⟨x, l⟩ := s
    simp only at d0 d1 dl ⊢
    refine ⟨_, _, rfl, rns_cons (rn_set 2 (Ev.s (ev_mod (ev_add (ev_add (ev_mulS (ev_nm 2 rfl) (ev_nm 2 rfl) (.inl ⟨by omega, by omega⟩)) (ev_mulS ev_int (ev_nm 2 rfl) (.inr ⟨by omega, by omega⟩))) (ev_nm 4 rfl)) ev_int (by decide))) (fun _ => sc__law_stream.nd))
      (rns_one (rn_append 3 rfl (Ev.s (ev_div (ev_nm 2 rfl) ev_int ⟨by decide, small_lt (by decide) (by decide)⟩)) (by rw [List.length_map]; omega))), [4], ?_⟩
    show [_, _, _, some (Tr.ow (_ ++ [_])), _] = [_, _, _, some (Tr.ow _), _]
    rw [List.map_append]
    rfl
  · rw [List.length_map, List.length_range]
    show Rns _ _ [_, _, _, some (tInts (strK cell n).2), _] _
    exact rns_one (rn_retO 3 rfl)
def popS (some_ : List Int) (left : List Int) : Nat → List Int × List Int
  | 0 => (left, [])
  | k + 1 => ((popS some_ left k).1.eraseIdx ((some_.getD k 0) % (popS some_ left k).1.length).toNat, (popS some_ left k).2 ++ [(((popS some_ left k).1)[((some_.getD k 0) % (popS some_ left k).1.length).toNat]?).getD 0])
theorem popS_perm (sm left : List Int) : ∀ k, k ≤ left.length → ((popS sm left k).2 ++ (popS sm left k).1).Perm left ∧ (popS sm left k).1.length = left.length - k ∧ (popS sm left k).2.length = k
  | 0, _ => ⟨.refl _, by simp [popS], rfl⟩
  | k + 1, hk => by
    obtain ⟨h1, h2, h3⟩ := popS_perm sm left k (by omega)
    have e : popS sm left (k + 1) = ((popS sm left k).1.eraseIdx ((sm.getD k 0) % (popS sm left k).1.length).toNat, (popS sm left k).2 ++ [(((popS sm left k).1)[((sm.getD k 0) % (popS sm left k).1.length).toNat]?).getD 0]) := rfl
    rw [e]
    generalize popS sm left k = s at *
    obtain ⟨l, o⟩ := s
    generalize sm.getD k 0 = c
    have hl : 0 < l.length := by have : l.length = left.length - k := h2; omega
    have m0 := Int.emod_nonneg c (show (l.length : Int) ≠ 0 by omega)
    have m1 := Int.emod_lt_of_pos c (show 0 < (l.length : Int) by omega)
    have hml : (c % l.length).toNat < l.length := by omega
    simp only at h1 h2 h3 ⊢
    generalize (c % l.length).toNat = m at hml ⊢
    refine ⟨?_, ?_, by rw [List.length_append]; have : o.length = k := h3; simp [this]⟩
    · rw [List.getElem?_eq_getElem hml, Option.getD_some, List.append_assoc]
      exact (List.Perm.append_left o (erase_perm hml)).trans h1
    · rw [List.length_eraseIdx_of_lt hml]
      omega
def orderS (cell : Int) (n : Nat) : List Int :=
  if (strF (cell / 4) (n + 2)).getD n 0 % 3 = 0 then cutD (popS (strF (cell / 4) (n + 2)) (numsF n) n).2 none (some ((strF (cell / 4) (n + 2)).getD (n + 1) 0 % ((n : Int) + 1))) else (popS (strF (cell / 4) (n + 2)) (numsF n) n).2
theorem nums_len (n : Nat) : (numsF n).length = n := by unfold numsF; rw [List.length_map, List.length_range]
theorem orderS_sub (cell : Int) (n : Nat) : (orderS cell n).Sublist (popS (strF (cell / 4) (n + 2)) (numsF n) n).2 := by
  unfold orderS
  split
  · unfold cutD
    exact (List.take_sublist _ _).trans (List.drop_sublist _ _)
  · exact .refl _
theorem orderS_ok (cell : Int) (n : Nat) : (orderS cell n).Nodup ∧ ∀ x ∈ orderS cell n, 0 ≤ x ∧ x < n := by
  obtain ⟨h, _⟩ := popS_perm (strF (cell / 4) (n + 2)) (numsF n) n (by rw [nums_len]; exact Nat.le_refl _)
  have s := orderS_sub cell n
  refine ⟨((List.nodup_append.mp (h.nodup_iff.mpr (nums_nodup n))).1).sublist s, fun x hx => mem_nums.mp (h.mem_iff.mp (List.mem_append_left _ (s.subset hx)))⟩
abbrev s__law_order : Stmt := top 26
theorem sc__law_order : FnScope ["_law_cell", "_law_many", "_law_some", "_law_left", "_law_order_here", "_law_k"] ["_law_cell", "_law_many"] (defScope s__law_order) := ⟨rfl, rfl, rfl, by decide +kernel, rfl, by decide +kernel, by decide +kernel⟩
def rOrder (dd : List Dv) (t : Tr) : Prop := ∃ (cell : Int) (n : Nat), n ≤ 6 ∧ dd = [di cell, di n] ∧ t = tInts (orderS cell n)
theorem ok__law_order {f f1 : Addr} {fd fd1 : FuncData} {k : Nat} (F : Fun K "_law_order" "_law_order" s__law_order f fd) (T : Txt mg) (K__law_stream : Kn P w K mg base CX0 (k + 1) "_law_stream" f1 fd1 ["_law_cell", "_law_many"] (spT K rStream)) : FnOk P w K mg base CX0 (k + 2) f fd ["_law_cell", "_law_many"] (spT K rOrder) := by
  refine fn_ok F.d sc__law_order (fun dd t h => by obtain ⟨_, _, _, rfl, _⟩ := h; rfl) fun dd t h => ?_
  obtain ⟨cell, n, hn, rfl, rfl⟩ := h
  refine ⟨_, .inl rfl, ?_⟩
  have big : 1000 < sizeLine := by decide
  have sl : (strF (cell / 4) (n + 2)).length = n + 2 := (strK_ok (cell / 4) (n + 2)).2.2
  have popP := popS_perm (strF (cell / 4) (n + 2)) (numsF n)
  have fin0 : orderS cell n = if (strF (cell / 4) (n + 2)).getD n 0 % 3 = 0 then cutD (popS (strF (cell / 4) (n + 2)) (numsF n) n).2 none (some ((strF (cell / 4) (n + 2)).getD (n + 1) 0 % ((n : Int) + 1))) else (popS (strF (cell / 4) (n + 2)) (numsF n) n).2 := rfl
  generalize orderS cell n = res at fin0
  have ecall : [di (cell / 4), di ((n : Int) + 2)] = [di (cell / 4), di ((n + 2 : Nat) : Int)] := rfl
  refine rns_cons (rn_set 2 (Ev.s (Ev.as (d := dis (strF (cell / 4) (n + 2))) (ev_call K__law_stream (Nat.le_refl _) (eva_cons (ev_div (ev_nm 0 rfl) ev_int ⟨by decide, small_lt (by decide) (by decide)⟩) (eva_cons (ev_add (ev_nm 1 rfl) ev_int) eva_nil)) ⟨cell / 4, n + 2, by omega, ecall, rfl⟩) (er_tInts _))) (fun _ => sc__law_order.nd)) ?_
  generalize strF (cell / 4) (n + 2) = sm at *
  have sget : ∀ m : Nat, m < n + 2 → atI (sm.map di) ((m : Nat) : Int) = some (di (sm.getD m 0)) := fun m hm => atI_nat (by
    rw [List.getElem?_map, List.getElem?_eq_getElem (by omega), List.getD_eq_getElem?_getD, List.getElem?_eq_getElem (by omega)]; rfl)
  refine rns_cons (rn_set 3 (Ev.s (ev_listrange T.b_list T.b_range (ev_nm 1 rfl) (by omega) (by omega))) (fun _ => sc__law_order.nd)) ?_
  refine rns_cons (rn_set 4 (Ev.s (ev_lst eva_nil (Nat.zero_le _))) (fun _ => sc__law_order.nd)) ?_
  refine rns_cons (rn_for (EvI.s (evi_range1 T.b_range (ev_nm 1 rfl) ⟨by omega, by omega⟩)) (evg_nm 5 (fun _ => sc__law_order.nd)) (fun k => [some (ti cell), some (ti n), some (.fz (dis sm)), some (tInts (popS sm (numsF n) k).1), some (tInts (popS sm (numsF n) k).2), none]) rfl (fun _ => rfl) (fun j d hd => ?_)) ?_
  · obtain ⟨hj, rfl⟩ := rng_get hd
    have hj' : j < n := by omega
    obtain ⟨p1, p2, p3⟩ := popP j (by rw [nums_len]; omega)
    rw [nums_len] at p2
    have e : popS sm (numsF n) (j + 1) = ((popS sm (numsF n) j).1.eraseIdx ((sm.getD j 0) % (popS sm (numsF n) j).1.length).toNat, (popS sm (numsF n) j).2 ++ [(((popS sm (numsF n) j).1)[((sm.getD j 0) % (popS sm (numsF n) j).1.length).toNat]?).getD 0]) := rfl
    have sj : atI (sm.map di) (0 + (j : Int)) = some (di (sm.getD j 0)) := by
      have := sget j (by omega)
      rwa [Int.zero_add]
    rw [e]
    generalize popS sm (numsF n) j = s at p1 p2 p3
    obtain ⟨l, o⟩ := s
    generalize sm.getD j 0 = c at sj
    simp only at p1 p2 p3 ⊢
    have hl : 0 < (l.length : Int) := by omega
    have hl6 : (l.length : Int) ≤ 6 := by omega
    have m0 := Int.emod_nonneg c (show (l.length : Int) ≠ 0 by omega)
    have m1 := Int.emod_lt_of_pos c hl
    have el : (ers (l.map fun n => Tr.fz (di n))).length = l.length := by rw [ers_map, List.length_map, List.length_map]
    refine ⟨_, _, rfl, rns_one (rn_append_pop 4 3 (d := di ((l[(c % l.length).toNat]?).getD 0)) (n := c % l.length) (m := (c % l.length).toNat) (by decide) rfl rfl (EvS.to (t' := ti (c % l.length)) (Ev.pk (ev_mod (ev_ix (ev_nm 2 rfl) (ev_nm 5 rfl) rfl sj) (ev_len T.b_len (ev_nm 3 rfl) (.inl rfl)) (by rw [el]; exact hl)) True.intro) (by rw [el])) ?_ ⟨by omega, by omega⟩ ?_ ?_), [5], ?_⟩
    · rw [List.length_map]
      unfold ixN
      rw [if_pos m0, if_pos m1]
    · rw [List.getElem?_map, List.getElem?_eq_getElem (show (c % l.length).toNat < l.length by omega)]
      rfl
    · rw [List.length_map]; omega
    · show [_, _, _, some (Tr.ow (List.eraseIdx _ _)), some (Tr.ow (_ ++ [_])), _] = [_, _, _, some (Tr.ow _), some (Tr.ow _), _]
      rw [List.map_append, erase_map]
      rfl
  · rw [List.length_map, List.length_range, Int.toNat_natCast]
    generalize hp : (popS sm (numsF n) n).2 = pp at fin0
    generalize (popS sm (numsF n) n).1 = ll
    show Rns _ _ [some (ti cell), some (ti n), some (.fz (dis sm)), some (tInts ll), some (tInts pp), none] _
    have s1 := sget n (by omega)
    have s2 := sget (n + 1) (by omega)
    have s2' : atI (sm.map di) ((n : Int) + 1) = some (di (sm.getD (n + 1) 0)) := s2
    cases h3 : decide (sm.getD n 0 % 3 = 0) with
    | true =>
      rw [if_pos (of_decide_eq_true h3)] at fin0
      refine rns_cons (ρ1 := [some (ti cell), some (ti n), some (.fz (dis sm)), some (tInts ll), some (tInts res), none]) (rn_ifT (Et.s (et_eq (ev_mod (ev_ix (ev_nm 2 rfl) (ev_nm 1 rfl) rfl s1) ev_int (by decide)) ev_int)) h3 (rns_one (rn_set 4 (EvS.to (t' := tInts res) (Ev.pk (ev_slice (ev_nm 4 rfl) (er_tInts pp) eo_none (eo_some (ev_mod (ev_ix (ev_nm 2 rfl) (ev_add (ev_nm 1 rfl) ev_int) rfl s2') (ev_add (ev_nm 1 rfl) ev_int) (by omega)))) ?_) ?_) (fun _ => sc__law_order.nd)))) (rns_one (rn_retO 4 rfl))
      · rw [cutD_map, ints_tr]
        exact cl_ints _
      · rw [cutD_map, ints_tr, fin0]
    | false =>
      rw [if_neg (of_decide_eq_false h3)] at fin0
      rw [fin0]
      exact rns_cons (rn_skip (Et.s (et_eq (ev_mod (ev_ix (ev_nm 2 rfl) (ev_nm 1 rfl) rfl s1) ev_int (by decide)) ev_int)) h3) (rns_one (rn_retO 4 rfl))
theorem atI_last {α : Type} {l : List α} {x : α} : atI (l ++ [x]) (-1) = some x := by
  unfold atI ixN
  rw [if_neg (by decide), if_pos (by rw [List.length_append]; simp; omega)]
  show (l ++ [x])[_]? = _
  have e : (-1 + ((l ++ [x]).length : Int)).toNat = l.length := by rw [List.length_append, List.length_singleton]; omega
  rw [e, List.getElem?_append_right (Nat.le_refl _), Nat.sub_self]; rfl
theorem eq_nil {α : Type} (f : α → Dv) : ∀ L : List α, eqD (.lst (L.map f)) (.lst []) = L.isEmpty
  | [] => rfl
  | _ :: _ => rfl
def lastF (L : List (List Int)) : List Int := L.getLast?.getD []
theorem atI_lastF {L : List (List Int)} (h : L.isEmpty = false) : atI (L.map dis) (-1) = some (dis (lastF L)) := by
  rcases List.eq_nil_or_concat L with rfl | ⟨l, x, rfl⟩
  · cases h
  · unfold lastF
    rw [List.map_concat, List.concat_eq_append, atI_last, List.concat_eq_append, List.getLast?_append]; rfl
theorem lastF_mem {L : List (List Int)} (h : L.isEmpty = false) : lastF L ∈ L := by
  rcases List.eq_nil_or_concat L with rfl | ⟨l, x, rfl⟩
  · cases h
  · unfold lastF
    rw [List.concat_eq_append, List.getLast?_append]; simp
def ordL (cells : List Int) (n : Nat) : Nat → List (List Int)
  | 0 => []
  | k + 1 => ordL cells n k ++ [if decide (cells.getD k 0 % 4 = 0) && !(ordL cells n k).isEmpty then lastF (ordL cells n k) else orderS (cells.getD k 0) n]
theorem ordL_ok (cells : List Int) (n : Nat) : ∀ k, (ordL cells n k).length = k ∧ ∀ o ∈ ordL cells n k, o.Nodup ∧ ∀ x ∈ o, 0 ≤ x ∧ x < n
  | 0 => ⟨rfl, fun _ h => nomatch h⟩
  | k + 1 => by
    obtain ⟨h1, h2⟩ := ordL_ok cells n k
    refine ⟨by show (ordL cells n k ++ [_]).length = _; rw [List.length_append, h1]; rfl, fun o ho => ?_⟩
    have ho' : o ∈ ordL cells n k ++ [if decide (cells.getD k 0 % 4 = 0) && !(ordL cells n k).isEmpty then lastF (ordL cells n k) else orderS (cells.getD k 0) n] := ho
    rcases List.mem_append.mp ho' with z | z
    · exact h2 o z
    · rw [List.mem_singleton] at z
      subst z
      split
      · rename_i q
        rw [Bool.and_eq_true] at q
        exact h2 _ (lastF_mem (by have := q.2; revert this; cases (ordL cells n k).isEmpty <;> decide))
      · exact orderS_ok _ _
abbrev s__law_orders : Stmt := top 27
theorem sc__law_orders : FnScope ["_law_cells", "_law_many", "_law_orders_here", "_law_cell"] ["_law_cells", "_law_many"] (defScope s__law_orders) := ⟨rfl, rfl, rfl, by decide +kernel, rfl, by decide +kernel, by decide +kernel⟩
def rOrders (dd : List Dv) (t : Tr) : Prop := ∃ (cells : List Int) (n : Nat), n ≤ 6 ∧ cells.length ≤ 100 ∧ dd = [dis cells, di n] ∧ t = tRows (ordL cells n cells.length)
theorem ok__law_orders {f f1 : Addr} {fd fd1 : FuncData} {k : Nat} (F : Fun K "_law_orders" "_law_orders" s__law_orders f fd) (T : Txt mg) (K__law_order : Kn P w K mg base CX0 (k + 2) "_law_order" f1 fd1 ["_law_cell", "_law_many"] (spT K rOrder)) : FnOk P w K mg base CX0 (k + 3) f fd ["_law_cells", "_law_many"] (spT K rOrders) := by
  refine fn_ok F.d sc__law_orders (fun dd t h => by obtain ⟨_, _, _, _, rfl, _⟩ := h; rfl) fun dd t h => ?_
  obtain ⟨cells, n, hn, hc, rfl, rfl⟩ := h
  refine ⟨_, .inl rfl, ?_⟩
  have big : 1000 < sizeLine := by decide
  refine rns_cons (rn_set 2 (Ev.s (ev_lst eva_nil (Nat.zero_le _))) (fun _ => sc__law_orders.nd)) ?_
  refine rns_cons (rn_for (EvI.s (evi_list (ev_nm 0 rfl) rfl)) (evg_nm 3 (fun _ => sc__law_orders.nd)) (fun k => [some (.fz (dis cells)), some (ti n), some (tRows (ordL cells n k)), none]) rfl (fun _ => rfl) (fun j d hd => ?_)) ?_
  · obtain ⟨c, hcj, rfl⟩ := map_get hd
    have ec : cells.getD j 0 = c := by rw [List.getD_eq_getElem?_getD, hcj]; rfl
    have hj : j < cells.length := by
      rcases Nat.lt_or_ge j cells.length with z | z
      · exact z
      · rw [List.getElem?_eq_none z] at hcj; cases hcj
    obtain ⟨l1, l2⟩ := ordL_ok cells n j
    have e : ordL cells n (j + 1) = ordL cells n j ++ [if decide (cells.getD j 0 % 4 = 0) && !(ordL cells n j).isEmpty then lastF (ordL cells n j) else orderS (cells.getD j 0) n] := rfl
    rw [e, ec]
    generalize ordL cells n j = L at l1 l2
    have fin : ∀ o : List Int, some (tRows (L ++ [o])) = some (.ow (L.map tInts ++ [tInts o])) := fun o => by
      show some (Tr.ow _) = _
      rw [List.map_append]; rfl
    rw [fin]
    have hz : (L.map tInts).length < sizeLine := by rw [List.length_map]; omega
    have dpL : dpD (er (tRows L)) ≤ 50 := by rw [er_tRows]; exact Nat.le_trans (dpD_rows L) (by decide)
    cases hq : decide (c % 4 = 0) && !L.isEmpty with
    | true =>
      rw [if_pos rfl]
      have hL : L.isEmpty = false := by
        rw [Bool.and_eq_true] at hq
        have := hq.2; revert this; cases L.isEmpty <;> decide
      refine ⟨_, _, rfl, rns_one (rn_ifT (Et.pk (Ew.et (ew_and (et_eq (ev_mod (ev_nm 3 rfl) ev_int (by decide)) ev_int) fun _ => (ew_and1 (et_neS (ev_nm 2 rfl) (ev_lst eva_nil (Nat.zero_le _)) ?_ dpL))))) ?_ (rns_one (rn_append 2 rfl (EvS.to (t' := tInts (lastF L)) (Ev.pk (ev_list T.b_list (ev_ix (ev_nm 2 rfl) (ev_neg ev_int) (er_tRows L) (atI_lastF hL)) (.inl rfl)) (by rw [ints_tr]; exact cl_ints _)) (by rw [ints_tr])) hz))), [3], rfl⟩
      · exact .inl ⟨_, _, rfl, rfl⟩
      · rw [← hq, show er (.fz (er (tRows L))) = .lst (L.map dis) from er_tRows L]
        show (_ && !eqD (.lst (L.map dis)) (.lst [])) = _
        rw [eq_nil]
    | false =>
      rw [if_neg (by decide)]
      refine ⟨_, _, rfl, rns_one (rn_ifF (Et.pk (Ew.et (ew_and (et_eq (ev_mod (ev_nm 3 rfl) ev_int (by decide)) ev_int) fun _ => (ew_and1 (et_neS (ev_nm 2 rfl) (ev_lst eva_nil (Nat.zero_le _)) ?_ dpL))))) ?_ (rns_one (rn_append 2 rfl (Ev.s (ev_call K__law_order (Nat.le_refl _) (eva_cons (ev_nm 3 rfl) (eva_cons (ev_nm 1 rfl) eva_nil)) ⟨c, n, hn, rfl, rfl⟩)) hz))), [3], rfl⟩
      · exact .inl ⟨_, _, rfl, rfl⟩
      · rw [← hq, show er (.fz (er (tRows L))) = .lst (L.map dis) from er_tRows L]
        show (_ && !eqD (.lst (L.map dis)) (.lst [])) = _
        rw [eq_nil]
  · rw [List.length_map]
    exact rns_one (rn_retO 2 rfl)
def cntG (x : Int) : Int := ([1, 1, 0, 2, 1, 3, 1, x / 8 % 10] : List Int).getD (x % 8).toNat 0
theorem cntG_at (x : Int) : atI ([1, 1, 0, 2, 1, 3, 1, x / 8 % 10].map di) (x % 8) = some (di (cntG x)) := by
  have a := Int.emod_nonneg x (show (8 : Int) ≠ 0 by decide)
  have b := Int.emod_lt_of_pos x (show (0 : Int) < 8 by decide)
  unfold cntG
  obtain ⟨m, hm⟩ : ∃ m : Nat, x % 8 = (m : Int) := ⟨(x % 8).toNat, by omega⟩
  rw [hm, Int.toNat_natCast]
  have : m < 8 := by omega
  refine atI_nat ?_
  rw [List.getElem?_map, List.getD_eq_getElem?_getD, List.getElem?_eq_getElem (show m < ([1, 1, 0, 2, 1, 3, 1, x / 8 % 10] : List Int).length from this)]; rfl
theorem cntG_ok (x : Int) : 0 ≤ cntG x ∧ cntG x ≤ 9 := by
  have a := Int.emod_nonneg x (show (8 : Int) ≠ 0 by decide)
  have b := Int.emod_lt_of_pos x (show (0 : Int) < 8 by decide)
  have c := Int.emod_nonneg (x / 8) (show (10 : Int) ≠ 0 by decide)
  have d := Int.emod_lt_of_pos (x / 8) (show (0 : Int) < 10 by decide)
  unfold cntG
  obtain ⟨m, hm⟩ : ∃ m : Nat, x % 8 = (m : Int) := ⟨(x % 8).toNat, by omega⟩
  rw [hm, Int.toNat_natCast]
  generalize x / 8 % 10 = y at c d
  have : m = 0 ∨ m = 1 ∨ m = 2 ∨ m = 3 ∨ m = 4 ∨ m = 5 ∨ m = 6 ∨ m = 7 := by omega
  rcases this with rfl | rfl | rfl | rfl | rfl | rfl | rfl | rfl <;> first | exact ⟨show (0 : Int) ≤ 1 by decide, show (1 : Int) ≤ 9 by decide⟩ | exact ⟨show (0 : Int) ≤ 0 by decide, show (0 : Int) ≤ 9 by decide⟩ | exact ⟨show (0 : Int) ≤ 2 by decide, show (2 : Int) ≤ 9 by decide⟩ | exact ⟨show (0 : Int) ≤ 3 by decide, show (3 : Int) ≤ 9 by decide⟩ | exact ⟨c, show y ≤ 9 by omega⟩
abbrev s__law_counts : Stmt := top 28
theorem sc__law_counts : FnScope ["_law_cell", "_law_many", "_law_found", "_law_one"] ["_law_cell", "_law_many"] (defScope s__law_counts) := ⟨rfl, rfl, rfl, by decide +kernel, rfl, by decide +kernel, by decide +kernel⟩
def countsS (cell : Int) (n : Nat) : List Int := (strF cell n).map cntG
def rCounts (dd : List Dv) (t : Tr) : Prop := ∃ (cell : Int) (n : Nat), n ≤ 100 ∧ dd = [di cell, di n] ∧ t = tInts (countsS cell n)
theorem ok__law_counts {f f1 : Addr} {fd fd1 : FuncData} {k : Nat} (F : Fun K "_law_counts" "_law_counts" s__law_counts f fd) (T : Txt mg) (K__law_stream : Kn P w K mg base CX0 (k + 1) "_law_stream" f1 fd1 ["_law_cell", "_law_many"] (spT K rStream)) : FnOk P w K mg base CX0 (k + 2) f fd ["_law_cell", "_law_many"] (spT K rCounts) := by
  refine fn_ok F.d sc__law_counts (fun dd t h => by obtain ⟨_, _, _, rfl, _⟩ := h; rfl) fun dd t h => ?_
  obtain ⟨cell, n, hn, rfl, rfl⟩ := h
  refine ⟨_, .inl rfl, ?_⟩
  have big : 1000 < sizeLine := by decide
  have sl : (strF cell n).length = n := (strK_ok cell n).2.2
  unfold countsS
  refine rns_cons (rn_set 2 (Ev.s (ev_lst eva_nil (Nat.zero_le _))) (fun _ => sc__law_counts.nd)) ?_
  refine rns_cons (rn_for (EvI.s (evi_list (ev_call K__law_stream (Nat.le_refl _) (eva_cons (ev_nm 0 rfl) (eva_cons (ev_nm 1 rfl) eva_nil)) ⟨cell, n, hn, rfl, rfl⟩) (er_tInts _))) (evg_nm 3 (fun _ => sc__law_counts.nd)) (fun k => [some (ti cell), some (ti n), some (tInts (((strF cell n).map cntG).take k)), none]) rfl (fun _ => rfl) (fun j d hd => ?_)) ?_
  · obtain ⟨x, hx, rfl⟩ := map_get hd
    have hx' : ((strF cell n).map cntG)[j]? = some (cntG x) := by rw [List.getElem?_map, hx]; rfl
    have hl : (((strF cell n).map cntG).take j).length ≤ 100 := by rw [List.length_take, List.length_map]; omega
    rw [take_get hx']
    generalize ((strF cell n).map cntG).take j = L at hl
    refine ⟨_, _, rfl, rns_one (rn_append 2 rfl (Ev.s (ev_ix (ev_lst (eva_cons ev_int (eva_cons ev_int (eva_cons ev_int (eva_cons ev_int (eva_cons ev_int (eva_cons ev_int (eva_cons ev_int (eva_cons (ev_mod (ev_div (ev_nm 3 rfl) ev_int ⟨by decide, small_lt (by decide) (by decide)⟩) ev_int (by decide)) eva_nil)))))))) (by show 8 ≤ sizeLine; decide)) (ev_mod (ev_nm 3 rfl) ev_int (by decide)) rfl (cntG_at x))) (by rw [List.length_map]; omega)), [3], ?_⟩
    show [_, _, some (Tr.ow (_ ++ [_])), _] = [_, _, some (Tr.ow _), _]
    rw [List.map_append]; rfl
  · rw [List.length_map, List.take_of_length_le (by rw [List.length_map]; exact Nat.le_refl _)]
    exact rns_one (rn_retO 2 rfl)
end
end K10
namespace K10
open PySem L2 Fra
section
variable {P : Program} {w : World} {K : PySem.W.Frag} {mg : Str → Option Value} {base : Heap}
abbrev s__law_divisor : Stmt := top 29
theorem sc__law_divisor : FnScope ["_law_one", "_law_other"] ["_law_one", "_law_other"] (defScope s__law_divisor) := ⟨rfl, rfl, rfl, by decide +kernel, rfl, by decide +kernel, by decide +kernel⟩
def rDivisor (dd : List Dv) (t : Tr) : Prop := ∃ a b : Int, 0 ≤ a ∧ 0 ≤ b ∧ dd = [di a, di b] ∧ t = ti (gc a b)
theorem ok__law_divisor {f : Addr} {fd : FuncData} {k : Nat} (F : Fun K "_law_divisor" "_law_divisor" s__law_divisor f fd) (T : Txt mg) : FnOk P w K mg base CX0 (k + 1) f fd ["_law_one", "_law_other"] (spT K rDivisor) := by
  refine fn_ok F.d sc__law_divisor (fun dd t h => by obtain ⟨_, _, _, _, rfl, _⟩ := h; rfl) fun dd t h => ?_
  obtain ⟨a, b, ha, hb, rfl, rfl⟩ := h
  refine ⟨_, .inl rfl, ?_⟩
  refine rns_while_by (fun p : Int × Int => [some (ti p.1), some (ti p.2)]) (fun p => 0 ≤ p.1 ∧ 0 ≤ p.2 ∧ gc p.1 p.2 = gc a b) (fun p => decide (0 < p.2)) (fun p => p.2.toNat) (a, b) rfl ⟨ha, hb, rfl⟩ (fun p hp => Et.s (et_gt (ev_nm 1 rfl) ev_int)) (fun p hp h => ?_) (fun p hp h => ?_)
  · obtain ⟨x, y⟩ := p
    obtain ⟨h1, h2, h3⟩ := hp
    have hy : 0 < y := by simpa using h
    have l1 := Int.emod_lt_of_pos x hy
    have l2 := Int.emod_nonneg x (show y ≠ 0 by omega)
    refine ⟨(y, x % y), ⟨h2, l2, ?_⟩, ?_, rns_one (rn_par 0 1 (Ev.s (ev_nm 1 rfl)) (Ev.s (ev_mod (ev_nm 0 rfl) (ev_nm 1 rfl) hy)) (fun _ => sc__law_divisor.nd))⟩
    · show gc y (x % y) = _
      rw [gc_step]; exact h3
    · show (x % y).toNat < y.toNat
      omega
  · obtain ⟨x, y⟩ := p
    obtain ⟨h1, h2, h3⟩ := hp
    have hy0 : y = 0 := by
      have q : ¬ (0 < y) := by simpa using h
      have : 0 ≤ y := h2
      omega
    have h3' : gc x y = gc a b := h3
    have h1' : 0 ≤ x := h1
    have e : gc a b = x := by rw [← h3', hy0, gc_zero]; omega
    rw [e]
    exact rns_one (rn_ret (Ev.s (ev_nm 0 rfl)))
abbrev s__law_lowest : Stmt := top 30
theorem sc__law_lowest : FnScope ["_law_top", "_law_bottom", "_law_by"] ["_law_top", "_law_bottom"] (defScope s__law_lowest) := ⟨rfl, rfl, rfl, by decide +kernel, rfl, by decide +kernel, by decide +kernel⟩
theorem ok__law_lowest {f f1 : Addr} {fd fd1 : FuncData} {k : Nat} (F : Fun K "_law_lowest" "_law_lowest" s__law_lowest f fd) (T : Txt mg) (K__law_divisor : Kn P w K mg base CX0 (k + 1) "_law_divisor" f1 fd1 ["_law_one", "_law_other"] (spT K rDivisor)) : FnOk P w K mg base CX0 (k + 2) f fd ["_law_top", "_law_bottom"] (spT K rFrac) := by
  refine fn_ok F.d sc__law_lowest (fun dd t h => by obtain ⟨_, _, _, _, rfl, _⟩ := h; rfl) fun dd t h => ?_
  obtain ⟨a, b, hb, hz, rfl, rfl⟩ := h
  refine ⟨_, .inl rfl, ?_⟩
  have ha : 0 ≤ (if a < 0 then -a else a) := by split <;> omega
  have eg : gc (if a < 0 then -a else a) b = gc a b := by
    rw [show (if a < 0 then -a else a) = (a.natAbs : Int) by split <;> omega]
    have := gc_abs a b
    rw [show (b.natAbs : Int) = b by omega] at this
    exact this
  have gp := gc_pos (a := a) (show b ≠ 0 by omega)
  have gl := gc_le_r (a := a) hb
  refine rns_cons (rn_set 2 (EvS.to (t' := ti (gc a b)) (Ev.s (ev_call K__law_divisor (Nat.le_refl _) (eva_cons (ev_abs T.b_abs (ev_nm 0 rfl)) (eva_cons (ev_nm 1 rfl) eva_nil)) ⟨_, b, ha, by omega, rfl, rfl⟩)) (by rw [eg])) (fun _ => sc__law_lowest.nd)) ?_
  have cd : ∀ i : Int, CDivB i (gc a b) := fun i => ⟨gp, Nat.lt_of_le_of_lt (by omega) hz⟩
  refine rns_one (rn_ret (Ev.s (ev_tupD (eva_cons (ev_div (ev_nm 0 rfl) (ev_nm 2 rfl) (cd _)) (eva_cons (ev_div (ev_nm 1 rfl) (ev_nm 2 rfl) (cd _)) eva_nil)) ?_ (by show 2 ≤ sizeLine; decide))))
  show [di (a / gc a b), di (b / gc a b)] = _
  rw [lT_pos hb, lB_pos hb]
def wantF (sm : List Int) (n k : Nat) (left : List Int) : Int :=
  if decide (sm.getD k 0 % ((n : Int) + 1) < n) && decide (left.getD (sm.getD k 0 % ((n : Int) + 1)).toNat 0 = 0) then sm.getD k 0 / 7 % ((n : Int) + 1) else sm.getD k 0 % ((n : Int) + 1)
def dealT (sm : List Int) (n A k : Nat) (s : List Int × List Int) : List Int × List Int :=
  if decide (wantF sm n k s.1 < n) && decide (0 < s.1.getD (wantF sm n k s.1).toNat 0) then (s.1.set (wantF sm n k s.1).toNat (s.1.getD (wantF sm n k s.1).toNat 0 - 1), s.2.set (((0 : Int) + (k : Int) + sm.getD A 0) % A).toNat (wantF sm n k s.1)) else s
def dealK (sm : List Int) (c : List Int) (A : Nat) : Nat → List Int × List Int
  | 0 => (c, (numsF A).map fun _ => (c.length : Int))
  | k + 1 => dealT sm c.length A k (dealK sm c A k)
theorem wantF_ok (sm : List Int) (n k : Nat) (left : List Int) : 0 ≤ wantF sm n k left ∧ wantF sm n k left ≤ n := by
  unfold wantF
  have a := Int.emod_nonneg (sm.getD k 0) (show (n : Int) + 1 ≠ 0 by omega)
  have b := Int.emod_lt_of_pos (sm.getD k 0) (show 0 < (n : Int) + 1 by omega)
  have c := Int.emod_nonneg (sm.getD k 0 / 7) (show (n : Int) + 1 ≠ 0 by omega)
  have d := Int.emod_lt_of_pos (sm.getD k 0 / 7) (show 0 < (n : Int) + 1 by omega)
  split <;> omega
theorem dealK_ok (sm c : List Int) (A : Nat) : ∀ k, (dealK sm c A k).1.length = c.length ∧ (dealK sm c A k).2.length = A ∧ ∀ x ∈ (dealK sm c A k).2, 0 ≤ x ∧ x ≤ c.length
  | 0 => ⟨rfl, by show ((numsF A).map _).length = A; rw [List.length_map, nums_len], fun x hx => by
    obtain ⟨_, _, rfl⟩ := List.mem_map.mp hx
    omega⟩
  | k + 1 => by
    obtain ⟨h1, h2, h3⟩ := dealK_ok sm c A k
    show (dealT sm c.length A k (dealK sm c A k)).1.length = _ ∧ (dealT sm c.length A k (dealK sm c A k)).2.length = _ ∧ ∀ x ∈ (dealT sm c.length A k (dealK sm c A k)).2, _
    generalize dealK sm c A k = s at h1 h2 h3
    have w := wantF_ok sm c.length k s.1
    unfold dealT
    split
    · refine ⟨by rw [List.length_set]; exact h1, by rw [List.length_set]; exact h2, fun x hx => ?_⟩
      rcases List.mem_or_eq_of_mem_set hx with z | z
      · exact h3 x z
      · rw [z]; exact w
    · exact ⟨h1, h2, h3⟩
def dealD (cell : Int) (c : List Int) (A : Nat) : List Int := (dealK (strF (cell / 4) (A + 1)) c A A).2
theorem setI (l : List Int) (m : Nat) (v : Int) : (l.map fun n => Tr.fz (di n)).set m (ti v) = (l.set m v).map fun n => Tr.fz (di n) := by rw [List.map_set]
theorem getI {l : List Int} {x : Int} (x0 : 0 ≤ x) (x1 : x < l.length) : atI (l.map di) x = some (di (l.getD x.toNat 0)) := by
  obtain ⟨m, rfl⟩ : ∃ m : Nat, x = (m : Int) := ⟨x.toNat, by omega⟩
  refine atI_nat ?_
  rw [List.getElem?_map, List.getD_eq_getElem?_getD, Int.toNat_natCast, List.getElem?_eq_getElem (by omega)]; rfl
theorem ixI {n : Nat} {x : Int} (x0 : 0 ≤ x) (x1 : x < n) : ixN n x = some x.toNat := by unfold ixN; rw [if_pos x0, if_pos x1]
abbrev s__law_deal : Stmt := top 31
theorem sc__law_deal : FnScope ["_law_cell", "_law_counts_here", "_law_askers", "_law_some", "_law_left", "_law_deal_here", "_law_k", "_law_asker", "_law_want"] ["_law_cell", "_law_counts_here", "_law_askers"] (defScope s__law_deal) := ⟨rfl, rfl, rfl, by decide +kernel, rfl, by decide +kernel, by decide +kernel⟩
def rDealD (dd : List Dv) (t : Tr) : Prop := ∃ (cell : Int) (c : List Int) (A : Nat), c.length ≤ 6 ∧ 1 ≤ A ∧ A ≤ 6 ∧ dd = [di cell, dis c, di A] ∧ t = tInts (dealD cell c A)
theorem ok__law_deal {f f1 : Addr} {fd fd1 : FuncData} {k : Nat} (F : Fun K "_law_deal" "_law_deal" s__law_deal f fd) (T : Txt mg) (K__law_stream : Kn P w K mg base CX0 (k + 1) "_law_stream" f1 fd1 ["_law_cell", "_law_many"] (spT K rStream)) : FnOk P w K mg base CX0 (k + 2) f fd ["_law_cell", "_law_counts_here", "_law_askers"] (spT K rDealD) := by
  refine fn_ok F.d sc__law_deal (fun dd t h => by obtain ⟨_, _, _, _, _, _, rfl, _⟩ := h; rfl) fun dd t h => ?_
  obtain ⟨cell, c, A, c6, a1, a6, rfl, rfl⟩ := h
  refine ⟨_, .inl rfl, ?_⟩
  have big : 1000 < sizeLine := by decide
  unfold dealD
  have sl : (strF (cell / 4) (A + 1)).length = A + 1 := (strK_ok _ _).2.2
  refine rns_cons (rn_set 3 (Ev.s (Ev.as (d := dis (strF (cell / 4) (A + 1))) (ev_call K__law_stream (Nat.le_refl _) (eva_cons (ev_div (ev_nm 0 rfl) ev_int ⟨by decide, small_lt (by decide) (by decide)⟩) (eva_cons (ev_add (ev_nm 2 rfl) ev_int) eva_nil)) ⟨cell / 4, A + 1, by omega, rfl, rfl⟩) (er_tInts _))) (fun _ => sc__law_deal.nd)) ?_
  generalize strF (cell / 4) (A + 1) = sm at sl
  refine rns_cons (rn_set 4 (EvS.to (t' := tInts c) (Ev.s (ev_list T.b_list (ev_nm 1 rfl) (.inl rfl))) (by rw [ints_tr])) (fun _ => sc__law_deal.nd)) ?_
  refine rns_cons (rn_lcG 5 (ElcS (Elc.to (t' := tInts ((numsF A).map fun _ => (c.length : Int))) (elcm (own := ["_law_k"]) (fr := [1]) (numsF A) di (fun _ => ti c.length) (EvI.to (evi_range1 T.b_range (ev_nm 2 rfl) ⟨by omega, by omega⟩) ?_) (evg_nm 0 (fun _ => by show List.Nodup (["_law_k", "_law_counts_here"] : List Str); decide)) (by decide) (by rw [nums_len]; omega) (fun x hx => ⟨_, rfl, by exact Ev.to (ev_len T.b_len (ev_nm 1 rfl) (.inl rfl)) (by rw [List.length_map])⟩) (fun dd => by cases dd <;> rfl)) ?_)) (fun i => lcs ⟨rfl, rfl, by decide +kernel, by decide +kernel, by decide +kernel, by decide +kernel⟩) (fun _ => sc__law_deal.nd)) ?_
  · rw [Int.toNat_natCast]
    unfold numsF
    rw [List.map_map]; rfl
  · show Tr.ow _ = Tr.ow _
    rw [List.map_map]; rfl
  show Rns _ _ [some (ti cell), some (.fz (dis c)), some (ti A), some (.fz (dis sm)), some (tInts c), some (tInts ((numsF A).map fun _ => (c.length : Int))), none, none, none] _
  have elen : (((c.map di).length : Nat) : Int) = c.length := by rw [List.length_map]
  refine rns_cons (rn_for (EvI.s (evi_range1 T.b_range (ev_nm 2 rfl) ⟨by omega, by omega⟩)) (evg_nm 6 (fun _ => sc__law_deal.nd)) (fun k => [some (ti cell), some (.fz (dis c)), some (ti A), some (.fz (dis sm)), some (tInts (dealK sm c A k).1), some (tInts (dealK sm c A k).2), none, none, none]) rfl (fun _ => rfl) (fun j d hd => ?_)) ?_
  · obtain ⟨hj, rfl⟩ := rng_get hd
    rw [Int.toNat_natCast] at hj
    obtain ⟨h1, h2, h3⟩ := dealK_ok sm c A j
    have e : dealK sm c A (j + 1) = dealT sm c.length A j (dealK sm c A j) := rfl
    rw [e]
    generalize dealK sm c A j = s at h1 h2 h3
    obtain ⟨left, deal⟩ := s
    simp only at h1 h2 h3 ⊢
    have hw := wantF_ok sm c.length j left
    have sA : atI (sm.map di) (A : Int) = some (di (sm.getD A 0)) := by
      have := getI (l := sm) (x := (A : Int)) (by omega) (by omega)
      rwa [Int.toNat_natCast] at this
    have sj : atI (sm.map di) (0 + (j : Int)) = some (di (sm.getD j 0)) := by
      have := getI (l := sm) (x := (j : Int)) (by omega) (by omega)
      rw [Int.toNat_natCast] at this
      rwa [Int.zero_add]
    have ma := Int.emod_nonneg (0 + (j : Int) + sm.getD A 0) (show (A : Int) ≠ 0 by omega)
    have mb := Int.emod_lt_of_pos (0 + (j : Int) + sm.getD A 0) (show 0 < (A : Int) by omega)
    have r0 := Int.emod_nonneg (sm.getD j 0) (show (c.length : Int) + 1 ≠ 0 by omega)
    have r1 := Int.emod_lt_of_pos (sm.getD j 0) (show 0 < (c.length : Int) + 1 by omega)
    have hl : ∀ x : Int, 0 ≤ x → x < c.length → atI (left.map di) x = some (di (left.getD x.toNat 0)) := fun x x0 x1 => getI x0 (by omega)
    refine ⟨_, [some (ti cell), some (.fz (dis c)), some (ti A), some (.fz (dis sm)), some (tInts (dealT sm c.length A j (left, deal)).1), some (tInts (dealT sm c.length A j (left, deal)).2), some (ti (0 + (j : Int))), some (ti ((0 + (j : Int) + sm.getD A 0) % A)), some (ti (wantF sm c.length j left))], rfl, ?_, [6, 7, 8], rfl⟩
    refine rns_cons (rn_set 7 (Ev.s (ev_mod (ev_add (ev_nm 6 rfl) (ev_ix (ev_nm 3 rfl) (ev_nm 2 rfl) rfl sA)) (ev_nm 2 rfl) (by omega))) (fun _ => sc__law_deal.nd)) ?_
    refine rns_cons (rn_set 8 (EvS.to (t' := ti (sm.getD j 0 % ((c.length : Int) + 1))) (Ev.s (ev_mod (ev_ix (ev_nm 3 rfl) (ev_nm 6 rfl) rfl sj) (ev_add (ev_len T.b_len (ev_nm 1 rfl) (.inl rfl)) ev_int) (by omega))) (by rw [elen])) (fun _ => sc__law_deal.nd)) ?_
    show Rns _ _ [some (ti cell), some (.fz (dis c)), some (ti A), some (.fz (dis sm)), some (tInts left), some (tInts deal), some (ti (0 + (j : Int))), some (ti ((0 + (j : Int) + sm.getD A 0) % A)), some (ti (sm.getD j 0 % ((c.length : Int) + 1)))] _
    have ltE : ∀ x : Int, decide (x < (((c.map di).length : Nat) : Int)) = decide (x < (c.length : Int)) := fun x => by rw [elen]
    refine rns_cons (ρ1 := [some (ti cell), some (.fz (dis c)), some (ti A), some (.fz (dis sm)), some (tInts left), some (tInts deal), some (ti (0 + (j : Int))), some (ti ((0 + (j : Int) + sm.getD A 0) % A)), some (ti (wantF sm c.length j left))]) ?_ ?_
    · have eW : wantF sm c.length j left = if decide (sm.getD j 0 % ((c.length : Int) + 1) < c.length) && decide (left.getD (sm.getD j 0 % ((c.length : Int) + 1)).toNat 0 = 0) then sm.getD j 0 / 7 % ((c.length : Int) + 1) else sm.getD j 0 % ((c.length : Int) + 1) := rfl
      cases hq : decide (sm.getD j 0 % ((c.length : Int) + 1) < c.length) && decide (left.getD (sm.getD j 0 % ((c.length : Int) + 1)).toNat 0 = 0) with
      | true =>
        rw [hq, if_pos rfl] at eW
        rw [eW]
        exact rn_ifT (Et.pk (Ew.et (ew_and (et_lt (ev_nm 8 rfl) (ev_len T.b_len (ev_nm 1 rfl) (.inl rfl))) fun hp => (ew_and1 (et_eq (ev_ix (d := di (left.getD (sm.getD j 0 % ((c.length : Int) + 1)).toNat 0)) (ev_nm 4 rfl) (ev_nm 8 rfl) (er_tInts left) (hl _ r0 (by have := of_decide_eq_true hp; omega))) ev_int))))) (by rw [ltE]; exact hq) (rns_one (rn_set 8 (EvS.to (t' := ti (sm.getD j 0 / 7 % ((c.length : Int) + 1))) (Ev.s (ev_mod (ev_div (ev_ix (ev_nm 3 rfl) (ev_nm 6 rfl) rfl sj) ev_int ⟨by decide, small_lt (by decide) (by decide)⟩) (ev_add (ev_len T.b_len (ev_nm 1 rfl) (.inl rfl)) ev_int) (by omega))) (by rw [elen])) (fun _ => sc__law_deal.nd)))
      | false =>
        rw [hq, if_neg (by decide)] at eW
        rw [eW]
        exact rn_skip (Et.pk (Ew.et (ew_and (et_lt (ev_nm 8 rfl) (ev_len T.b_len (ev_nm 1 rfl) (.inl rfl))) fun hp => (ew_and1 (et_eq (ev_ix (d := di (left.getD (sm.getD j 0 % ((c.length : Int) + 1)).toNat 0)) (ev_nm 4 rfl) (ev_nm 8 rfl) (er_tInts left) (hl _ r0 (by have := of_decide_eq_true hp; omega))) ev_int))))) (by rw [ltE]; exact hq)
    · have eT : dealT sm c.length A j (left, deal) = if decide (wantF sm c.length j left < c.length) && decide (0 < left.getD (wantF sm c.length j left).toNat 0) then (left.set (wantF sm c.length j left).toNat (left.getD (wantF sm c.length j left).toNat 0 - 1), deal.set (((0 : Int) + (j : Int) + sm.getD A 0) % A).toNat (wantF sm c.length j left)) else (left, deal) := rfl
      generalize wantF sm c.length j left = x at hw eT
      cases hq : decide (x < c.length) && decide (0 < left.getD x.toNat 0) with
      | true =>
        rw [hq, if_pos rfl] at eT
        rw [eT]
        have xl : x < c.length := by rw [Bool.and_eq_true] at hq; exact of_decide_eq_true hq.1
        refine rns_one (rn_ifT (Et.pk (Ew.et (ew_and (et_lt (ev_nm 8 rfl) (ev_len T.b_len (ev_nm 1 rfl) (.inl rfl))) fun hp => (ew_and1 (et_gt (ev_ix (d := di (left.getD x.toNat 0)) (ev_nm 4 rfl) (ev_nm 8 rfl) (er_tInts left) (hl x hw.1 (by have := of_decide_eq_true hp; omega))) ev_int))))) (by rw [ltE]; exact hq) (rns_cons (rn_ixset 4 (n := x) (m := x.toNat) rfl (Ev.s (ev_nm 8 rfl)) (ixI hw.1 (by rw [List.length_map]; omega)) (Ev.pk (ev_sub (ev_ix (ev_nm 4 rfl) (ev_nm 8 rfl) (er_tInts left) (hl x hw.1 xl)) ev_int) True.intro) (hps := fun i => pg_sub (pv 4) (uE_ok i) set_list)) ?_))
        rw [setI]
        refine rns_cons (rn_ixset 5 (n := (0 + (j : Int) + sm.getD A 0) % A) (m := ((0 + (j : Int) + sm.getD A 0) % A).toNat) rfl (Ev.s (ev_nm 7 rfl)) (ixI ma (by rw [List.length_map]; omega)) (Ev.s (ev_nm 8 rfl)) (hps := fun i => pg_sub (pv 5) (uE_ok i) set_list)) ?_
        rw [setI]
        exact rns_nil
      | false =>
        rw [hq, if_neg (by decide)] at eT
        rw [eT]
        exact rns_one (rn_skip (Et.pk (Ew.et (ew_and (et_lt (ev_nm 8 rfl) (ev_len T.b_len (ev_nm 1 rfl) (.inl rfl))) fun hp => (ew_and1 (et_gt (ev_ix (d := di (left.getD x.toNat 0)) (ev_nm 4 rfl) (ev_nm 8 rfl) (er_tInts left) (hl x hw.1 (by have := of_decide_eq_true hp; omega))) ev_int))))) (by rw [ltE]; exact hq))
  · rw [List.length_map, List.length_range, Int.toNat_natCast]
    exact rns_one (rn_retO 5 rfl)
def wF (c : Int) : Int := 1 + if decide (c % 4 = 1) then c / 4 % 10 ^ 9 else c / 4 % 3
theorem wF_ok (c : Int) : 1 ≤ wF c ∧ wF c ≤ 10 ^ 9 := by
  unfold wF
  have a := Int.emod_nonneg (c / 4) (show (10 ^ 9 : Int) ≠ 0 by decide)
  have b := Int.emod_lt_of_pos (c / 4) (show (0 : Int) < 10 ^ 9 by decide)
  have c' := Int.emod_nonneg (c / 4) (show (3 : Int) ≠ 0 by decide)
  have d := Int.emod_lt_of_pos (c / 4) (show (0 : Int) < 3 by decide)
  split <;> omega
def sumW (cells : List Int) : Int := (cells.map wF).sum
def topF (cells : List Int) (c : List Int) (A : Nat) (a x : Int) : Int := ((cells.filter fun y => decide ((dealD y c A).getD a.toNat 0 = x)).map wF).sum
def rowF (cells c : List Int) (A : Nat) (a : Int) : List Int := (numsF (c.length + 1)).map (topF cells c A a)
theorem sumW_ok : ∀ cells : List Int, 0 ≤ sumW cells ∧ sumW cells ≤ cells.length * 10 ^ 9
  | [] => by show (0 : Int) ≤ 0 ∧ (0 : Int) ≤ ((0 : Nat) : Int) * 10 ^ 9; omega
  | c :: cs => by
    have ih := sumW_ok cs
    have := wF_ok c
    have e : sumW (c :: cs) = wF c + sumW cs := by unfold sumW; rw [List.map_cons, List.sum_cons]
    rw [e, List.length_cons]; omega
theorem sumW_pos {cells : List Int} (h : 1 ≤ cells.length) : 0 < sumW cells := by
  cases cells with
  | nil => exact absurd h (by decide)
  | cons c cs =>
    have a := sumW_ok cs
    have := wF_ok c
    have e : sumW (c :: cs) = wF c + sumW cs := by unfold sumW; rw [List.map_cons, List.sum_cons]
    rw [e]; omega
theorem filt_le (q : Int → Bool) : ∀ cells : List Int, 0 ≤ ((cells.filter q).map wF).sum ∧ ((cells.filter q).map wF).sum ≤ sumW cells
  | [] => by show (0 : Int) ≤ 0 ∧ (0 : Int) ≤ 0; omega
  | c :: cs => by
    have ih := filt_le q cs
    have := wF_ok c
    have e : sumW (c :: cs) = wF c + sumW cs := by unfold sumW; rw [List.map_cons, List.sum_cons]
    rw [e, List.filter_cons]
    split
    · rw [List.map_cons, List.sum_cons]; omega
    · omega
theorem row_ok {cells c : List Int} {A : Nat} {a : Int} (h1 : 1 ≤ cells.length) (h2 : cells.length ≤ 100) : RowOk (sumW cells) c.length (rowF cells c A a) := by
  have s := sumW_ok cells
  refine ⟨sumW_pos h1, by omega, by unfold rowF; rw [List.length_map, nums_len], fun t ht => ?_⟩
  obtain ⟨x, _, rfl⟩ := List.mem_map.mp ht
  exact filt_le _ cells
theorem zip_maps {α : Type} (f g : α → Dv) : ∀ l : List α, zipD (l.map f) (l.map g) = l.map fun a => .tup [f a, g a]
  | [] => rfl
  | a :: l => by
    show Dv.tup [f a, g a] :: zipD (l.map f) (l.map g) = _
    rw [zip_maps f g l]; rfl
abbrev s__law_drawn : Stmt := top 32
theorem sc__law_drawn : FnScope ["_law_cells", "_law_counts_here", "_law_askers", "_law_weights", "_law_deals", "_law_shares", "_law_asker", "_law_row", "_law_one", "_law_top"] ["_law_cells", "_law_counts_here", "_law_askers"] (defScope s__law_drawn) := ⟨rfl, rfl, rfl, by decide +kernel, rfl, by decide +kernel, by decide +kernel⟩
def tRowW (W : Int) (tops : List Int) : Tr := .ow (tops.map fun t => tF (fW W t))
def rDrawn (dd : List Dv) (t : Tr) : Prop := ∃ (cells c : List Int) (A : Nat), 1 ≤ cells.length ∧ cells.length ≤ 100 ∧ c.length ≤ 6 ∧ 1 ≤ A ∧ A ≤ 6 ∧ dd = [dis cells, dis c, di A] ∧ t = .ow ((numsF A).map fun a => tRowW (sumW cells) (rowF cells c A a))
theorem ok__law_drawn {f f1 f2 : Addr} {fd fd1 fd2 : FuncData} {k : Nat} (F : Fun K "_law_drawn" "_law_drawn" s__law_drawn f fd) (T : Txt mg) (K__law_deal : Kn P w K mg base CX0 (k + 2) "_law_deal" f1 fd1 ["_law_cell", "_law_counts_here", "_law_askers"] (spT K rDealD)) (K__law_lowest : Kn P w K mg base CX0 (k + 2) "_law_lowest" f2 fd2 ["_law_top", "_law_bottom"] (spT K rFrac)) : FnOk P w K mg base CX0 (k + 3) f fd ["_law_cells", "_law_counts_here", "_law_askers"] (spT K rDrawn) := by
  refine fn_ok F.d sc__law_drawn (fun dd t h => by obtain ⟨_, _, _, _, _, _, _, _, rfl, _⟩ := h; rfl) fun dd t h => ?_
  obtain ⟨cells, c, A, l1, l2, c6, a1, a6, rfl, rfl⟩ := h
  refine ⟨_, .inl rfl, ?_⟩
  have big : 1000 < sizeLine := by decide
  have W0 := sumW_pos l1
  have W1 := sumW_ok cells
  have hAt : ∀ x : Int, atI [di (x / 4 % 3), di (x / 4 % 10 ^ 9)] (if decide (x % 4 = 1) then 1 else 0) = some (di (if decide (x % 4 = 1) then x / 4 % 10 ^ 9 else x / 4 % 3)) := fun x => by cases decide (x % 4 = 1) <;> rfl
  refine rns_cons (rn_lcG 3 (ElcS (Elc.as (d := dis (cells.map wF)) (elcm (own := ["_law_cell"]) (fr := []) cells di (fun x => ti (wF x)) (evi_list (ev_nm 0 rfl) rfl) (evg_nm 0 (fun _ => by show List.Nodup (["_law_cell"] : List Str); decide)) (by decide) (by omega) (fun x hx => ⟨_, rfl, by exact Ev.to (ev_add ev_int (ev_ix (d := di (if decide (x % 4 = 1) then x / 4 % 10 ^ 9 else x / 4 % 3)) (ev_lst (eva_cons (ev_mod (ev_div (ev_nm 0 rfl) ev_int ⟨by decide, small_lt (by decide) (by decide)⟩) ev_int (by decide)) (eva_cons (ev_mod (ev_div (ev_nm 0 rfl) ev_int ⟨by decide, small_lt (by decide) (by decide)⟩) (ev_pow ev_int ev_int ⟨by decide, by decide, by decide⟩) (by decide)) eva_nil)) (by show 2 ≤ sizeLine; decide)) (ev_intb T.b_int (ev_eq (ev_mod (ev_nm 0 rfl) ev_int (by decide)) ev_int)) rfl (hAt x))) rfl⟩) (fun dd => by cases dd <;> rfl)) (er_map _ _))) (fun i => lcs ⟨rfl, rfl, by decide +kernel, by decide +kernel, by decide +kernel, by decide +kernel⟩) (fun _ => sc__law_drawn.nd)) ?_
  have edl : er (.ow (cells.map fun x => tInts (dealD x c A))) = .lst (cells.map fun x => dis (dealD x c A)) := by
    rw [er_ow_map]
    congr 1
    exact List.map_congr_left fun o _ => er_tInts _
  refine rns_cons (rn_lcG 4 (ElcS (Elc.as (d := .lst (cells.map fun x => dis (dealD x c A))) (elcm (own := ["_law_cell"]) (fr := [1, 2]) cells di (fun x => tInts (dealD x c A)) (evi_list (ev_nm 0 rfl) rfl) (evg_nm 0 (fun _ => by show List.Nodup (["_law_cell", "_law_counts_here", "_law_askers"] : List Str); decide)) (by decide) (by omega) (fun x hx => ⟨_, rfl, by exact ev_call K__law_deal (Nat.le_refl _) (eva_cons (ev_nm 0 rfl) (eva_cons (ev_nm 1 rfl) (eva_cons (ev_nm 2 rfl) eva_nil))) ⟨x, c, A, c6, a1, a6, rfl, rfl⟩⟩) (fun dd => by cases dd <;> rfl)) edl)) (fun i => lcs ⟨rfl, rfl, by decide +kernel, by decide +kernel, by decide +kernel, by decide +kernel⟩) (fun _ => sc__law_drawn.nd)) ?_
  refine rns_cons (rn_set 5 (Ev.s (ev_lst eva_nil (Nat.zero_le _))) (fun _ => sc__law_drawn.nd)) ?_
  have elen : (((c.map di).length : Nat) : Int) = c.length := by rw [List.length_map]
  refine rns_cons (rn_for (EvI.s (evi_range1 T.b_range (ev_nm 2 rfl) ⟨by omega, by omega⟩)) (evg_nm 6 (fun _ => sc__law_drawn.nd)) (fun k => [some (.fz (dis cells)), some (.fz (dis c)), some (ti A), some (.fz (dis (cells.map wF))), some (.fz (.lst (cells.map fun x => dis (dealD x c A)))), some (.ow ((numsF k).map fun a => tRowW (sumW cells) (rowF cells c A a))), none, none, none, none]) rfl (fun _ => rfl) (fun j d hd => ?_)) ?_
  · obtain ⟨hj, rfl⟩ := rng_get hd
    rw [Int.toNat_natCast] at hj
    have eN : (numsF (j + 1)).map (fun a => tRowW (sumW cells) (rowF cells c A a)) = (numsF j).map (fun a => tRowW (sumW cells) (rowF cells c A a)) ++ [tRowW (sumW cells) (rowF cells c A (0 + (j : Int)))] := by
      unfold numsF
      rw [List.range_succ, List.map_append, List.map_append]; rfl
    rw [eN]
    have hL : ((numsF j).map fun a => tRowW (sumW cells) (rowF cells c A a)).length < sizeLine := by rw [List.length_map, nums_len]; omega
    generalize ((numsF j).map fun a => tRowW (sumW cells) (rowF cells c A a)) = L at hL
    refine ⟨_, _, rfl, rns_cons (rn_set 7 (Ev.s (ev_lst eva_nil (Nat.zero_le _))) (fun _ => sc__law_drawn.nd)) (rns_cons (rn_for (its := rngD 0 (c.length + 1)) (EvI.s (EvI.to (evi_range1 T.b_range (ev_add (ev_len T.b_len (ev_nm 1 rfl) (.inl rfl)) ev_int) (by rw [elen]; omega)) (by rw [elen]; congr 1))) (evg_nm 8 (fun _ => sc__law_drawn.nd)) (fun i => [some (.fz (dis cells)), some (.fz (dis c)), some (ti A), some (.fz (dis (cells.map wF))), some (.fz (.lst (cells.map fun x => dis (dealD x c A)))), some (.ow L), some (ti (0 + (j : Int))), some (tRowW (sumW cells) ((rowF cells c A (0 + (j : Int))).take i)), none, none]) rfl (fun _ => rfl) (fun i d hd => ?_)) (rns_one (rn_append_mv 5 7 (by decide) rfl rfl hL))), [6], ?_⟩
    · obtain ⟨hi, rfl⟩ := rng_get hd
      have ht : (rowF cells c A (0 + (j : Int)))[i]? = some (topF cells c A (0 + (j : Int)) (0 + (i : Int))) := by
        unfold rowF numsF
        rw [List.getElem?_map, List.getElem?_map, List.getElem?_range hi]; rfl
      have eR : tRowW (sumW cells) ((rowF cells c A (0 + (j : Int))).take (i + 1)) = .ow (((rowF cells c A (0 + (j : Int))).take i).map (fun t => tF (fW (sumW cells) t)) ++ [tF (fW (sumW cells) (topF cells c A (0 + (j : Int)) (0 + (i : Int))))]) := by
        rw [take_get ht]
        show Tr.ow _ = _
        rw [List.map_append]; rfl
      rw [eR]
      have hz : (((rowF cells c A (0 + (j : Int))).take i).map (fun t => tF (fW (sumW cells) t))).length < sizeLine := by rw [List.length_map, List.length_take]; omega
      rw [show tRowW (sumW cells) ((rowF cells c A (0 + (j : Int))).take i) = .ow (((rowF cells c A (0 + (j : Int))).take i).map (fun t => tF (fW (sumW cells) t))) from rfl]
      generalize ((rowF cells c A (0 + (j : Int))).take i).map (fun t => tF (fW (sumW cells) t)) = M at hz
      have hT := filt_le (fun y => decide ((dealD y c A).getD (0 + (j : Int)).toNat 0 = 0 + (i : Int))) cells
      have dget : ∀ y : Int, atI ((dealD y c A).map di) (0 + (j : Int)) = some (di ((dealD y c A).getD (0 + (j : Int)).toNat 0)) := fun y => getI (by omega) (by
        have := (dealK_ok (strF (y / 4) (A + 1)) c A A).2.1
        show (0 : Int) + (j : Int) < ((dealK (strF (y / 4) (A + 1)) c A A).2.length : Int)
        omega)
      refine ⟨_, [some (.fz (dis cells)), some (.fz (dis c)), some (ti A), some (.fz (dis (cells.map wF))), some (.fz (.lst (cells.map fun x => dis (dealD x c A)))), some (.ow L), some (ti (0 + (j : Int))), some (.ow (M ++ [tF (fW (sumW cells) (topF cells c A (0 + (j : Int)) (0 + (i : Int))))])), some (ti (0 + (i : Int))), some (ti (topF cells c A (0 + (j : Int)) (0 + (i : Int))))], rfl, ?_, [8, 9], rfl⟩
      refine rns_cons (rn_set 9 (EvS.to (t' := ti (topF cells c A (0 + (j : Int)) (0 + (i : Int)))) (Ev.s (ev_sum T.b_sum (ev_lcf (own := ["_law_weight", "_law_deal_here"]) (fr := [8, 6]) cells (fun y => .tup [di (wF y), dis (dealD y c A)]) (fun y => decide ((dealD y c A).getD (0 + (j : Int)).toNat 0 = 0 + (i : Int))) (fun y => ti (wF y)) (fun i => lcs ⟨rfl, rfl, by decide +kernel, by decide +kernel, by decide +kernel, by decide +kernel⟩) (EvI.to (evi_zip T.b_zip (ev_nm 3 rfl) (ev_nm 4 rfl) rfl rfl) ?_) (evg_t2 0 1 (fun _ => by show List.Nodup (["_law_weight", "_law_deal_here", "_law_one", "_law_asker"] : List Str); decide)) (by decide) (by omega) (fun y hy => ⟨_, rfl, by exact el_one (et_eq (ev_ix (ev_nm 1 rfl) (ev_nm 3 rfl) rfl (dget y)) (ev_nm 2 rfl)), fun _ => by exact ev_nm 0 rfl⟩) (fun dd => by rcases dd with _ | ⟨_, _ | ⟨_, _⟩⟩ <;> rfl)) (er_map _ _))) rfl) (fun _ => sc__law_drawn.nd)) ?_
      · rw [List.map_map]
        exact zip_maps _ _ cells
      exact rns_one (rn_append 7 rfl (Ev.s (ev_call K__law_lowest (Nat.le_refl _) (eva_cons (ev_nm 9 rfl) (eva_cons (ev_sum T.b_sum (ev_nm 3 rfl) rfl) eva_nil)) ⟨_, sumW cells, W0, small_lt (by omega) (by omega), rfl, rfl⟩)) hz)
    · have el : (rngD 0 (c.length + 1)).length = c.length + 1 := by simp
      rw [el, List.take_of_length_le (by unfold rowF; rw [List.length_map, nums_len]; exact Nat.le_refl _)]
      rfl
  · rw [List.length_map, List.length_range, Int.toNat_natCast]
    exact rns_one (rn_retO 5 rfl)
end
end K10
namespace K10
open PySem L2 Fra
section
variable {P : Program} {w : World} {K : PySem.W.Frag} {mg : Str → Option Value} {base : Heap}
abbrev dFs (W : Int) (ss : List Int) : Dv := .lst (ss.map fun s => dF (fW W s))
structure Sg (W : Int) (ss : List Int) : Prop where
  len : ss.length ≤ 20
  b : ∀ s ∈ ss, -(4 * W) ≤ s ∧ s ≤ 4 * W
theorem fW_sg {W s : Int} (w0 : 0 < W) (w1 : W < 2 ^ 60) (h : -(100 * W) ≤ s ∧ s ≤ 100 * W) : SmallF (fW W s) := by
  have a := fW_pos (s := s) w0
  have b := fW_le (s := s) w0
  have c := fW_top (s := s) w0
  exact ⟨a, by omega, by omega⟩
theorem sum_sg {W : Int} {ss : List Int} (w0 : 0 < W) (h : Sg W ss) : ∀ j, -(4 * (j * W)) ≤ (ss.take j).sum ∧ (ss.take j).sum ≤ 4 * ((j : Int) * W)
  | 0 => by rw [List.take_zero]; show -(4 * (((0 : Nat) : Int) * W)) ≤ (0 : Int) ∧ (0 : Int) ≤ 4 * (((0 : Nat) : Int) * W); omega
  | j + 1 => by
    have ih := sum_sg w0 h j
    have e : (((j + 1 : Nat) : Int)) * W = j * W + W := by rw [Int.natCast_add, Int.add_mul]; show _ + 1 * W = _; rw [Int.one_mul]
    rw [e]
    cases q : ss[j]? with
    | none =>
      have hj : ss.length ≤ j := by
        rcases Nat.lt_or_ge j ss.length with z | z
        · rw [List.getElem?_eq_getElem z] at q; cases q
        · exact z
      rw [List.take_of_length_le (by omega)]
      rw [List.take_of_length_le hj] at ih
      omega
    | some x =>
      have hx := h.b x (List.mem_of_getElem? q)
      rw [take_get q, List.sum_append, List.sum_singleton]
      omega
theorem sum_sg' {W : Int} {ss : List Int} (w0 : 0 < W) (h : Sg W ss) : -(100 * W) ≤ ss.sum ∧ ss.sum ≤ 100 * W := by
  have := sum_sg w0 h ss.length
  rw [List.take_length] at this
  have h20 : (ss.length : Int) * W ≤ 20 * W := Int.mul_le_mul_of_nonneg_right (by have := h.len; omega) (by omega)
  omega
abbrev s_sum_of : Stmt := top 13
theorem sc_sum_of : FnScope ["some", "total", "one"] ["some"] (defScope s_sum_of) := ⟨rfl, rfl, rfl, by decide +kernel, rfl, by decide +kernel, by decide +kernel⟩
def rSumOf (dd : List Dv) (t : Tr) : Prop := ∃ (W : Int) (ss : List Int), 0 < W ∧ W < 2 ^ 60 ∧ Sg W ss ∧ dd = [dFs W ss] ∧ t = tF (fW W ss.sum)
theorem ok_sum_of {f f1 f2 : Addr} {fd fd1 fd2 : FuncData} {k : Nat} {tk : Tok} (F : Fun K "sum_of" "sum_of" s_sum_of f fd) (T : Txt mg) (K_fraction : Kn P w K mg base CX0 (k + 2) "fraction" f1 fd1 ["top", "bottom"] (spT K rFrac)) (B1 : Binds K fd1 ["top", "bottom"] [.int 1 tk]) (K_plus : Kn P w K mg base CX0 (k + 3) "plus" f2 fd2 ["one", "other"] (spT K rPlus)) : FnOk P w K mg base CX0 (k + 4) f fd ["some"] (spT K rSumOf) := by
  refine fn_ok F.d sc_sum_of (fun dd t h => by obtain ⟨_, _, _, _, _, rfl, _⟩ := h; rfl) fun dd t h => ?_
  obtain ⟨W, ss, w0, w1, sg, rfl, rfl⟩ := h
  refine ⟨_, .inl rfl, ?_⟩
  refine rns_cons (rn_set 1 (EvS.to (t' := tF (fW W (ss.take 0).sum)) (Ev.s (ev_callD K_fraction B1 (by show k + 2 ≤ k + 3; omega) (eva_cons ev_int eva_nil) ⟨0, 1, by decide, by decide, rfl, rfl⟩)) (by rw [frac1, List.take_zero]; show tF (0, 1) = tF (fW W 0); rw [fW_zero w0])) (fun _ => sc_sum_of.nd)) ?_
  refine rns_cons (rn_for (EvI.s (evi_list (ev_nm 0 rfl) rfl)) (evg_nm 2 (fun _ => sc_sum_of.nd)) (fun j => [some (.fz (dFs W ss)), some (tF (fW W (ss.take j).sum)), none]) rfl (fun _ => rfl) (fun j d hd => ?_)) ?_
  · obtain ⟨x, hx, rfl⟩ := map_get hd
    have hb := sg.b x (List.mem_of_getElem? hx)
    have ht := sum_sg w0 sg j
    have hl := sg.len
    have hj : j < ss.length := by
      rcases Nat.lt_or_ge j ss.length with z | z
      · exact z
      · rw [List.getElem?_eq_none z] at hx; cases hx
    have h100 : (j : Int) * W ≤ 20 * W := Int.mul_le_mul_of_nonneg_right (by omega) (by omega)
    refine ⟨_, [some (.fz (dFs W ss)), some (tF (fW W (ss.take (j + 1)).sum)), some (tF (fW W x))], rfl, ?_, [2], rfl⟩
    rw [take_get hx, List.sum_append, List.sum_singleton]
    generalize (ss.take j).sum = S at ht
    exact rns_one (rn_set 1 (EvS.to (t' := tF (fW W (S + x))) (Ev.s (ev_call K_plus (Nat.le_refl _) (eva_cons (ev_nm 1 rfl) (eva_cons (ev_nm 2 rfl) eva_nil)) ⟨fW W S, fW W x, fW_sg w0 w1 (by omega), fW_sg w0 w1 (by omega), rfl, rfl⟩)) (by rw [fW_plus w0])) (fun _ => sc_sum_of.nd))
  · rw [List.length_map, List.take_length]
    exact rns_one (rn_ret (Ev.s (ev_nm 1 rfl)))
abbrev dSh (W : Int) (rows : List (List Int)) : Dv := .lst (rows.map (dFs W))
structure ShOk (W : Int) (rows : List (List Int)) : Prop where
  w0 : 0 < W
  w1 : W < 2 ^ 60
  len : rows.length ≤ 20
  row : ∀ r ∈ rows, Sg W r
def colF (rows : List (List Int)) (x : Int) : List Int := rows.map fun r => r.getD x.toNat 0
abbrev s_dealt_of : Stmt := top 19
theorem sc_dealt_of : FnScope ["shares", "one"] ["shares", "one"] (defScope s_dealt_of) := ⟨rfl, rfl, rfl, by decide +kernel, rfl, by decide +kernel, by decide +kernel⟩
def rDealt (dd : List Dv) (t : Tr) : Prop := ∃ (W : Int) (rows : List (List Int)) (x : Int), ShOk W rows ∧ 0 ≤ x ∧ (∀ r ∈ rows, x < r.length) ∧ dd = [dSh W rows, di x] ∧ t = tF (fW W (colF rows x).sum)
theorem col_sg {W : Int} {rows : List (List Int)} (h : ShOk W rows) {x : Int} (x0 : 0 ≤ x) (x1 : ∀ r ∈ rows, x < r.length) : Sg W (colF rows x) := by
  refine ⟨by unfold colF; rw [List.length_map]; exact h.len, fun s hs => ?_⟩
  obtain ⟨r, hr, rfl⟩ := List.mem_map.mp hs
  have := x1 r hr
  refine (h.row r hr).b _ ?_
  rw [List.getD_eq_getElem?_getD, List.getElem?_eq_getElem (show x.toNat < r.length by omega)]
  exact List.getElem_mem _
theorem at_row {W : Int} {r : List Int} {x : Int} (x0 : 0 ≤ x) (x1 : x < r.length) : atI (r.map fun s => dF (fW W s)) x = some (dF (fW W (r.getD x.toNat 0))) := by
  obtain ⟨m, rfl⟩ : ∃ m : Nat, x = (m : Int) := ⟨x.toNat, by omega⟩
  refine atI_nat ?_
  rw [List.getElem?_map, List.getD_eq_getElem?_getD, Int.toNat_natCast, List.getElem?_eq_getElem (by omega)]; rfl
theorem ok_dealt_of {f f1 : Addr} {fd fd1 : FuncData} {k : Nat} (F : Fun K "dealt_of" "dealt_of" s_dealt_of f fd) (T : Txt mg) (K_sum_of : Kn P w K mg base CX0 (k + 4) "sum_of" f1 fd1 ["some"] (spT K rSumOf)) : FnOk P w K mg base CX0 (k + 5) f fd ["shares", "one"] (spT K rDealt) := by
  refine fn_ok F.d sc_dealt_of (fun dd t h => by obtain ⟨_, _, _, _, _, _, rfl, _⟩ := h; rfl) fun dd t h => ?_
  obtain ⟨W, rows, x, ok, x0, x1, rfl, rfl⟩ := h
  refine ⟨_, .inl rfl, ?_⟩
  have big : 1000 < sizeLine := by decide
  have hl := ok.len
  have e : er (.ow (rows.map fun r => tF (fW W (r.getD x.toNat 0)))) = dFs W (colF rows x) := by
    rw [er_ow_map]
    unfold colF
    show Dv.lst _ = Dv.lst (List.map _ (List.map _ _))
    rw [List.map_map]; rfl
  exact rns_one (rn_ret (Ev.s (ev_call K_sum_of (Nat.le_refl _) (eva_cons (Ev.as (ev_lcm (own := ["row"]) (fr := [1]) rows (dFs W) (fun r => tF (fW W (r.getD x.toNat 0))) (fun i => lcs ⟨rfl, rfl, by decide +kernel, by decide +kernel, by decide +kernel, by decide +kernel⟩) (evi_list (ev_nm 0 rfl) rfl) (evg_nm 0 (fun _ => by show List.Nodup (["row", "one"] : List Str); decide)) (by decide) (by omega) (fun r hr => ⟨_, rfl, by exact ev_ix (ev_nm 0 rfl) (ev_nm 1 rfl) rfl (at_row x0 (x1 r hr))⟩) (fun dd => by cases dd <;> rfl)) e) eva_nil) ⟨W, colF rows x, ok.w0, ok.w1, col_sg ok x0 x1, rfl, rfl⟩)))
abbrev s_is_row : Stmt := top 20
theorem sc_is_row : FnScope ["row", "many"] ["row", "many"] (defScope s_is_row) := ⟨rfl, rfl, rfl, by decide +kernel, rfl, by decide +kernel, by decide +kernel⟩
def rowB (W : Int) (n : Nat) (r : List Int) : Bool := decide (r.length = n + 1) && (r.all (fun s => decide (0 ≤ s)) && decide (r.sum = W))
def rIsRow (dd : List Dv) (t : Tr) : Prop := ∃ (W : Int) (r : List Int) (n : Nat), 0 < W ∧ W < 2 ^ 60 ∧ Sg W r ∧ dd = [dFs W r, di n] ∧ t = tb (rowB W n r)
theorem ok_is_row {f f1 f2 f3 : Addr} {fd fd1 fd2 fd3 : FuncData} {k : Nat} {tk : Tok} (F : Fun K "is_row" "is_row" s_is_row f fd) (T : Txt mg) (K_fraction : Kn P w K mg base CX0 (k + 2) "fraction" f1 fd1 ["top", "bottom"] (spT K rFrac)) (B1 : Binds K fd1 ["top", "bottom"] [.int 1 tk]) (K_under : Kn P w K mg base CX0 (k + 1) "under" f2 fd2 ["one", "other"] (spT K rUnder)) (K_sum_of : Kn P w K mg base CX0 (k + 4) "sum_of" f3 fd3 ["some"] (spT K rSumOf)) : FnOk P w K mg base CX0 (k + 5) f fd ["row", "many"] (spT K rIsRow) := by
  refine fn_ok F.d sc_is_row (fun dd t h => by obtain ⟨_, _, _, _, _, _, rfl, _⟩ := h; rfl) fun dd t h => ?_
  obtain ⟨W, r, n, w0, w1, sg, rfl, rfl⟩ := h
  refine ⟨_, .inl rfl, ?_⟩
  have big : 1000 < sizeLine := by decide
  have hl := sg.len
  have el : (((r.map fun s => dF (fW W s)).length : Nat) : Int) = r.length := by rw [List.length_map]
  by_cases h1 : r.length = n + 1
  · have er1 : rowB W n r = (r.all (fun s => decide (0 ≤ s)) && decide (r.sum = W)) := by unfold rowB; rw [decide_eq_true h1]; rfl
    rw [er1]
    refine rns_cons (rn_skip (Et.s (et_ne (ev_len T.b_len (ev_nm 0 rfl) (.inl rfl)) (ev_add (ev_nm 1 rfl) ev_int))) (by rw [el, h1]; simp)) ?_
    have ea : (r.map fun s => decide (s < 0)).any id = !r.all fun s => decide (0 ≤ s) := by
      rw [List.any_map]
      clear er1 el h1 hl sg
      induction r with
      | nil => rfl
      | cons a r ih =>
        rw [List.any_cons, List.all_cons, ih, Bool.not_and]
        congr 1
        show decide (a < 0) = !decide (0 ≤ a)
        by_cases z : a < 0
        · rw [decide_eq_true z, decide_eq_false (by omega)]; rfl
        · rw [decide_eq_false z, decide_eq_true (by omega)]; rfl
    refine rns_ifr (Et.s (et_val (ev_any (bs := r.map fun s => decide (s < 0)) T.b_any (ev_lcm (own := ["share"]) (fr := []) r (fun s => dF (fW W s)) (fun s => tb (decide (s < 0))) (fun i => lcs ⟨rfl, rfl, by decide +kernel, by decide +kernel, by decide +kernel, by decide +kernel⟩) (evi_list (ev_nm 0 rfl) rfl) (evg_nm 0 (fun _ => by show List.Nodup (["share"] : List Str); decide)) (by decide) (by omega) (fun s hs => ⟨_, rfl, by
        have hb := sg.b s hs
        exact Ev.to (ev_call K_under (by show k + 1 ≤ k + 4; omega) (eva_cons (ev_nm 0 rfl) (eva_cons (Ev.to (t' := tF (fW W 0)) (ev_callD K_fraction B1 (by show k + 2 ≤ k + 4; omega) (eva_cons ev_int eva_nil) ⟨0, 1, by decide, by decide, rfl, rfl⟩) (by rw [frac1, fW_zero w0])) eva_nil)) ⟨fW W s, fW W 0, fW_sg w0 w1 (by omega), fW_sg w0 w1 (by omega), rfl, rfl⟩) (by rw [under_fW w0])⟩) (fun dd => by cases dd <;> rfl)) (er_mapB _ _)))) (fun h => ?_) (fun h => ?_)
    · rw [ea] at h
      have h' : (r.all fun s => decide (0 ≤ s)) = false := by simpa using h
      rw [h']
      exact rns_one (rn_ret (Ev.s ev_bl))
    · rw [ea] at h
      have h' : (r.all fun s => decide (0 ≤ s)) = true := by simpa using h
      rw [h']
      refine rns_one (rn_ret (EvS.to (Ev.s (ev_eqS (ev_call K_sum_of (Nat.le_refl _) (eva_cons (ev_nm 0 rfl) eva_nil) ⟨W, r, w0, w1, sg, rfl, rfl⟩) (ev_callD K_fraction B1 (by show k + 2 ≤ k + 4; omega) (eva_cons ev_int eva_nil) ⟨1, 1, by decide, by decide, rfl, rfl⟩) (.inr ⟨_, _, rfl, rfl⟩) (Nat.le_trans (dpD_dF _) (by decide)))) ?_))
      rw [frac1]
      show tb (eqD (dF (fW W r.sum)) (dF (1, 1))) = _
      rw [eqD_dF, ← fW_self w0]
      congr 1
      show _ = decide (r.sum = W)
      exact decide_eq_decide.mpr ⟨fun z => fW_inj w0 z, fun z => by rw [z]⟩
  · have er1 : rowB W n r = false := by unfold rowB; rw [decide_eq_false h1]; rfl
    rw [er1]
    exact rns_ret (rn_ifT (Et.s (et_ne (ev_len T.b_len (ev_nm 0 rfl) (.inl rfl)) (ev_add (ev_nm 1 rfl) ev_int))) (by
      rw [el]
      show (!decide _) = true
      rw [decide_eq_false (by omega)]; rfl) (rns_one (rn_ret (Ev.s ev_bl))))
abbrev s_are_shares : Stmt := top 21
theorem sc_are_shares : FnScope ["counts", "shares"] ["counts", "shares"] (defScope s_are_shares) := ⟨rfl, rfl, rfl, by decide +kernel, rfl, by decide +kernel, by decide +kernel⟩
def areB (W : Int) (c : List Int) (rows : List (List Int)) : Bool := rows.all (rowB W c.length) && (numsF c.length).all fun x => decide ((colF rows x).sum ≤ c.getD x.toNat 0 * W)
def rAre (dd : List Dv) (t : Tr) : Prop := ∃ (W : Int) (c : List Int) (rows : List (List Int)), ShOk W rows ∧ c.length ≤ 6 ∧ (∀ x ∈ c, 0 ≤ x ∧ x ≤ 9) ∧ dd = [dis c, dSh W rows] ∧ t = tb (areB W c rows)
theorem enum_nums (c : List Int) : enuD (c.map di) = (numsF c.length).map fun x => Dv.tup [di x, di (c.getD x.toNat 0)] := by
  unfold enuD
  refine List.ext_getElem? fun n => ?_
  rw [List.getElem?_zipWith, List.length_map, List.getElem?_map, List.getElem?_map]
  by_cases hn : n < c.length
  · have e1 : (numsF c.length)[n]? = some (0 + (n : Int)) := by
      unfold numsF
      rw [List.getElem?_map, List.getElem?_range hn]; rfl
    rw [e1, List.getElem?_range hn, List.getElem?_eq_getElem hn]
    show some (Dv.tup [di (n : Int), di c[n]]) = some (Dv.tup [di (0 + (n : Int)), di (c.getD (0 + (n : Int)).toNat 0)])
    rw [Int.zero_add, Int.toNat_natCast, List.getD_eq_getElem?_getD, List.getElem?_eq_getElem hn]; rfl
  · rw [List.getElem?_eq_none (l := List.range c.length) (by rw [List.length_range]; omega), List.getElem?_eq_none (l := numsF c.length) (by rw [nums_len]; omega)]; rfl
theorem ok_are_shares {f f1 f2 f3 f4 : Addr} {fd fd1 fd2 fd3 fd4 : FuncData} {k : Nat} {tk : Tok} (F : Fun K "are_shares" "are_shares" s_are_shares f fd) (T : Txt mg) (K_is_row : Kn P w K mg base CX0 (k + 5) "is_row" f1 fd1 ["row", "many"] (spT K rIsRow)) (K_under : Kn P w K mg base CX0 (k + 1) "under" f2 fd2 ["one", "other"] (spT K rUnder)) (K_fraction : Kn P w K mg base CX0 (k + 2) "fraction" f3 fd3 ["top", "bottom"] (spT K rFrac)) (B1 : Binds K fd3 ["top", "bottom"] [.int 1 tk]) (K_dealt_of : Kn P w K mg base CX0 (k + 5) "dealt_of" f4 fd4 ["shares", "one"] (spT K rDealt)) : FnOk P w K mg base CX0 (k + 6) f fd ["counts", "shares"] (spT K rAre) := by
  refine fn_ok F.d sc_are_shares (fun dd t h => by obtain ⟨_, _, _, _, _, _, rfl, _⟩ := h; rfl) fun dd t h => ?_
  obtain ⟨W, c, rows, ok, c6, cb, rfl, rfl⟩ := h
  refine ⟨_, .inl rfl, ?_⟩
  have big : 1000 < sizeLine := by decide
  have hl := ok.len
  have w0 := ok.w0
  have w1 := ok.w1
  have ea : (rows.map (rowB W c.length)).all id = rows.all (rowB W c.length) := by rw [List.all_map]; rfl
  refine rns_ifr (Et.s (et_not (et_val (ev_all (bs := rows.map (rowB W c.length)) T.b_all (ev_lcm (own := ["row"]) (fr := [0]) rows (dFs W) (fun r => tb (rowB W c.length r)) (fun i => lcs ⟨rfl, rfl, by decide +kernel, by decide +kernel, by decide +kernel, by decide +kernel⟩) (evi_list (ev_nm 1 rfl) rfl) (evg_nm 0 (fun _ => by show List.Nodup (["row", "counts"] : List Str); decide)) (by decide) (by omega) (fun r hr => ⟨_, rfl, by
      exact ev_call K_is_row (Nat.le_refl _) (eva_cons (ev_nm 0 rfl) (eva_cons (Ev.to (t' := ti (c.length : Nat)) (ev_len T.b_len (ev_nm 1 rfl) (.inl rfl)) (by rw [List.length_map])) eva_nil)) ⟨W, r, c.length, w0, w1, ok.row r hr, rfl, rfl⟩⟩) (fun dd => by cases dd <;> rfl)) (er_mapB _ _))))) (fun h => ?_) (fun h => ?_)
  · rw [ea] at h
    have h' : rows.all (rowB W c.length) = false := by simpa using h
    have : areB W c rows = false := by unfold areB; rw [h']; rfl
    rw [this]
    exact rns_one (rn_ret (Ev.s ev_bl))
  · rw [ea] at h
    have h' : rows.all (rowB W c.length) = true := by simpa using h
    have x1 : ∀ x : Int, 0 ≤ x → x < c.length → ∀ r ∈ rows, x < r.length := fun x _ hx r hr => by
      have := List.all_eq_true.mp h' r hr
      unfold rowB at this
      rw [Bool.and_eq_true] at this
      have := of_decide_eq_true this.1
      omega
    have e2 : areB W c rows = !((numsF c.length).map fun x => decide (c.getD x.toNat 0 * W < (colF rows x).sum)).any id := by
      unfold areB
      rw [h', Bool.true_and, List.any_map]
      induction numsF c.length with
      | nil => rfl
      | cons a l ih =>
        rw [List.any_cons, List.all_cons, ih, Bool.not_or]
        congr 1
        show decide _ = !decide _
        by_cases z : c.getD a.toNat 0 * W < (colF rows a).sum
        · rw [decide_eq_true z, decide_eq_false (by omega)]; rfl
        · rw [decide_eq_false z, decide_eq_true (by omega)]; rfl
    rw [e2]
    refine rns_one (rn_ret (Ev.s (ev_not (ev_any (bs := (numsF c.length).map fun x => decide (c.getD x.toNat 0 * W < (colF rows x).sum)) T.b_any (ev_lcm (own := ["thing", "count"]) (fr := [1]) (numsF c.length) (fun x => .tup [di x, di (c.getD x.toNat 0)]) (fun x => tb (decide (c.getD x.toNat 0 * W < (colF rows x).sum))) (fun i => lcs ⟨rfl, rfl, by decide +kernel, by decide +kernel, by decide +kernel, by decide +kernel⟩) (EvI.to (evi_enum T.b_enumerate (ev_nm 0 rfl) rfl) (enum_nums c)) (evg_t2 0 1 (fun _ => by show List.Nodup (["thing", "count", "shares"] : List Str); decide)) (by decide) (by rw [nums_len]; omega) (fun x hx => ⟨_, rfl, by
        obtain ⟨x0, x2⟩ := mem_nums.mp hx
        have hc : 0 ≤ c.getD x.toNat 0 ∧ c.getD x.toNat 0 ≤ 9 := cb _ (by rw [List.getD_eq_getElem?_getD, List.getElem?_eq_getElem (show x.toNat < c.length by omega)]; exact List.getElem_mem _)
        have hs := sum_sg' w0 (col_sg ok x0 (x1 x x0 x2))
        have h9 : c.getD x.toNat 0 * W ≤ 9 * W := Int.mul_le_mul_of_nonneg_right hc.2 (by omega)
        have h0 : 0 ≤ c.getD x.toNat 0 * W := Int.mul_nonneg hc.1 (by omega)
        have ef : tF (lT (c.getD x.toNat 0) 1, lB (c.getD x.toNat 0) 1) = tF (fW W (c.getD x.toNat 0 * W)) := by
          rw [← fW_same w0 (show (1 : Int) ≠ 0 by decide) (show c.getD x.toNat 0 * W = c.getD x.toNat 0 * W * 1 by rw [Int.mul_one])]
        exact Ev.to (ev_call K_under (by show k + 1 ≤ k + 5; omega) (eva_cons (Ev.to (ev_callD K_fraction B1 (by show k + 2 ≤ k + 5; omega) (eva_cons (ev_nm 1 rfl) eva_nil) ⟨c.getD x.toNat 0, 1, by decide, by decide, rfl, rfl⟩) ef) (eva_cons (ev_call K_dealt_of (Nat.le_refl _) (eva_cons (ev_nm 2 rfl) (eva_cons (ev_nm 0 rfl) eva_nil)) ⟨W, rows, x, ok, x0, x1 x x0 x2, rfl, rfl⟩) eva_nil)) ⟨_, _, fW_sg w0 w1 (by omega), fW_sg w0 w1 hs, rfl, rfl⟩) (by rw [under_fW w0])⟩) (fun dd => by rcases dd with _ | ⟨_, _ | ⟨_, _⟩⟩ <;> rfl)) (er_mapB _ _)))))
abbrev s_is_shares : Stmt := top 22
theorem sc_is_shares : FnScope ["table", "shares"] ["table", "shares"] (defScope s_is_shares) := ⟨rfl, rfl, rfl, by decide +kernel, rfl, by decide +kernel, by decide +kernel⟩
def rIsSh (dd : List Dv) (t : Tr) : Prop := ∃ (W : Int) (c : List Int) (os : List (List Int)) (rows : List (List Int)), ShOk W rows ∧ c.length ≤ 6 ∧ (∀ x ∈ c, 0 ≤ x ∧ x ≤ 9) ∧ dd = [tabD c os, dSh W rows] ∧ t = tb (decide (rows.length = os.length) && areB W c rows)
theorem ok_is_shares {f f1 : Addr} {fd fd1 : FuncData} {k : Nat} (F : Fun K "is_shares" "is_shares" s_is_shares f fd) (T : Txt mg) (K_are_shares : Kn P w K mg base CX0 (k + 6) "are_shares" f1 fd1 ["counts", "shares"] (spT K rAre)) : FnOk P w K mg base CX0 (k + 7) f fd ["table", "shares"] (spT K rIsSh) := by
  refine fn_ok F.d sc_is_shares (fun dd t h => by obtain ⟨_, _, _, _, _, _, _, rfl, _⟩ := h; rfl) fun dd t h => ?_
  obtain ⟨W, c, os, rows, ok, c6, cb, rfl, rfl⟩ := h
  refine ⟨_, .inl rfl, ?_⟩
  refine rns_one (rn_ret (EvS.to (Ev.s (ev_and (ev_eq (ev_len T.b_len (ev_nm 1 rfl) (.inl rfl)) (ev_len T.b_len (ev_ixT (xs := [dis c, .lst (os.map dis)]) (d := .lst (os.map dis)) (ev_nm 0 rfl) ev_int rfl rfl) (.inl rfl))) fun _ => (ev_one (ev_call K_are_shares (Nat.le_refl _) (eva_cons (ev_ixT (xs := [dis c, .lst (os.map dis)]) (d := dis c) (ev_nm 0 rfl) ev_int rfl rfl) (eva_cons (ev_nm 1 rfl) eva_nil)) ⟨W, c, rows, ok, c6, cb, rfl, rfl⟩)))) ?_))
  rw [List.length_map, List.length_map]
  congr 2
  exact decide_eq_decide.mpr ⟨fun z => by omega, fun z => by omega⟩
end
end K10
namespace K10
open PySem L2 Fra
section
variable {P : Program} {w : World} {K : PySem.W.Frag} {mg : Str → Option Value} {base : Heap}
theorem fW_dvd {W s : Int} (h : 0 < W) : (fW W s).2 ∣ W := by
  have := lB_mul s W
  rw [show ((W.natAbs : Nat) : Int) = W by omega] at this
  exact ⟨gc s W, this.symm⟩
theorem lc_alt (m b : Int) : m / gc m b * b = lc m b := by
  unfold lc
  rw [Int.mul_comm m b, Int.mul_ediv_assoc _ (gc_dvd_l m b), Int.mul_comm]
def botsF (W : Int) (rows : List (List Int)) : List Int := rows.flatten.map fun s => (fW W s).2
def lAll (W : Int) (rows : List (List Int)) : Int := lcF 1 (botsF W rows)
theorem bots_pos {W : Int} (w0 : 0 < W) (l : List Int) : ∀ b ∈ l.map fun s => (fW W s).2, 0 < b := fun b hb => by
  obtain ⟨s, _, rfl⟩ := List.mem_map.mp hb
  exact fW_pos w0
theorem lc_ok {W : Int} (w0 : 0 < W) (l : List Int) : lcF 1 (l.map fun s => (fW W s).2) ∣ W ∧ 0 < lcF 1 (l.map fun s => (fW W s).2) :=
  ⟨lcF_least (by decide) (bots_pos w0 l) (Int.one_dvd _) fun b hb => by
    obtain ⟨s, _, rfl⟩ := List.mem_map.mp hb
    exact fW_dvd w0, lcF_pos (by decide) (bots_pos w0 l)⟩
theorem lAll_dvd {W : Int} (w0 : 0 < W) {rows : List (List Int)} {r : List Int} (hr : r ∈ rows) {s : Int} (hs : s ∈ r) : (fW W s).2 ∣ lAll W rows :=
  (lcF_dvd (by decide) (bots_pos w0 _)).2 _ (List.mem_map.mpr ⟨s, List.mem_flatten.mpr ⟨r, hr, hs⟩, rfl⟩)
abbrev s__law_all : Stmt := top 33
theorem sc__law_all : FnScope ["_law_shares", "_law_bottom", "_law_row", "_law_top", "_law_own"] ["_law_shares"] (defScope s__law_all) := ⟨rfl, rfl, rfl, by decide +kernel, rfl, by decide +kernel, by decide +kernel⟩
def rAll (dd : List Dv) (t : Tr) : Prop := ∃ (W : Int) (rows : List (List Int)), ShOk W rows ∧ dd = [dSh W rows] ∧ t = ti (lAll W rows)
theorem ok__law_all {f f1 : Addr} {fd fd1 : FuncData} {k : Nat} (F : Fun K "_law_all" "_law_all" s__law_all f fd) (T : Txt mg) (K__law_divisor : Kn P w K mg base CX0 (k + 1) "_law_divisor" f1 fd1 ["_law_one", "_law_other"] (spT K rDivisor)) : FnOk P w K mg base CX0 (k + 2) f fd ["_law_shares"] (spT K rAll) := by
  refine fn_ok F.d sc__law_all (fun dd t h => by obtain ⟨_, _, _, rfl, _⟩ := h; rfl) fun dd t h => ?_
  obtain ⟨W, rows, ok, rfl, rfl⟩ := h
  refine ⟨_, .inl rfl, ?_⟩
  have w0 := ok.w0
  have w1 := ok.w1
  refine rns_cons (rn_set 1 (Ev.s ev_int) (fun _ => sc__law_all.nd)) ?_
  refine rns_cons (rn_for (EvI.s (evi_list (ev_nm 0 rfl) rfl)) (evg_nm 2 (fun _ => sc__law_all.nd)) (fun j => [some (.fz (dSh W rows)), some (ti (lAll W (rows.take j))), none, none, none]) rfl (fun _ => rfl) (fun j d hd => ?_)) ?_
  · obtain ⟨r, hr, rfl⟩ := map_get hd
    refine ⟨_, [some (.fz (dSh W rows)), some (ti (lAll W (rows.take (j + 1)))), some (.fz (dFs W r)), none, none], rfl, ?_, [2], rfl⟩
    have e1 : lAll W (rows.take (j + 1)) = lcF 1 (((rows.take j).flatten ++ r.take r.length).map fun s => (fW W s).2) := by
      unfold lAll botsF
      rw [take_get hr, List.flatten_append, List.flatten_singleton, List.take_length]
    have e0 : lAll W (rows.take j) = lcF 1 (((rows.take j).flatten ++ r.take 0).map fun s => (fW W s).2) := by
      unfold lAll botsF
      rw [List.take_zero, List.append_nil]
    rw [e1]
    generalize (rows.take j).flatten = pre at e0
    refine rns_one (Rn.to (rn_for (EvI.s (evi_list (ev_nm 2 rfl) rfl)) (evg_t2 3 4 (fun _ => sc__law_all.nd)) (fun i => [some (.fz (dSh W rows)), some (ti (lcF 1 ((pre ++ r.take i).map fun s => (fW W s).2))), some (.fz (dFs W r)), none, none]) ?_ (fun _ => rfl) (fun i d hd => ?_)) ?_)
    · rw [← e0]; rfl
    · obtain ⟨s, hs, rfl⟩ := map_get hd
      have e2 : lcF 1 ((pre ++ r.take (i + 1)).map fun s => (fW W s).2) = lc (lcF 1 ((pre ++ r.take i).map fun s => (fW W s).2)) (fW W s).2 := by
        rw [take_get hs, ← List.append_assoc, List.map_append]
        exact lcF_append _ _ _
      obtain ⟨d1, d2⟩ := lc_ok w0 (pre ++ r.take i)
      rw [e2]
      generalize lcF 1 ((pre ++ r.take i).map fun s => (fW W s).2) = L at d1 d2
      have b0 := fW_pos (s := s) w0
      have b1 := fW_le (s := s) w0
      have Lle := Int.le_of_dvd w0 d1
      have gp := gc_pos (a := L) (show (fW W s).2 ≠ 0 by omega)
      have gl := gc_le_r (a := L) b0
      have q0 := Int.ediv_nonneg (Int.le_of_lt d2) (Int.le_of_lt gp)
      have q1 := Int.ediv_le_self (gc L (fW W s).2) (Int.le_of_lt d2)
      refine ⟨_, _, rfl, rns_one (rn_set 1 (EvS.to (t' := ti (lc L (fW W s).2)) (Ev.s (ev_mul (ev_div (ev_nm 1 rfl) (ev_call K__law_divisor (Nat.le_refl _) (eva_cons (ev_nm 1 rfl) (eva_cons (ev_nm 4 rfl) eva_nil)) ⟨L, (fW W s).2, by omega, by omega, rfl, rfl⟩) ⟨gp, small_lt (by omega) (by omega)⟩) (ev_nm 4 rfl) ⟨small_lt (by omega) (by omega), small_lt (by omega) (by omega)⟩)) (by rw [lc_alt])) (fun _ => sc__law_all.nd)), [3, 4], rfl⟩
    · rw [List.length_map]
  · rw [List.length_map, List.take_length]
    exact rns_one (rn_ret (Ev.s (ev_nm 1 rfl)))
def uV (W L s : Int) : Int := s * L / W
theorem uV_eq {W L s : Int} (h : 0 < W) (hd : (fW W s).2 ∣ L) : (fW W s).1 * (L / (fW W s).2) = uV W L s ∧ uV W L s * W = s * L := by
  have p := fW_pos (s := s) h
  have c := fW_cross (s := s) h
  have e : (fW W s).1 * (L / (fW W s).2) * W = s * L := by
    generalize (fW W s).1 = a at *
    generalize (fW W s).2 = b at *
    obtain ⟨q, rfl⟩ := hd
    rw [Int.mul_ediv_cancel_left _ (by omega), Int.mul_right_comm, c, Int.mul_assoc]
  have e2 : uV W L s = (fW W s).1 * (L / (fW W s).2) := by
    unfold uV
    rw [← e, Int.mul_ediv_cancel _ (by omega)]
  exact ⟨e2.symm, by rw [e2, e]⟩
theorem uV_neg {W L s : Int} (w0 : 0 < W) (l0 : 0 < L) (e : uV W L s * W = s * L) : uV W L s < 0 ↔ s < 0 := by
  constructor
  · intro z
    rcases Int.lt_or_le s 0 with q | q
    · exact q
    · have h1 := Int.mul_neg_of_neg_of_pos z w0
      have h2 := Int.mul_nonneg q (Int.le_of_lt l0)
      omega
  · intro z
    rcases Int.lt_or_le (uV W L s) 0 with q | q
    · exact q
    · have h1 := Int.mul_neg_of_neg_of_pos z l0
      have h2 := Int.mul_nonneg q (Int.le_of_lt w0)
      omega
theorem uV_add {W L s t : Int} (w0 : 0 < W) (e1 : uV W L s * W = s * L) (e2 : uV W L t * W = t * L) : uV W L (s + t) = uV W L s + uV W L t ∧ uV W L (s + t) * W = (s + t) * L := by
  have e : (uV W L s + uV W L t) * W = (s + t) * L := by rw [Int.add_mul, Int.add_mul, e1, e2]
  have e3 : uV W L (s + t) = uV W L s + uV W L t := by
    show (s + t) * L / W = _
    rw [← e, Int.mul_ediv_cancel _ (by omega)]
  exact ⟨e3, by rw [e3, e]⟩
theorem uV_zero (W L : Int) : uV W L 0 = 0 := by unfold uV; rw [Int.zero_mul, Int.zero_ediv]
theorem uV_sum {W L : Int} (w0 : 0 < W) : ∀ {l : List Int}, (∀ s ∈ l, uV W L s * W = s * L) → uV W L l.sum = (l.map (uV W L)).sum ∧ uV W L l.sum * W = l.sum * L
  | [], _ => by
    show uV W L 0 = 0 ∧ uV W L 0 * W = 0 * L
    rw [uV_zero, Int.zero_mul, Int.zero_mul]; exact ⟨rfl, rfl⟩
  | s :: l, h => by
    have ih := uV_sum w0 fun t ht => h t (.tail _ ht)
    have := uV_add w0 (h s (.head _)) ih.2
    rw [List.sum_cons, List.map_cons, List.sum_cons, ← ih.1]
    exact this
theorem uV_inj {W L s t : Int} (l0 : 0 < L) (e1 : uV W L s * W = s * L) (e2 : uV W L t * W = t * L) : uV W L s = uV W L t ↔ s = t := by
  constructor
  · intro z
    rw [z, e2] at e1
    exact Int.eq_of_mul_eq_mul_right (by omega) e1.symm
  · intro z; rw [z]
theorem uV_self {W L : Int} (w0 : 0 < W) : uV W L W = L := by unfold uV; rw [Int.mul_comm, Int.mul_ediv_cancel _ (by omega)]
theorem ex_min : ∀ {l : List Int}, l ≠ [] → ∃ m, m ∈ l ∧ ∀ a ∈ l, m ≤ a
  | [], h => absurd rfl h
  | [a], _ => ⟨a, .head _, fun b hb => by rw [List.mem_singleton.mp hb]; exact Int.le_refl _⟩
  | a :: b :: l, _ => by
    obtain ⟨m, h1, h2⟩ := ex_min (l := b :: l) (by simp)
    rcases Int.lt_or_le a m with z | z
    · exact ⟨a, .head _, fun x hx => by
        rcases List.mem_cons.mp hx with rfl | hx
        · exact Int.le_refl _
        · have := h2 x hx; omega⟩
    · exact ⟨m, .tail _ h1, fun x hx => by
        rcases List.mem_cons.mp hx with rfl | hx
        · exact z
        · exact h2 x hx⟩
theorem first_bad {α : Type} (g : α → Bool) : ∀ l : List α, ∃ m, m ≤ l.length ∧ (∀ k x, k < m → l[k]? = some x → g x = true) ∧ ((m = l.length ∧ l.all g = true) ∨ ∃ x, l[m]? = some x ∧ g x = false ∧ l.all g = false)
  | [] => ⟨0, Nat.le_refl _, fun k x h => absurd h (Nat.not_lt_zero _), .inl ⟨rfl, rfl⟩⟩
  | a :: l => by
    cases h : g a with
    | false => exact ⟨0, Nat.zero_le _, fun k x h => absurd h (Nat.not_lt_zero _), .inr ⟨a, rfl, h, by rw [List.all_cons, h]; rfl⟩⟩
    | true =>
      obtain ⟨m, h1, h2, h3⟩ := first_bad g l
      refine ⟨m + 1, Nat.succ_le_succ h1, fun k x hk hx => ?_, ?_⟩
      · cases k with
        | zero => cases hx; exact h
        | succ k => exact h2 k x (by omega) hx
      · rcases h3 with ⟨e, h3⟩ | ⟨x, h3, h4, h5⟩
        · exact .inl ⟨by rw [e]; rfl, by rw [List.all_cons, h, h3]; rfl⟩
        · exact .inr ⟨x, h3, h4, by rw [List.all_cons, h, h5]; rfl⟩
theorem nums_get10 {n j : Nat} (h : j < n) : (numsF n)[j]? = some (0 + (j : Int)) := by
  unfold numsF
  rw [List.getElem?_map, List.getElem?_range h]; rfl
theorem nums_set {β : Type} {A : Nat} (f : Int → β) {i : Nat} (v : β) (h : i < A) : ((numsF A).map f).set i v = (numsF A).map fun a => if a = (i : Int) then v else f a := by
  refine List.ext_getElem? fun n => ?_
  rw [List.getElem?_set, List.length_map, nums_len, List.getElem?_map, List.getElem?_map]
  by_cases hn : i = n
  · subst hn
    rw [if_pos rfl, if_pos h, nums_get10 h]
    show some v = some (if 0 + (i : Int) = i then v else _)
    rw [if_pos (by omega)]
  · rw [if_neg hn]
    by_cases hA : n < A
    · rw [nums_get10 hA]
      show some (f (0 + (n : Int))) = some (if 0 + (n : Int) = i then v else f (0 + (n : Int)))
      rw [if_neg (by omega)]
    · rw [List.getElem?_eq_none (by rw [nums_len]; omega)]; rfl
theorem col_succ {rows : List (List Int)} {j : Nat} {r : List Int} (h : rows[j]? = some r) (x : Int) : (colF (rows.take (j + 1)) x).sum = (colF (rows.take j) x).sum + r.getD x.toNat 0 := by
  unfold colF
  rw [take_get h, List.map_append, List.sum_append]
  show _ + (r.getD x.toNat 0 + 0) = _
  rw [Int.add_zero]
abbrev s__law_due : Stmt := top 34
theorem sc__law_due : FnScope ["_law_counts_here", "_law_askers", "_law_shares", "_law_bottom", "_law_totals", "_law_row", "_law_tops", "_law_thing"] ["_law_counts_here", "_law_askers", "_law_shares"] (defScope s__law_due) := ⟨rfl, rfl, rfl, by decide +kernel, rfl, by decide +kernel, by decide +kernel⟩
def rDue (dd : List Dv) (t : Tr) : Prop := ∃ (W : Int) (c : List Int) (A : Nat) (rows : List (List Int)), ShOk W rows ∧ c.length ≤ 6 ∧ (∀ x ∈ c, 0 ≤ x ∧ x ≤ 9) ∧ dd = [dis c, di (A : Nat), dSh W rows] ∧ t = tb (decide (rows.length = A) && areB W c rows)
theorem ok__law_due {f f1 : Addr} {fd fd1 : FuncData} {k : Nat} (F : Fun K "_law_due" "_law_due" s__law_due f fd) (T : Txt mg) (K__law_all : Kn P w K mg base CX0 (k + 2) "_law_all" f1 fd1 ["_law_shares"] (spT K rAll)) : FnOk P w K mg base CX0 (k + 3) f fd ["_law_counts_here", "_law_askers", "_law_shares"] (spT K rDue) := by
  refine fn_ok F.d sc__law_due (fun dd t h => by obtain ⟨_, _, _, _, _, _, _, rfl, _⟩ := h; rfl) fun dd t h => ?_
  obtain ⟨W, c, A, rows, ok, c6, cb, rfl, rfl⟩ := h
  refine ⟨_, .inl rfl, ?_⟩
  have big : 1000 < sizeLine := by decide
  have w0 := ok.w0
  have w1 := ok.w1
  have hl := ok.len
  obtain ⟨Ldv, L0⟩ : lAll W rows ∣ W ∧ 0 < lAll W rows := lc_ok w0 rows.flatten
  have L1 := Int.le_of_dvd w0 Ldv
  have Ld : ∀ r ∈ rows, ∀ s ∈ r, (fW W s).1 * (lAll W rows / (fW W s).2) = uV W (lAll W rows) s ∧ uV W (lAll W rows) s * W = s * lAll W rows := fun r hr s hs => uV_eq w0 (lAll_dvd w0 hr hs)
  refine rns_cons (rn_set 3 (Ev.s (ev_call K__law_all (Nat.le_refl _) (eva_cons (ev_nm 2 rfl) eva_nil) ⟨W, rows, ok, rfl, rfl⟩)) (fun _ => sc__law_due.nd)) ?_
  generalize lAll W rows = L at *
  have Lg : ∀ r ∈ rows, ∀ n, uV W L (r.getD n 0) * W = r.getD n 0 * L := fun r hr n => by
    by_cases hn : n < r.length
    · refine (Ld r hr _ ?_).2
      rw [List.getD_eq_getElem?_getD, List.getElem?_eq_getElem hn]
      exact List.getElem_mem _
    · rw [List.getD_eq_getElem?_getD, List.getElem?_eq_none (by omega)]
      show uV W L 0 * W = 0 * L
      rw [uV_zero, Int.zero_mul, Int.zero_mul]
  have Lc : ∀ j x, uV W L (colF (rows.take j) x).sum * W = (colF (rows.take j) x).sum * L := fun j x => (uV_sum w0 fun s hs => by
    obtain ⟨r, hr, rfl⟩ := List.mem_map.mp hs
    exact Lg r (List.mem_of_mem_take hr) _).2
  have rl : (((rows.map (dFs W)).length : Nat) : Int) = rows.length := by rw [List.length_map]
  have cl : (((c.map di).length : Nat) : Int) = c.length := by rw [List.length_map]
  have eTop : ∀ r : List Int, er (.ow (r.map fun s => ti (uV W L s))) = dis (r.map (uV W L)) := fun r => by
    rw [er_ow_map]
    show Dv.lst _ = Dv.lst (List.map _ (List.map _ _))
    rw [List.map_map]; rfl
  have rowl : ∀ r : List Int, (((r.map fun s => dF (fW W s)).length : Nat) : Int) = r.length := fun r => by rw [List.length_map]
  refine rns_ifr (Et.s (et_ne (ev_len T.b_len (ev_nm 2 rfl) (.inl rfl)) (ev_nm 1 rfl))) (fun h => ?_) (fun h => ?_)
  · have hA : ¬ rows.length = A := fun z => by
      rw [rl, z] at h
      simp at h
    rw [decide_eq_false hA, Bool.false_and]
    exact rns_one (rn_ret (Ev.s ev_bl))
  have hA : rows.length = A := by
    rw [rl] at h
    have : (rows.length : Int) = A := by simpa using h
    omega
  rw [decide_eq_true hA, Bool.true_and]
  have eT : Tr.ow (c.map fun _ => ti 0) = tInts ((numsF c.length).map fun x => uV W L (colF (rows.take 0) x).sum) := by
    have z : ∀ x, uV W L (colF (rows.take 0) x).sum = 0 := fun x => by rw [List.take_zero]; exact uV_zero W L
    simp only [z]
    show _ = Tr.ow (List.map _ (List.map _ _))
    rw [List.map_map]
    congr 1
    refine List.ext_getElem? fun n => ?_
    rw [List.getElem?_map, List.getElem?_map]
    by_cases hn : n < c.length
    · rw [nums_get10 hn, List.getElem?_eq_getElem hn]; rfl
    · rw [List.getElem?_eq_none (by omega), List.getElem?_eq_none (by rw [nums_len]; omega)]; rfl
  refine rns_cons (rn_set 4 (Ev.s (Ev.to (ev_lcm (own := ["_law_count"]) (fr := []) c di (fun _ => ti 0) (fun i => lcs ⟨rfl, rfl, by decide +kernel, by decide +kernel, by decide +kernel, by decide +kernel⟩) (evi_list (ev_nm 0 rfl) rfl) (evg_nm 0 (fun _ => by show List.Nodup (["_law_count"] : List Str); decide)) (by decide) (by omega) (fun x hx => ⟨_, rfl, by exact ev_int⟩) (fun dd => by cases dd <;> rfl)) eT)) (fun _ => sc__law_due.nd)) ?_
  obtain ⟨m, hm, hg, hend⟩ := first_bad (rowB W c.length) rows
  have hmin : ∀ r : List Int, r.length = c.length + 1 → ∃ mn, mn ∈ r.map (uV W L) ∧ ∀ a ∈ r.map (uV W L), mn ≤ a := fun r hr => ex_min (by
    intro z
    have := congrArg List.length z
    rw [List.length_map, hr] at this
    cases this)
  have htest : ∀ r ∈ rows, r.length = c.length + 1 → ∀ mn, (mn ∈ r.map (uV W L) ∧ ∀ a ∈ r.map (uV W L), mn ≤ a) → (decide (mn < 0) || !decide ((r.map (uV W L)).sum = L)) = !rowB W c.length r := fun r hr hlen mn hmn => by
    unfold rowB
    rw [decide_eq_true hlen, Bool.true_and, Bool.not_and]
    have us := uV_sum w0 fun s hs => (Ld r hr s hs).2
    congr 1
    · cases hq : r.all (fun s => decide (0 ≤ s)) with
      | true =>
        obtain ⟨s, hs, rfl⟩ := List.mem_map.mp hmn.1
        have := of_decide_eq_true (List.all_eq_true.mp hq s hs)
        exact decide_eq_false fun z => by
          have := (uV_neg w0 L0 (Ld r hr s hs).2).mp z
          omega
      | false =>
        obtain ⟨s, hs, hn⟩ := List.all_eq_false.mp hq
        have hs0 : s < 0 := by
          have : ¬ 0 ≤ s := by simpa using hn
          omega
        have h1 := (uV_neg w0 L0 (Ld r hr s hs).2).mpr hs0
        have h2 := hmn.2 _ (List.mem_map.mpr ⟨s, hs, rfl⟩)
        exact decide_eq_true (by omega)
    · congr 1
      rw [← us.1]
      refine decide_eq_decide.mpr ?_
      have := uV_inj (t := W) L0 us.2 (by rw [uV_self w0, Int.mul_comm])
      rw [uV_self w0] at this
      exact this
  refine rns_forg (EvI.s (evi_list (ev_nm 2 rfl) rfl)) (evg_nm 5 (fun _ => sc__law_due.nd)) (fun j => [some (.fz (dis c)), some (ti (A : Nat)), some (.fz (dSh W rows)), some (ti L), some (tInts ((numsF c.length).map fun x => uV W L (colF (rows.take j) x).sum)), none, none, none]) m (by rw [List.length_map]; exact hm) rfl (fun _ => rfl) (fun j d hj hd => ?_) ?_
  · obtain ⟨r, hr, rfl⟩ := map_get hd
    have gr := hg j r hj hr
    have hrm := List.mem_of_getElem? hr
    have lenr : r.length = c.length + 1 := by
      have := gr
      unfold rowB at this
      rw [Bool.and_eq_true] at this
      exact of_decide_eq_true this.1
    obtain ⟨mn, hmn⟩ := hmin r lenr
    have tst := htest r hrm lenr mn hmn
    rw [gr] at tst
    refine ⟨_, [some (.fz (dis c)), some (ti (A : Nat)), some (.fz (dSh W rows)), some (ti L), some (tInts ((numsF c.length).map fun x => uV W L (colF (rows.take (j + 1)) x).sum)), some (.fz (dFs W r)), some (.fz (dis (r.map (uV W L)))), none], rfl, ?_, [5, 6], rfl⟩
    refine rns_cons (rn_skip (Et.s (et_ne (ev_len T.b_len (ev_nm 5 rfl) (.inl rfl)) (ev_add (ev_len T.b_len (ev_nm 0 rfl) (.inl rfl)) ev_int))) (by rw [rowl, cl, lenr]; simp)) ?_
    refine rns_cons (rn_lcG 6 (ElcS (Elc.as (elcm (own := ["_law_top", "_law_own"]) (fr := [3]) r (fun s => dF (fW W s)) (fun s => ti (uV W L s)) (evi_list (ev_nm 5 rfl) rfl) (evg_t2 0 1 (fun _ => by show List.Nodup (["_law_top", "_law_own", "_law_bottom"] : List Str); decide)) (by decide) (by omega) (fun s hs => ⟨_, rfl, by
        have f0 := fW_pos (s := s) w0
        have f1 := fW_le (s := s) w0
        have ft := fW_top (s := s) w0
        have sb := (ok.row r hrm).b s hs
        have q0 := Int.ediv_nonneg (Int.le_of_lt L0) (Int.le_of_lt f0)
        have q1 := Int.ediv_le_self (fW W s).2 (Int.le_of_lt L0)
        exact Ev.to (ev_mul (ev_nm 0 rfl) (ev_div (ev_nm 2 rfl) (ev_nm 1 rfl) ⟨f0, small_lt (by omega) (by omega)⟩) ⟨lt_big (fW_sg w0 w1 (by omega)).2.2 (by decide), small_lt (by omega) (by omega)⟩) (by rw [(Ld r hrm s hs).1])⟩) (fun dd => by rcases dd with _ | ⟨_, _ | ⟨_, _⟩⟩ <;> rfl)) (eTop r))) (fun i => lcs ⟨rfl, rfl, by decide +kernel, by decide +kernel, by decide +kernel, by decide +kernel⟩) (fun _ => sc__law_due.nd)) ?_
    refine rns_cons (rn_skip (Et.s (Ew.et (ew_or (et_lt (ev_min1 (ns := r.map (uV W L)) (m := mn) T.b_min (ev_nm 6 rfl) rfl hmn) ev_int) fun _ => (ew_or1 (et_ne (ev_sum (ns := r.map (uV W L)) T.b_sum (ev_nm 6 rfl) rfl) (ev_nm 3 rfl)))))) (by rw [tst]; rfl)) ?_
    refine rns_one (Rn.to (rn_for (its := rngD 0 c.length) (EvI.s (EvI.to (evi_range1 T.b_range (ev_len T.b_len (ev_nm 0 rfl) (.inl rfl)) (by rw [cl]; omega)) (by rw [cl, Int.toNat_natCast]))) (evg_nm 7 (fun _ => sc__law_due.nd)) (fun i => [some (.fz (dis c)), some (ti (A : Nat)), some (.fz (dSh W rows)), some (ti L), some (tInts ((numsF c.length).map fun x => if x < ((i : Nat) : Int) then uV W L (colF (rows.take (j + 1)) x).sum else uV W L (colF (rows.take j) x).sum)), some (.fz (dFs W r)), some (.fz (dis (r.map (uV W L)))), none]) ?_ (fun _ => rfl) (fun i d hi => ?_)) ?_)
    · have z : ((numsF c.length).map fun x => if x < ((0 : Nat) : Int) then uV W L (colF (rows.take (j + 1)) x).sum else uV W L (colF (rows.take j) x).sum) = (numsF c.length).map fun x => uV W L (colF (rows.take j) x).sum := by
        refine List.map_congr_left fun x hx => ?_
        have := (mem_nums.mp hx).1
        rw [if_neg (by omega)]
      rw [z]; rfl
    · obtain ⟨hi', rfl⟩ := rng_get hi
      have ei : (0 : Int) + (i : Int) = i := by omega
      rw [ei]
      have at0 : atI (((numsF c.length).map fun x => if x < ((i : Nat) : Int) then uV W L (colF (rows.take (j + 1)) x).sum else uV W L (colF (rows.take j) x).sum).map di) (i : Int) = some (di (uV W L (colF (rows.take j) (i : Int)).sum)) := by
        rw [List.map_map]
        refine atI_nat ?_
        rw [List.getElem?_map, nums_get10 hi', ei]
        show some (di (if (i : Int) < i then _ else _)) = _
        rw [if_neg (by omega)]
      have at6 : atI ((r.map (uV W L)).map di) (i : Int) = some (di (uV W L (r.getD i 0))) := by
        refine atI_nat ?_
        rw [List.getElem?_map, List.getElem?_map, List.getElem?_eq_getElem (by omega), List.getD_eq_getElem?_getD, List.getElem?_eq_getElem (by omega)]; rfl
      have ev : uV W L (colF (rows.take (j + 1)) (i : Int)).sum = uV W L (colF (rows.take j) (i : Int)).sum + uV W L (r.getD i 0) := by
        rw [col_succ hr]
        exact (uV_add w0 (Lc j _) (Lg r hrm _)).1
      have key : ((numsF c.length).map fun x => if x < ((i : Nat) : Int) then uV W L (colF (rows.take (j + 1)) x).sum else uV W L (colF (rows.take j) x).sum).set i (uV W L (colF (rows.take (j + 1)) (i : Int)).sum) = (numsF c.length).map fun x => if x < ((i + 1 : Nat) : Int) then uV W L (colF (rows.take (j + 1)) x).sum else uV W L (colF (rows.take j) x).sum := by
        rw [nums_set _ _ hi']
        refine List.map_congr_left fun a ha => ?_
        by_cases hai : a = (i : Int)
        · rw [if_pos hai, if_pos (by omega), hai]
        · rw [if_neg hai]
          by_cases hq : a < (i : Int)
          · rw [if_pos hq, if_pos (by omega)]
          · rw [if_neg hq, if_neg (by omega)]
      refine ⟨_, _, rfl, rns_one (rn_ixset 4 (us := ((numsF c.length).map fun x => if x < ((i : Nat) : Int) then uV W L (colF (rows.take (j + 1)) x).sum else uV W L (colF (rows.take j) x).sum).map fun n => Tr.fz (di n)) (n := (i : Int)) (m := i) rfl (Ev.s (ev_nm 7 rfl)) (by rw [List.length_map, List.length_map, nums_len]; unfold ixN; rw [if_pos (by omega), if_pos (by omega)]; rfl) (EvS.to (t' := ti (uV W L (colF (rows.take (j + 1)) (i : Int)).sum)) (Ev.pk (ev_add (ev_ix (ev_nm 4 rfl) (ev_nm 7 rfl) (er_tInts _) at0) (ev_ix (ev_nm 6 rfl) (ev_nm 7 rfl) rfl at6)) True.intro) (by rw [ev])) (hps := fun i => pg_sub (pv 4) (uE_ok i) set_list)), [7], ?_⟩
      rw [← key]
      show [_, _, _, _, some (Tr.ow (List.set _ i _)), _, _, _] = [_, _, _, _, some (Tr.ow (List.map _ _)), _, _, _]
      rw [List.map_set]
    · have elr : (rngD 0 c.length).length = c.length := by rw [List.length_map, List.length_range]
      rw [elr]
      have z : ((numsF c.length).map fun x => if x < ((c.length : Nat) : Int) then uV W L (colF (rows.take (j + 1)) x).sum else uV W L (colF (rows.take j) x).sum) = (numsF c.length).map fun x => uV W L (colF (rows.take (j + 1)) x).sum := by
        refine List.map_congr_left fun x hx => ?_
        rw [if_pos (mem_nums.mp hx).2]
      rw [z]
  · rcases hend with ⟨he, hall⟩ | ⟨r, hr, gb, hall⟩
    · refine .inl ⟨by rw [List.length_map]; exact he, ?_⟩
      rw [he, List.take_length]
      have Lcx : ∀ x, uV W L (colF rows x).sum * W = (colF rows x).sum * L := fun x => by
        have := Lc rows.length x
        rw [List.take_length] at this
        exact this
      have hcx : ∀ x : Int, 0 ≤ x → x < c.length → 0 ≤ c.getD x.toNat 0 ∧ c.getD x.toNat 0 ≤ 9 := fun x x0 x1 => cb _ (by rw [List.getD_eq_getElem?_getD, List.getElem?_eq_getElem (show x.toNat < c.length by omega)]; exact List.getElem_mem _)
      have ef : ∀ x, decide (c.getD x.toNat 0 * L < uV W L (colF rows x).sum) = !decide ((colF rows x).sum ≤ c.getD x.toNat 0 * W) := fun x => by
        have e := Lcx x
        generalize uV W L (colF rows x).sum = u at *
        generalize (colF rows x).sum = S at *
        generalize c.getD x.toNat 0 = q
        have e1 : q * L < u ↔ q * W < S := by
          constructor
          · intro z
            have h1 := Int.mul_lt_mul_of_pos_right z w0
            rw [e, Int.mul_right_comm] at h1
            exact Int.lt_of_mul_lt_mul_right h1 (by omega)
          · intro z
            have h1 := Int.mul_lt_mul_of_pos_right z L0
            rw [← e, Int.mul_right_comm] at h1
            exact Int.lt_of_mul_lt_mul_right h1 (by omega)
        by_cases z : q * L < u
        · have := e1.mp z
          rw [decide_eq_true z, decide_eq_false (by omega)]; rfl
        · have : ¬ q * W < S := fun y => z (e1.mpr y)
          rw [decide_eq_false z, decide_eq_true (by omega)]; rfl
      have ea : areB W c rows = ((numsF c.length).filter fun x => decide (c.getD x.toNat 0 * L < uV W L (colF rows x).sum)).isEmpty := by
        unfold areB
        rw [hall, Bool.true_and]
        simp only [ef]
        induction numsF c.length with
        | nil => rfl
        | cons a l ih =>
          rw [List.all_cons, List.filter_cons, ih]
          cases decide ((colF rows a).sum ≤ c.getD a.toNat 0 * W) with
          | true => rfl
          | false => rfl
      rw [ea]
      have hfl : ((numsF c.length).filter fun x => decide (c.getD x.toNat 0 * L < uV W L (colF rows x).sum)).length ≤ 6 := Nat.le_trans (List.length_filter_le _ _) (by rw [nums_len]; exact c6)
      refine rns_one (rn_ret (EvS.to (Ev.pk (ev_eqS (ta := .ow (((numsF c.length).filter fun x => decide (c.getD x.toNat 0 * L < uV W L (colF rows x).sum)).map ti)) (ev_lcf (own := ["_law_thing"]) (fr := [4, 3, 0]) (numsF c.length) di (fun x => decide (c.getD x.toNat 0 * L < uV W L (colF rows x).sum)) ti (fun i => lcs ⟨rfl, rfl, by decide +kernel, by decide +kernel, by decide +kernel, by decide +kernel⟩) (EvI.to (evi_range1 T.b_range (ev_len T.b_len (ev_nm 0 rfl) (.inl rfl)) (by rw [cl]; omega)) (by rw [cl, Int.toNat_natCast]; unfold numsF; rw [List.map_map]; rfl)) (evg_nm 0 (fun _ => by show List.Nodup (["_law_thing", "_law_totals", "_law_bottom", "_law_counts_here"] : List Str); decide)) (by decide) (by rw [nums_len]; omega) (fun x hx => ⟨_, rfl, by
          obtain ⟨x0, x1⟩ := mem_nums.mp hx
          have hc := hcx x x0 x1
          have at1 : atI (((numsF c.length).map fun x => uV W L (colF rows x).sum).map di) x = some (di (uV W L (colF rows x).sum)) := by
            obtain ⟨q, rfl⟩ : ∃ q : Nat, x = (q : Int) := ⟨x.toNat, by omega⟩
            refine atI_nat ?_
            rw [List.getElem?_map, List.getElem?_map, nums_get10 (by omega), Int.zero_add]; rfl
          have at3 : atI (c.map di) x = some (di (c.getD x.toNat 0)) := by
            obtain ⟨q, rfl⟩ : ∃ q : Nat, x = (q : Int) := ⟨x.toNat, by omega⟩
            refine atI_nat ?_
            rw [List.getElem?_map, List.getElem?_eq_getElem (by omega), List.getD_eq_getElem?_getD, Int.toNat_natCast, List.getElem?_eq_getElem (by omega)]; rfl
          exact el_one (et_gt (ev_ix (ev_nm 1 rfl) (ev_nm 0 rfl) (er_tInts _) at1) (ev_mul (ev_ix (ev_nm 3 rfl) (ev_nm 0 rfl) rfl at3) (ev_nm 2 rfl) ⟨small_lt (by omega) (by omega), small_lt (by omega) (by omega)⟩)), fun _ => by exact ev_nm 0 rfl⟩) (fun dd => by cases dd <;> rfl)) (ev_lst eva_nil (Nat.zero_le _)) (.inl ⟨_, _, rfl, rfl⟩) ?_) True.intro) ?_))
      · rw [er_map]
        exact Nat.le_trans (dpD_dis _) (by decide)
      · cases hf : ((numsF c.length).filter fun x => decide (c.getD x.toNat 0 * L < uV W L (colF rows x).sum)) with
        | nil => rfl
        | cons a l => rfl
    · have ea : areB W c rows = false := by unfold areB; rw [hall]; rfl
      have hrm := List.mem_of_getElem? hr
      refine .inr ⟨dFs W r, [dFs W r], tb false, by rw [List.getElem?_map, hr]; rfl, rfl, ?_, by rw [ea]⟩
      by_cases lenr : r.length = c.length + 1
      · obtain ⟨mn, hmn⟩ := hmin r lenr
        have tst := htest r hrm lenr mn hmn
        rw [gb] at tst
        have rle := (ok.row r hrm).len
        refine rns_cons (rn_skip (Et.s (et_ne (ev_len T.b_len (ev_nm 5 rfl) (.inl rfl)) (ev_add (ev_len T.b_len (ev_nm 0 rfl) (.inl rfl)) ev_int))) (by rw [rowl, cl, lenr]; simp)) ?_
        refine rns_cons (rn_lcG 6 (ElcS (Elc.as (elcm (own := ["_law_top", "_law_own"]) (fr := [3]) r (fun s => dF (fW W s)) (fun s => ti (uV W L s)) (evi_list (ev_nm 5 rfl) rfl) (evg_t2 0 1 (fun _ => by show List.Nodup (["_law_top", "_law_own", "_law_bottom"] : List Str); decide)) (by decide) (by omega) (fun s hs => ⟨_, rfl, by
        have f0 := fW_pos (s := s) w0
        have f1 := fW_le (s := s) w0
        have ft := fW_top (s := s) w0
        have sb := (ok.row r hrm).b s hs
        have q0 := Int.ediv_nonneg (Int.le_of_lt L0) (Int.le_of_lt f0)
        have q1 := Int.ediv_le_self (fW W s).2 (Int.le_of_lt L0)
        exact Ev.to (ev_mul (ev_nm 0 rfl) (ev_div (ev_nm 2 rfl) (ev_nm 1 rfl) ⟨f0, small_lt (by omega) (by omega)⟩) ⟨lt_big (fW_sg w0 w1 (by omega)).2.2 (by decide), small_lt (by omega) (by omega)⟩) (by rw [(Ld r hrm s hs).1])⟩) (fun dd => by rcases dd with _ | ⟨_, _ | ⟨_, _⟩⟩ <;> rfl)) (eTop r))) (fun i => lcs ⟨rfl, rfl, by decide +kernel, by decide +kernel, by decide +kernel, by decide +kernel⟩) (fun _ => sc__law_due.nd)) ?_
        exact rns_ret (rn_ifT (Et.s (Ew.et (ew_or (et_lt (ev_min1 (ns := r.map (uV W L)) (m := mn) T.b_min (ev_nm 6 rfl) rfl hmn) ev_int) fun _ => (ew_or1 (et_ne (ev_sum (ns := r.map (uV W L)) T.b_sum (ev_nm 6 rfl) rfl) (ev_nm 3 rfl)))))) (by rw [tst]; rfl) (rns_one (rn_ret (Ev.s ev_bl))))
      · exact rns_ret (rn_ifT (Et.s (et_ne (ev_len T.b_len (ev_nm 5 rfl) (.inl rfl)) (ev_add (ev_len T.b_len (ev_nm 0 rfl) (.inl rfl)) ev_int))) (by
          rw [rowl, cl]
          show (!decide _) = true
          rw [decide_eq_false (by omega)]; rfl) (rns_one (rn_ret (Ev.s ev_bl))))
end
end K10
namespace K10
open PySem L2 Fra
section
variable {P : Program} {w : World} {K : PySem.W.Frag} {mg : Str → Option Value} {base : Heap}
abbrev Rw := Addr × List V × List Dv
structure ShS (K : PySem.W.Frag) (G H : Hp) (l : Addr) (ps : List Rw) : Prop where
  s : Same G H
  hl : H l = some (.lst (ps.map fun p => V.ref p.1))
  nd : (l :: ps.map fun p => p.1).Nodup
  gl : G l = none
  g : ∀ p ∈ ps, G p.1 = none
  h : ∀ p ∈ ps, H p.1 = some (.lst p.2.1)
  v : ∀ p ∈ ps, HvL K G p.2.2 p.2.1
structure ShC (f : List Addr) (G H G' H' : Hp) : Prop where
  g : Same G G'
  n : ∀ a, G a = none → G' a ≠ none → H a = none
  m : Md f H H'
  d : ∀ a, H' a = none → H a = none
theorem ShC.refl {f : List Addr} {G H : Hp} : ShC f G H G H := ⟨Same.refl _, fun a h h' => absurd h h', Md.refl, fun _ h => h⟩
theorem ShC.step {f : List Addr} {G H G1 H1 G2 H2 : Hp} (c : ShC f G H G1 H1) (s : Step G1 H1 G2 H2) : ShC f G H G2 H2 :=
  ⟨c.g.trans s.g, fun a h h' => by
    cases q : G1 a with
    | some u => exact c.n a h (by rw [q]; exact fun z => nomatch z)
    | none => exact c.d a (s.n a q h'), c.m.trans (Md.same s.h), fun a h => c.d a (s.h.free h)⟩
theorem ShC.upd {f : List Addr} {G H G1 H1 : Hp} {a : Addr} {o : HO} (c : ShC f G H G1 H1) (ha : a ∈ f) : ShC f G H G1 (L2.upd H1 a o) :=
  ⟨c.g, c.n, c.m.trans (Md.upd ha), fun b h => c.d b (by
    by_cases z : b = a
    · subst z; rw [upd_same] at h; cases h
    · rw [upd_ne z] at h; exact h)⟩
theorem ShS.step {K : PySem.W.Frag} {G H G1 H1 : Hp} {l : Addr} {ps : List Rw} (S : ShS K G H l ps) (st : Step G H G1 H1) : ShS K G1 H1 l ps := by
  have off : ∀ a o, G a = none → H a = some o → G1 a = none := fun a o h1 h2 => by
    cases q : G1 a with
    | none => rfl
    | some u =>
      have := st.n a h1 (by rw [q]; exact fun z => nomatch z)
      rw [h2] at this; cases this
  exact ⟨st.s, st.h _ _ S.hl, S.nd, off l _ S.gl S.hl, fun p hp => off _ _ (S.g p hp) (S.h p hp), fun p hp => st.h _ _ (S.h p hp), fun p hp => (S.v p hp).mono st.g⟩
theorem ShS.inf {K : PySem.W.Frag} {G H : Hp} {l : Addr} {ps : List Rw} (S : ShS K G H l ps) : ∀ a ∈ l :: ps.map fun p => p.1, G a = none ∧ ∃ xs, H a = some (.lst xs) := fun a ha => by
  rcases List.mem_cons.mp ha with rfl | ha
  · exact ⟨S.gl, _, S.hl⟩
  · obtain ⟨p, hp, rfl⟩ := List.mem_map.mp ha
    exact ⟨S.g p hp, _, S.h p hp⟩
theorem ShS.row {K : PySem.W.Frag} {G H : Hp} {l : Addr} {ps : List Rw} (S : ShS K G H l ps) {i : Nat} {p : Rw} (hp : ps[i]? = some p) {xs : List V} {ds : List Dv} (hv : HvL K G ds xs) : ShS K G (upd H p.1 (.lst xs)) l (ps.set i (p.1, xs, ds)) := by
  have hi := (List.getElem?_eq_some_iff.mp hp).1
  have hpm := List.mem_of_getElem? hp
  have nd := List.nodup_cons.mp S.nd
  have em : (ps.set i (p.1, xs, ds)).map (fun p => p.1) = ps.map fun p => p.1 := by
    refine List.ext_getElem? fun n => ?_
    rw [List.getElem?_map, List.getElem?_map, List.getElem?_set]
    by_cases hn : i = n
    · subst hn
      rw [if_pos rfl, if_pos hi, hp]; rfl
    · rw [if_neg hn]
  have er : (ps.set i (p.1, xs, ds)).map (fun p => V.ref p.1) = ps.map fun p => V.ref p.1 := by
    have := congrArg (List.map V.ref) em
    rw [List.map_map, List.map_map] at this
    exact this
  have pl : l ≠ p.1 := fun z => nd.1 (z ▸ List.mem_map_of_mem (f := fun p : Rw => p.1) hpm)
  have mem : ∀ q ∈ ps.set i (p.1, xs, ds), q = (p.1, xs, ds) ∨ (q ∈ ps ∧ q.1 ≠ p.1) := fun q hq => by
    obtain ⟨n, hn⟩ := List.getElem?_of_mem hq
    rw [List.getElem?_set] at hn
    by_cases hni : i = n
    · subst hni
      rw [if_pos rfl, if_pos hi] at hn
      cases hn; exact .inl rfl
    · rw [if_neg hni] at hn
      refine .inr ⟨List.mem_of_getElem? hn, fun z => hni ?_⟩
      have h1 : (ps.map fun p => p.1)[i]? = some p.1 := by rw [List.getElem?_map, hp]; rfl
      have h2 : (ps.map fun p => p.1)[n]? = some p.1 := by rw [List.getElem?_map, hn, ← z]; rfl
      obtain ⟨a1, a2⟩ := List.getElem?_eq_some_iff.mp h1
      obtain ⟨b1, b2⟩ := List.getElem?_eq_some_iff.mp h2
      exact (List.getElem_inj nd.2).mp (a2.trans b2.symm)
  refine ⟨fun b o hb => ?_, by rw [upd_ne pl, er]; exact S.hl, by rw [em]; exact S.nd, S.gl, fun q hq => ?_, fun q hq => ?_, fun q hq => ?_⟩
  · rw [upd_ne fun z => ?_]
    · exact S.s b o hb
    · rw [z, S.g p hpm] at hb; cases hb
  · rcases mem q hq with rfl | ⟨h1, _⟩
    · exact S.g p hpm
    · exact S.g q h1
  · rcases mem q hq with rfl | ⟨h1, h2⟩
    · exact upd_same
    · rw [upd_ne h2]; exact S.h q h1
  · rcases mem q hq with rfl | ⟨h1, _⟩
    · exact hv
    · exact S.v q h1
theorem set_fst {ps : List Rw} {i : Nat} {p : Rw} (hp : ps[i]? = some p) (xs : List V) (ds : List Dv) : (ps.set i (p.1, xs, ds)).map (fun p => p.1) = ps.map fun p => p.1 := by
  refine List.ext_getElem? fun n => ?_
  rw [List.getElem?_map, List.getElem?_map, List.getElem?_set]
  by_cases hn : i = n
  · subst hn
    rw [if_pos rfl, if_pos (List.getElem?_eq_some_iff.mp hp).1, hp]; rfl
  · rw [if_neg hn]
theorem ShS.ev {ι : Type} {F : Fam ι} {e : Expr} {ρ : En} {t : Tr} {G H : Hp} {l : Addr} {ps : List Rw} {σ : St} {Q : VK} (S : ShS F.K G H l ps) (h : Ev F e ρ t) (c : lfT t = true) (rp : RpD F.K (frzd G H (l :: ps.map fun p => p.1)) ρ σ)
    (k : ∀ v G' H' fq, Step G H G' H' → Ow F.K G' H' t v fq → Nw H G' fq → Q v H') : uE F e σ H Q := by
  obtain ⟨τ, x, y⟩ := h
  have inf := S.inf
  generalize (l :: ps.map fun p => p.1) = fp at *
  have hg : ∀ a ∈ fp, G a = none := fun a ha => (inf a ha).1
  refine ⟨τ, x, y σ (frzd G H fp) H Q (frzd_sub S.s) rp fun v G' H' fq st o w => ?_⟩
  have gd : ∀ a ∈ fp, Gd G' a := fun a ha => by
    obtain ⟨xs, q⟩ := (inf a ha).2
    exact .inl ⟨xs, st.g _ _ ((frzd_in ha).trans q)⟩
  refine k v (less G' fp) H' fq ⟨fun b u hb => ?_, st.h, less_sub.trans st.s, fun a h h' => ?_⟩ (o.lf gd c) ⟨w.n, fun a ha => ?_, w.d⟩
  · have nb : b ∉ fp := fun z => by rw [hg b z] at hb; cases hb
    rw [less_out nb]
    exact st.g _ _ ((frzd_out nb).trans hb)
  · have nb : a ∉ fp := fun z => h' (less_in z)
    rw [less_out nb] at h'
    exact st.n a ((frzd_out nb).trans h) h'
  · by_cases z : a ∈ fp
    · exact less_in z
    · rw [less_out z]; exact w.g a ha
theorem hvl_rows {K : PySem.W.Frag} {G H : Hp} {fp : List Addr} (hs : Same G (frzd G H fp)) : ∀ (ps : List Rw), (∀ p ∈ ps, p.1 ∈ fp ∧ H p.1 = some (.lst p.2.1) ∧ HvL K G p.2.2 p.2.1) → HvL K (frzd G H fp) (ps.map fun p => .lst p.2.2) (ps.map fun p => V.ref p.1)
  | [], _ => rfl
  | p :: ps, h => by
    obtain ⟨h1, h2, h3⟩ := h p (.head _)
    exact ⟨.ref p.1, _, rfl, ⟨p.1, p.2.1, rfl, SqL.of (by rw [frzd_in h1]; exact h2), h3.mono hs⟩, hvl_rows hs ps fun q hq => h q (.tail _ hq)⟩
theorem ShS.hv {K : PySem.W.Frag} {G H : Hp} {l : Addr} {ps : List Rw} (S : ShS K G H l ps) : Hv K (frzd G H (l :: ps.map fun p => p.1)) (.lst (ps.map fun p => .lst p.2.2)) (.ref l) := by
  have hs : Same G (frzd G H (l :: ps.map fun p => p.1)) := frzd_same fun a ha => (S.inf a ha).1
  exact ⟨l, _, rfl, SqL.of (by rw [frzd_in (.head _)]; exact S.hl), hvl_rows hs ps fun p hp => ⟨.tail _ (List.mem_map_of_mem (f := fun p : Rw => p.1) hp), S.h p hp, S.v p hp⟩⟩
theorem ShS.hvr {K : PySem.W.Frag} {G H : Hp} {l : Addr} {ps : List Rw} (S : ShS K G H l ps) {p : Rw} (hp : p ∈ ps) : Hv K (frzd G H (l :: ps.map fun p => p.1)) (.lst p.2.2) (.ref p.1) := by
  have hs : Same G (frzd G H (l :: ps.map fun p => p.1)) := frzd_same fun a ha => (S.inf a ha).1
  exact ⟨p.1, p.2.1, rfl, SqL.of (by rw [frzd_in (.tail _ (List.mem_map_of_mem (f := fun p : Rw => p.1) hp))]; exact S.h p hp), (S.v p hp).mono hs⟩
abbrev dRw (W : Int) (r : List Int) : List Dv := r.map fun s => dF (fW W s)
theorem hvl_set {K : PySem.W.Frag} {G : Hp} : ∀ {ds : List Dv} {xs : List V} {m : Nat} {d : Dv} {v : V}, HvL K G ds xs → Hv K G d v → HvL K G (ds.set m d) (xs.set m v)
  | [], _, m, d, v, h, _ => by rw [show _ = [] from h]; rfl
  | d0 :: ds, _, 0, d, v, ⟨x, r, h1, h2, h3⟩, hv => by subst h1; exact ⟨v, r, rfl, hv, h3⟩
  | d0 :: ds, _, m + 1, d, v, ⟨x, r, h1, h2, h3⟩, hv => by subst h1; exact ⟨x, _, rfl, h2, hvl_set h3 hv⟩
abbrev s__law_put : Stmt := top 35
theorem sc__law_put : FnScope ["_law_row", "_law_at", "_law_top", "_law_bottom"] ["_law_row", "_law_at", "_law_top", "_law_bottom"] (defScope s__law_put) := ⟨rfl, rfl, rfl, by decide +kernel, rfl, by decide +kernel, by decide +kernel⟩
structure PutOk (W b : Int) (r : List Int) (n top : Int) : Prop where
  w0 : 0 < W
  b0 : 0 < b
  b1 : b ≤ 1000
  w1 : W * b < 2 ^ 60
  sg : Sg (W * b) r
  n0 : 0 ≤ n
  n1 : n < r.length
  t : top = 1 ∨ top = -1
def spPut (K : PySem.W.Frag) : Sp := fun vs H Q _ => ∃ (a : Addr) (G : Hp) (xs : List V) (W b n top : Int) (r : List Int), vs = [.ref a, .int n, .int top, .int b] ∧ Same G H ∧ G a = none ∧ H a = some (.lst xs) ∧ HvL K G (dRw (W * b) r) xs ∧ PutOk W b r n top ∧
  ∀ v G' H', Step G H G' H' → Hv K G' (dF (fW (W * b) (r.getD n.toNat 0 + top * W))) v → Q .non (upd H' a (.lst (xs.set n.toNat v)))
theorem put_eq {W b s top : Int} (w0 : 0 < W) (b0 : 0 < b) : (lT ((fW (W * b) s).1 * b + top * (fW (W * b) s).2) ((fW (W * b) s).2 * b), lB ((fW (W * b) s).1 * b + top * (fW (W * b) s).2) ((fW (W * b) s).2 * b)) = fW (W * b) (s + top * W) := by
  have wb := Int.mul_pos w0 b0
  have p := fW_pos (s := s) wb
  have c := fW_cross (s := s) wb
  generalize (fW (W * b) s).1 = x at *
  generalize (fW (W * b) s).2 = q at *
  refine fW_same wb (by have := Int.mul_pos p b0; omega) ?_
  rw [Int.add_mul, Int.add_mul, Int.mul_right_comm x b, c]
  congr 1
  · rw [Int.mul_assoc]
  · rw [Int.mul_assoc, Int.mul_assoc]
    congr 1
    rw [Int.mul_left_comm]
theorem ok__law_put {f f1 : Addr} {fd fd1 : FuncData} {k : Nat} (F : Fun K "_law_put" "_law_put" s__law_put f fd) (T : Txt mg) (K__law_lowest : Kn P w K mg base CX0 (k + 2) "_law_lowest" f1 fd1 ["_law_top", "_law_bottom"] (spT K rFrac)) : FnOk P w K mg base CX0 (k + 3) f fd ["_law_row", "_law_at", "_law_top", "_law_bottom"] (spPut K) := by
  refine F.ok sc__law_put (fun vs H Q E h => by obtain ⟨_, _, _, _, _, _, _, _, rfl, _⟩ := h; rfl) fun cdv A outer s H vs Q E hr h => ?_
  obtain ⟨a, G, xs, W, b, n, top, r, rfl, sGH, ga, hxa, hv, ok, fin⟩ := h
  have wb := Int.mul_pos ok.w0 ok.b0
  have w1 := ok.w1
  have b0 := ok.b0
  have b1 := ok.b1
  have n0 := ok.n0
  have n1 := ok.n1
  have at0 := at_row (W := W * b) ok.n0 ok.n1
  have hb := ok.sg.b (r.getD n.toNat 0) (by
    rw [List.getD_eq_getElem?_getD, List.getElem?_eq_getElem (show n.toNat < r.length by omega)]
    exact List.getElem_mem _)
  have sm := fW_sg (s := r.getD n.toNat 0) wb ok.w1 (by omega)
  have pe := put_eq (s := r.getD n.toNat 0) (top := top) ok.w0 ok.b0
  generalize r.getD n.toNat 0 = s0 at *
  have p2 := fW_pos (s := s0) wb
  have p3 := fW_le (s := s0) wb
  have p4 := fW_top (s := s0) wb
  have x0 : ∀ p : Int × Int, atI [di p.1, di p.2] 0 = some (di p.1) := fun _ => rfl
  have x1 : ∀ p : Int × Int, atI [di p.1, di p.2] 1 = some (di p.2) := fun _ => rfl
  have tt : top.natAbs < 2 ^ 8000 := by
    rcases ok.t with h | h <;> rw [h] <;> exact lt_big (n := 1) (by decide) (by decide)
  obtain ⟨τ, x, y⟩ : EvS (famD P w K mg base ["_law_row", "_law_at", "_law_top", "_law_bottom"] "_law_put" (defScope s__law_put) f (k + 2)) (match (defBody s__law_put).getD 0 (.Pass ⟨0, 0, 0, 0⟩) with | .Assign _ e _ => e | _ => .Constant .none 0 ⟨0, 0, 0, 0⟩) [some (.ow (r.map fun s => tF (fW (W * b) s))), some (ti n), some (ti top), some (ti b)] (tF (fW (W * b) (s0 + top * W))) := by
    have e0 : er (.ow (r.map fun s => tF (fW (W * b) s))) = .lst (dRw (W * b) r) := er_ow_map _ _
    refine Ev.pkL (Ev.to (ev_call K__law_lowest (Nat.le_refl _) (eva_cons (ev_add (ev_mul (ev_ixT (ev_ix (d := dF (fW (W * b) s0)) (ev_nm 0 rfl) (ev_nm 1 rfl) e0 at0) ev_int rfl (x0 _)) (ev_nm 3 rfl) ⟨lt_big sm.2.2 (by decide), small_lt (by omega) (by omega)⟩) (ev_mul (ev_nm 2 rfl) (ev_ixT (ev_ix (d := dF (fW (W * b) s0)) (ev_nm 0 rfl) (ev_nm 1 rfl) e0 at0) ev_int rfl (x1 _)) ⟨tt, lt_big sm.2.1 (by decide)⟩)) (eva_cons (ev_mul (ev_ixT (ev_ix (d := dF (fW (W * b) s0)) (ev_nm 0 rfl) (ev_nm 1 rfl) e0 at0) ev_int rfl (x1 _)) (ev_nm 3 rfl) ⟨lt_big sm.2.1 (by decide), small_lt (by omega) (by omega)⟩) eva_nil)) ⟨_, _, Int.mul_pos p2 b0, lt_big (mul_lt sm.2.1 (show b.natAbs < 2 ^ 10 by omega)) (by decide), rfl, rfl⟩) (by rw [pe])) rfl ?_
    show (gdTs (r.map fun s => tF (fW (W * b) s)) && (true && (true && (true && true)))) = true
    rw [gdTs_of fun t ht => by obtain ⟨s, _, rfl⟩ := List.mem_map.mp ht; rfl]; rfl
  refine ⟨_, pss_one (ps_asg (x ⟨cdv, A, outer, s, H, E, hr⟩) (pg_sub (pv 0) (pv 1) set_list)), ?_⟩
  show tAsg _ _ _ [some (.ref a), some (.int n), some (.int top), some (.int b)] H
  have ol : OwL K G H (r.map fun s => tF (fW (W * b) s)) xs [] := by
    have := hv.owl (H := H)
    rw [List.map_map] at this
    exact this
  refine y _ G H [a] _ sGH ⟨.ref a, _, [a], [], rfl, rfl, ⟨a, xs, [], rfl, hxa, ol, rfl⟩, .int n, _, [], [], rfl, rfl, ⟨rfl, rfl, rfl⟩, .int top, _, [], [], rfl, rfl, ⟨rfl, rfl, rfl⟩, .int b, _, [], [], rfl, rfl, ⟨rfl, rfl, rfl⟩, rfl, rfl⟩ (fun z hz => by rw [List.mem_singleton.mp hz]; exact ga) fun v G' H' fq st o nw => ?_
  have hxl := hv.length
  rw [List.length_map] at hxl
  refine ⟨_, rfl, _, rfl, a, xs, n, n.toNat, rfl, rfl, st.h _ _ hxa, ?_, fin v G' H' st o.2⟩
  unfold ixN
  rw [if_pos n0, if_pos (by omega)]
def putR (W : Int) (rows : List (List Int)) (i : Nat) (n top : Int) : List (List Int) := rows.set i ((rows.getD i []).set n.toNat ((rows.getD i []).getD n.toNat 0 + top * W))
def sclR (b : Int) (rows : List (List Int)) : List (List Int) := rows.map fun r => r.map (· * b)
def ShD (ps : List Rw) (W : Int) (rows : List (List Int)) : Prop := ps.map (fun p => p.2.2) = rows.map (dRw W)
theorem ShD.scl {ps : List Rw} {W b : Int} {rows : List (List Int)} (w0 : 0 < W) (b0 : 0 < b) (h : ShD ps W rows) : ShD ps (W * b) (sclR b rows) := by
  unfold ShD sclR at *
  rw [h, List.map_map]
  refine List.map_congr_left fun r _ => ?_
  show r.map _ = (r.map _).map _
  rw [List.map_map]
  refine List.map_congr_left fun s _ => ?_
  show dF (fW W s) = dF (fW (W * b) (s * b))
  rw [fW_scale w0 b0]
theorem ShD.len {ps : List Rw} {W : Int} {rows : List (List Int)} (h : ShD ps W rows) : ps.length = rows.length := by
  have := congrArg List.length h
  rw [List.length_map, List.length_map] at this
  exact this
theorem ShD.at {ps : List Rw} {W : Int} {rows : List (List Int)} (h : ShD ps W rows) {i : Nat} (hi : i < rows.length) : ∃ p, ps[i]? = some p ∧ p.2.2 = dRw W (rows.getD i []) := by
  have hl := h.len
  have e : (ps.map fun p => p.2.2)[i]? = (rows.map (dRw W))[i]? := by rw [h]
  rw [List.getElem?_map, List.getElem?_map, List.getElem?_eq_getElem (by omega), List.getElem?_eq_getElem hi] at e
  refine ⟨ps[i], List.getElem?_eq_getElem (by omega), ?_⟩
  rw [List.getD_eq_getElem?_getD, List.getElem?_eq_getElem hi]
  exact Option.some.inj e
theorem ShD.set {ps : List Rw} {W : Int} {rows : List (List Int)} (h : ShD ps W rows) (i : Nat) (a : Addr) (xs : List V) (r : List Int) : ShD (ps.set i (a, xs, dRw W r)) W (rows.set i r) := by
  unfold ShD at *
  rw [List.map_set, List.map_set, h]
theorem put_of {G H : Hp} {l : Addr} {ps : List Rw} {W b : Int} {rows : List (List Int)} {i : Nat} {n top : Int} {p : Rw} {R : VK} {E : XK} (S : ShS K G H l ps) (hd : ShD ps (W * b) rows) (hi : i < rows.length) (hp : ps[i]? = some p) (ok : PutOk W b (rows.getD i []) n top)
    (k : ∀ G' H' ps', ShS K G' H' l ps' → ShC (l :: ps.map fun p => p.1) G H G' H' → ShD ps' (W * b) (putR W rows i n top) → (ps'.map fun p => p.1) = (ps.map fun p => p.1) → R .non H') : spPut K [.ref p.1, .int n, .int top, .int b] H R E := by
  have hpm := List.mem_of_getElem? hp
  obtain ⟨p', hp', e⟩ := hd.at hi
  rw [hp] at hp'
  cases hp'
  have hv := S.v p hpm
  rw [e] at hv
  refine ⟨p.1, G, p.2.1, W, b, n, top, rows.getD i [], rfl, S.s, S.g p hpm, S.h p hpm, hv, ok, fun v G' H' st hv' => ?_⟩
  have e2 : (dRw (W * b) (rows.getD i [])).set n.toNat (dF (fW (W * b) ((rows.getD i []).getD n.toNat 0 + top * W))) = dRw (W * b) ((rows.getD i []).set n.toNat ((rows.getD i []).getD n.toNat 0 + top * W)) := by
    show (List.map _ _).set _ _ = List.map _ (List.set _ _ _)
    rw [List.map_set]
  have hv2 := hvl_set (m := n.toNat) (hv.mono st.g) hv'
  rw [e2] at hv2
  exact k G' _ _ ((S.step st).row hp hv2) ((ShC.refl.step st).upd (.tail _ (List.mem_map_of_mem (f := fun p : Rw => p.1) hpm))) (hd.set i _ _ _) (set_fst hp _ _)
structure SpOk (W : Int) (m : Nat) (rows : List (List Int)) : Prop where
  w0 : 0 < W
  w1 : W < 2 ^ 40
  n1 : 1 ≤ rows.length
  n6 : rows.length ≤ 6
  m1 : 1 ≤ m
  m7 : m ≤ 7
  row : ∀ r ∈ rows, r.length = m ∧ ∀ s ∈ r, 0 ≤ s ∧ s ≤ W
theorem getD_mem' {rows : List (List Int)} {i : Nat} (h : i < rows.length) : rows.getD i [] ∈ rows := by
  rw [List.getD_eq_getElem?_getD, List.getElem?_eq_getElem h]
  exact List.getElem_mem _
theorem getD_memI {r : List Int} {n : Nat} (h : n < r.length) : r.getD n 0 ∈ r := by
  rw [List.getD_eq_getElem?_getD, List.getElem?_eq_getElem h]
  exact List.getElem_mem _
def eqRow (W : Int) (r r' : List Int) : Bool := eqD (.lst (dRw W r)) (.lst (dRw W r'))
def firstEq (W : Int) (rows : List (List Int)) (r : List Int) : Nat := rows.findIdx fun r' => eqRow W r' r
structure Cut where
  i : Nat
  j : Nat
  at' : Int
  there : Int
  b : Int
def botM (x : Int) : Int := if x = 0 then 2 else if x = 1 then 3 else if x = 2 then 5 else 1000
def cutF (cell : Int) (n m : Nat) : Cut := ⟨((strF cell 6).getD 0 0 % (n : Int)).toNat, ((strF cell 6).getD 1 0 % (n : Int)).toNat, (strF cell 6).getD 2 0 % (m : Int), (strF cell 6).getD 3 0 % (m : Int), 1 + (strF cell 6).getD 4 0 % botM ((strF cell 6).getD 5 0 % 4)⟩
def spW (W way : Int) (c : Cut) : Int := if way = 1 ∨ way = 2 ∨ way = 3 ∨ way = 4 then W * c.b else W
def spR (W way : Int) (c : Cut) (m : Nat) (rows : List (List Int)) : List (List Int) :=
  if way = 1 then putR W (sclR c.b rows) c.i c.at' 1
  else if way = 2 then putR W (sclR c.b rows) c.i c.at' (-1)
  else if way = 3 then putR W (putR W (sclR c.b rows) c.i c.at' 1) c.i c.there (-1)
  else if way = 4 then putR W (putR W (sclR c.b rows) c.i c.at' 1) c.j c.at' (-1)
  else if way = 5 then rows ++ [List.replicate (m - 1) 0 ++ [W]]
  else if way = 6 then rows.eraseIdx (firstEq W rows (rows.getD c.i []))
  else if way = 7 then rows.set c.i ((rows.getD c.i []).take c.at'.toNat ++ 0 :: (rows.getD c.i []).drop c.at'.toNat)
  else if way = 8 then rows.set c.i ((rows.getD c.i []).eraseIdx c.at'.toNat)
  else rows
structure CutOk (c : Cut) (n m : Nat) : Prop where
  i : c.i < n
  j : c.j < n
  a0 : 0 ≤ c.at'
  a1 : c.at' < m
  t0 : 0 ≤ c.there
  t1 : c.there < m
  b0 : 0 < c.b
  b1 : c.b ≤ 1000
theorem cut_ok (cell : Int) {n m : Nat} (hn : 1 ≤ n) (hm : 1 ≤ m) : CutOk (cutF cell n m) n m := by
  have h0 := fun x : Int => Int.emod_nonneg x (show (n : Int) ≠ 0 by omega)
  have h1 := fun x : Int => Int.emod_lt_of_pos x (show (0 : Int) < n by omega)
  have g0 := fun x : Int => Int.emod_nonneg x (show (m : Int) ≠ 0 by omega)
  have g1 := fun x : Int => Int.emod_lt_of_pos x (show (0 : Int) < m by omega)
  have bm : 0 < botM ((strF cell 6).getD 5 0 % 4) ∧ botM ((strF cell 6).getD 5 0 % 4) ≤ 1000 := by
    unfold botM
    split
    · decide
    · split
      · decide
      · split <;> decide
  have k0 := Int.emod_nonneg ((strF cell 6).getD 4 0) (show botM ((strF cell 6).getD 5 0 % 4) ≠ 0 by omega)
  have k1 := Int.emod_lt_of_pos ((strF cell 6).getD 4 0) bm.1
  refine ⟨?_, ?_, g0 _, g1 _, g0 _, g1 _, ?_, ?_⟩
  · have := h0 ((strF cell 6).getD 0 0); have := h1 ((strF cell 6).getD 0 0)
    show ((strF cell 6).getD 0 0 % (n : Int)).toNat < n
    omega
  · have := h0 ((strF cell 6).getD 1 0); have := h1 ((strF cell 6).getD 1 0)
    show ((strF cell 6).getD 1 0 % (n : Int)).toNat < n
    omega
  · show 0 < 1 + (strF cell 6).getD 4 0 % botM ((strF cell 6).getD 5 0 % 4)
    omega
  · show 1 + (strF cell 6).getD 4 0 % botM ((strF cell 6).getD 5 0 % 4) ≤ 1000
    omega
structure PR (WB : Int) (m n q : Nat) (W : Int) (rows : List (List Int)) : Prop where
  len : rows.length = n
  row : ∀ r ∈ rows, r.length = m ∧ ∀ s ∈ r, -(q * W) ≤ s ∧ s ≤ WB + q * W
theorem pr_scl {W b : Int} {m : Nat} {rows : List (List Int)} (ok : SpOk W m rows) (b0 : 0 < b) : PR (W * b) m rows.length 0 W (sclR b rows) := by
  refine ⟨by unfold sclR; rw [List.length_map], fun r hr => ?_⟩
  obtain ⟨r0, h0, rfl⟩ := List.mem_map.mp hr
  refine ⟨by rw [List.length_map]; exact (ok.row r0 h0).1, fun s hs => ?_⟩
  obtain ⟨s0, hs0, rfl⟩ := List.mem_map.mp hs
  have := (ok.row r0 h0).2 s0 hs0
  have h1 : 0 ≤ s0 * b := Int.mul_nonneg this.1 (by omega)
  have h2 : s0 * b ≤ W * b := Int.mul_le_mul_of_nonneg_right this.2 (by omega)
  have e : ((0 : Nat) : Int) * W = 0 := by rw [Int.natCast_zero, Int.zero_mul]
  rw [e]
  omega
theorem pr_put {WB W : Int} {m n q : Nat} {rows : List (List Int)} (w0 : 0 < W) (h : PR WB m n q W rows) {i : Nat} (hi : i < n) {x top : Int} (x0 : 0 ≤ x) (x1 : x < m) (ht : top = 1 ∨ top = -1) : PR WB m n (q + 1) W (putR W rows i x top) := by
  have e : ((q + 1 : Nat) : Int) * W = q * W + W := by rw [Int.natCast_succ, Int.add_mul, Int.one_mul]
  have hr := h.row _ (getD_mem' (by rw [h.len]; exact hi))
  have et : top * W = W ∨ top * W = -W := by
    rcases ht with rfl | rfl
    · exact .inl (Int.one_mul W)
    · exact .inr (by rw [Int.neg_mul, Int.one_mul])
  refine ⟨by unfold putR; rw [List.length_set]; exact h.len, fun r hr' => ?_⟩
  rw [e]
  rcases List.mem_or_eq_of_mem_set hr' with z | rfl
  · refine ⟨(h.row r z).1, fun s hs => ?_⟩
    have := (h.row r z).2 s hs
    omega
  · refine ⟨by rw [List.length_set]; exact hr.1, fun s hs => ?_⟩
    rcases List.mem_or_eq_of_mem_set hs with z | rfl
    · have := hr.2 s z
      omega
    · have := hr.2 ((rows.getD i []).getD x.toNat 0) (getD_memI (by omega))
      rcases et with et | et <;> rw [et] <;> omega
theorem pr_ok {W b : Int} {m n q : Nat} {rows : List (List Int)} (w0 : 0 < W) (w1 : W < 2 ^ 40) (b0 : 0 < b) (b1 : b ≤ 1000) (hm : m ≤ 7) (hq : q ≤ 2) (h : PR (W * b) m n q W rows) {i : Nat} (hi : i < n) {x top : Int} (x0 : 0 ≤ x) (x1 : x < m) (ht : top = 1 ∨ top = -1) : PutOk W b (rows.getD i []) x top := by
  have hr := h.row _ (getD_mem' (by rw [h.len]; exact hi))
  have hb : W ≤ W * b := by
    have := Int.mul_le_mul_of_nonneg_left (show 1 ≤ b by omega) (Int.le_of_lt w0)
    rw [Int.mul_one] at this
    exact this
  have hb2 : W * b ≤ W * 1000 := Int.mul_le_mul_of_nonneg_left b1 (Int.le_of_lt w0)
  have hq2 : (q : Int) * W ≤ 2 * W := Int.mul_le_mul_of_nonneg_right (by omega) (by omega)
  refine ⟨w0, b0, b1, by omega, ⟨by rw [hr.1]; omega, fun s hs => ?_⟩, x0, by rw [hr.1]; exact x1, ht⟩
  have := hr.2 s hs
  omega
theorem sp_ok {W way : Int} {m : Nat} {rows : List (List Int)} {c : Cut} (ok : SpOk W m rows) (ck : CutOk c rows.length m) : ShOk (spW W way c) (spR W way c m rows) := by
  have w0 := ok.w0
  have w1 := ok.w1
  have m7 := ok.m7
  have n6 := ok.n6
  have hb : W ≤ W * c.b := by
    have := Int.mul_le_mul_of_nonneg_left (show 1 ≤ c.b by have := ck.b0; omega) (Int.le_of_lt w0)
    rw [Int.mul_one] at this
    exact this
  have hb2 : W * c.b ≤ W * 1000 := Int.mul_le_mul_of_nonneg_left ck.b1 (Int.le_of_lt w0)
  have put : ∀ {q : Nat} {rs : List (List Int)}, q ≤ 2 → PR (W * c.b) m rows.length q W rs → ShOk (W * c.b) rs := fun {q rs} hq h => by
    have hq2 : (q : Int) * W ≤ 2 * W := Int.mul_le_mul_of_nonneg_right (by omega) (by omega)
    refine ⟨by omega, by omega, by rw [h.len]; omega, fun r hr => ⟨by rw [(h.row r hr).1]; omega, fun s hs => ?_⟩⟩
    have := (h.row r hr).2 s hs
    omega
  have sg : ∀ r ∈ rows, Sg W r := fun r hr => ⟨by rw [(ok.row r hr).1]; omega, fun s hs => by have := (ok.row r hr).2 s hs; omega⟩
  have p0 := pr_scl ok ck.b0
  unfold spW spR
  by_cases h1 : way = 1
  · rw [if_pos (.inl h1), if_pos h1]
    exact put (by decide) (pr_put w0 p0 ck.i ck.a0 ck.a1 (.inl rfl))
  rw [if_neg h1]
  by_cases h2 : way = 2
  · rw [if_pos (.inr (.inl h2)), if_pos h2]
    exact put (by decide) (pr_put w0 p0 ck.i ck.a0 ck.a1 (.inr rfl))
  rw [if_neg h2]
  by_cases h3 : way = 3
  · rw [if_pos (.inr (.inr (.inl h3))), if_pos h3]
    exact put (by decide) (pr_put w0 (pr_put w0 p0 ck.i ck.a0 ck.a1 (.inl rfl)) ck.i ck.t0 ck.t1 (.inr rfl))
  rw [if_neg h3]
  by_cases h4 : way = 4
  · rw [if_pos (.inr (.inr (.inr h4))), if_pos h4]
    exact put (by decide) (pr_put w0 (pr_put w0 p0 ck.i ck.a0 ck.a1 (.inl rfl)) ck.j ck.a0 ck.a1 (.inr rfl))
  rw [if_neg h4, if_neg (by omega)]
  have base : ∀ rs : List (List Int), rs.length ≤ 20 → (∀ r ∈ rs, Sg W r) → ShOk W rs := fun rs hl h => ⟨w0, by omega, hl, h⟩
  have rowi := ok.row _ (getD_mem' ck.i)
  by_cases h5 : way = 5
  · rw [if_pos h5]
    refine base _ (by rw [List.length_append, List.length_singleton]; omega) fun r hr => ?_
    rcases List.mem_append.mp hr with z | z
    · exact sg r z
    · rw [List.mem_singleton.mp z]
      refine ⟨by rw [List.length_append, List.length_replicate, List.length_singleton]; omega, fun s hs => ?_⟩
      rcases List.mem_append.mp hs with z | z
      · rw [(List.mem_replicate.mp z).2]; omega
      · rw [List.mem_singleton.mp z]; omega
  rw [if_neg h5]
  by_cases h6 : way = 6
  · rw [if_pos h6]
    exact base _ (Nat.le_trans (List.length_eraseIdx_le _ _) (by omega)) fun r hr => sg r (List.mem_of_mem_eraseIdx hr)
  rw [if_neg h6]
  by_cases h7 : way = 7
  · rw [if_pos h7]
    refine base _ (by rw [List.length_set]; omega) fun r hr => ?_
    rcases List.mem_or_eq_of_mem_set hr with z | rfl
    · exact sg r z
    · refine ⟨by rw [List.length_append, List.length_cons, List.length_take, List.length_drop]; omega, fun s hs => ?_⟩
      rcases List.mem_append.mp hs with z | z
      · have := rowi.2 s (List.mem_of_mem_take z); omega
      · rcases List.mem_cons.mp z with rfl | z
        · omega
        · have := rowi.2 s (List.mem_of_mem_drop z); omega
  rw [if_neg h7]
  by_cases h8 : way = 8
  · rw [if_pos h8]
    refine base _ (by rw [List.length_set]; omega) fun r hr => ?_
    rcases List.mem_or_eq_of_mem_set hr with z | rfl
    · exact sg r z
    · refine ⟨Nat.le_trans (List.length_eraseIdx_le _ _) (by omega), fun s hs => ?_⟩
      have := rowi.2 s (List.mem_of_mem_eraseIdx hs)
      omega
  rw [if_neg h8]
  exact base _ (by omega) sg
end
end K10
namespace K10
open PySem L2 Fra
section
variable {P : Program} {w : World} {K : PySem.W.Frag} {mg : Str → Option Value} {base : Heap}
theorem erase_map {α β : Type} (f : α → β) : ∀ (l : List α) (n : Nat), (l.map f).eraseIdx n = (l.eraseIdx n).map f
  | [], n => rfl
  | a :: l, 0 => rfl
  | a :: l, n + 1 => by
    show f a :: (l.map f).eraseIdx n = f a :: (l.eraseIdx n).map f
    rw [erase_map f l n]
theorem fz_ow {K : PySem.W.Frag} {G H : Hp} : ∀ {ds : List Dv} {xs : List V} {fx : List Addr}, OwL K G H (ds.map .fz) xs fx → HvL K G ds xs ∧ fx = []
  | [], _, _, ⟨h1, h2⟩ => ⟨h1, h2⟩
  | d :: ds, _, _, ⟨v, r, f1, f2, h1, h2, ⟨h3, h3'⟩, h4⟩ => by
    obtain ⟨e1, e2⟩ := fz_ow h4
    subst h1 h2 h3 e2
    exact ⟨⟨v, r, rfl, h3', e1⟩, rfl⟩
theorem ShC.trans {f : List Addr} {G H G1 H1 G2 H2 : Hp} (c : ShC f G H G1 H1) (s : ShC f G1 H1 G2 H2) : ShC f G H G2 H2 :=
  ⟨c.g.trans s.g, fun a h h' => by
    cases q : G1 a with
    | some u => exact c.n a h (by rw [q]; exact fun z => nomatch z)
    | none => exact c.d a (s.n a q h'), c.m.trans s.m, fun a h => c.d a (s.d a h)⟩
theorem hvl_ins {K : PySem.W.Frag} {G : Hp} : ∀ {ds : List Dv} {xs : List V} (n : Nat) {d : Dv} {v : V}, HvL K G ds xs → Hv K G d v → HvL K G (ds.take n ++ d :: ds.drop n) (xs.take n ++ v :: xs.drop n)
  | [], _, n, d, v, h, hv => by
    rw [show _ = [] from h, List.take_nil, List.drop_nil, List.take_nil, List.drop_nil]
    exact ⟨v, [], rfl, hv, rfl⟩
  | d0 :: ds, _, 0, d, v, h, hv => ⟨v, _, rfl, hv, h⟩
  | d0 :: ds, _, n + 1, d, v, ⟨x, r, h1, h2, h3⟩, hv => by subst h1; exact ⟨x, _, rfl, h2, hvl_ins n h3 hv⟩
theorem hvl_del {K : PySem.W.Frag} {G : Hp} : ∀ {ds : List Dv} {xs : List V} (n : Nat), HvL K G ds xs → HvL K G (ds.eraseIdx n) (xs.eraseIdx n)
  | [], _, n, h => by rw [show _ = [] from h]; rfl
  | d0 :: ds, _, 0, ⟨x, r, h1, h2, h3⟩ => by subst h1; exact h3
  | d0 :: ds, _, n + 1, ⟨x, r, h1, h2, h3⟩ => by subst h1; exact ⟨x, _, rfl, h2, hvl_del n h3⟩
theorem sm_at (cell : Int) {n : Nat} (h : n < 6) : atI ((strF cell 6).map di) (n : Int) = some (di ((strF cell 6).getD n 0)) := by
  have hl : (strF cell 6).length = 6 := (strK_ok cell 6).2.2
  refine atI_nat ?_
  rw [List.getElem?_map, List.getElem?_eq_getElem (by omega), List.getD_eq_getElem?_getD, List.getElem?_eq_getElem (by omega)]; rfl
theorem bot_at (x : Int) : atI [di 2, di 3, di 5, di 1000] (x % 4) = some (di (botM (x % 4))) := by
  have h0 := Int.emod_nonneg x (show (4 : Int) ≠ 0 by decide)
  have h1 := Int.emod_lt_of_pos x (show (0 : Int) < 4 by decide)
  generalize x % 4 = y at *
  have : y = 0 ∨ y = 1 ∨ y = 2 ∨ y = 3 := by omega
  rcases this with rfl | rfl | rfl | rfl <;> rfl
theorem ShS.app {K : PySem.W.Frag} {G H : Hp} {l : Addr} {ps : List Rw} {p : Rw} (S : ShS K G H l ps) (hp : H p.1 = some (.lst p.2.1)) (hv : HvL K G p.2.2 p.2.1) (g : G p.1 = none) (n : p.1 ∉ l :: ps.map fun p => p.1) : ShS K G (upd H l (.lst ((ps.map fun p => V.ref p.1) ++ [.ref p.1]))) l (ps ++ [p]) := by
  have nd := List.nodup_cons.mp S.nd
  have pl : p.1 ≠ l := fun z => n (z ▸ .head _)
  refine ⟨fun b o hb => ?_, by rw [upd_same, List.map_append]; rfl, ?_, S.gl, fun q hq => ?_, fun q hq => ?_, fun q hq => ?_⟩
  · rw [upd_ne fun z => ?_]
    · exact S.s b o hb
    · rw [z, S.gl] at hb; cases hb
  · rw [List.map_append]
    refine List.nodup_cons.mpr ⟨fun z => ?_, List.nodup_append.mpr ⟨nd.2, by simp, fun a ha b hb e => ?_⟩⟩
    · rcases List.mem_append.mp z with z | z
      · exact nd.1 z
      · have : l = p.1 := by simpa using z
        exact pl this.symm
    · have hb' : b = p.1 := by simpa using hb
      rw [hb'] at e
      exact n (.tail _ (e ▸ ha))
  · rcases List.mem_append.mp hq with z | z
    · exact S.g q z
    · rw [List.mem_singleton.mp z]; exact g
  · rcases List.mem_append.mp hq with z | z
    · rw [upd_ne (show q.1 ≠ l from fun y => nd.1 (y ▸ List.mem_map_of_mem (f := fun p : Rw => p.1) z))]; exact S.h q z
    · rw [List.mem_singleton.mp z, upd_ne pl]; exact hp
  · rcases List.mem_append.mp hq with z | z
    · exact S.v q z
    · rw [List.mem_singleton.mp z]; exact hv
theorem ShS.del {K : PySem.W.Frag} {G H : Hp} {l : Addr} {ps : List Rw} (S : ShS K G H l ps) (j : Nat) : ShS K G (upd H l (.lst ((ps.map fun p => V.ref p.1).eraseIdx j))) l (ps.eraseIdx j) := by
  have nd := List.nodup_cons.mp S.nd
  have sub : ((ps.eraseIdx j).map fun p => p.1).Sublist (ps.map fun p => p.1) := (List.eraseIdx_sublist ps j).map _
  refine ⟨fun b o hb => ?_, ?_, List.nodup_cons.mpr ⟨fun z => nd.1 (sub.subset z), nd.2.sublist sub⟩, S.gl, fun q hq => S.g q (List.mem_of_mem_eraseIdx hq), fun q hq => ?_, fun q hq => S.v q (List.mem_of_mem_eraseIdx hq)⟩
  · rw [upd_ne fun z => ?_]
    · exact S.s b o hb
    · rw [z, S.gl] at hb; cases hb
  · rw [upd_same, erase_map]
  · have hq' := List.mem_of_mem_eraseIdx hq
    rw [upd_ne (show q.1 ≠ l from fun y => nd.1 (y ▸ List.mem_map_of_mem (f := fun p : Rw => p.1) hq'))]; exact S.h q hq'
theorem hvl_all {K : PySem.W.Frag} {G H : Hp} (s : Same G H) : ∀ (ps : List Rw), (∀ p ∈ ps, H p.1 = some (.lst p.2.1) ∧ HvL K G p.2.2 p.2.1) → HvL K H (ps.map fun p => .lst p.2.2) (ps.map fun p => V.ref p.1)
  | [], _ => rfl
  | p :: ps, h => ⟨.ref p.1, _, rfl, ⟨p.1, p.2.1, rfl, SqL.of (h p (.head _)).1, (h p (.head _)).2.mono s⟩, hvl_all s ps fun q hq => h q (.tail _ hq)⟩
theorem cut_b (cell : Int) (n m : Nat) : ti (1 + (strF cell 6).getD 4 0 % botM ((strF cell 6).getD 5 0 % 4)) = ti (cutF cell n m).b := by
  unfold cutF; rfl
abbrev s__law_spoiled : Stmt := top 36
theorem sc__law_spoiled : FnScope ["_law_shares", "_law_way", "_law_cell", "_law_some", "_law_row", "_law_other", "_law_at", "_law_there", "_law_bottom"] ["_law_shares", "_law_way", "_law_cell"] (defScope s__law_spoiled) := ⟨rfl, rfl, rfl, by decide +kernel, rfl, by decide +kernel, by decide +kernel⟩
def spSpoil (K : PySem.W.Frag) : Sp := fun vs H Q _ => ∃ (l : Addr) (G : Hp) (ps : List Rw) (W way cell : Int) (m : Nat) (rows : List (List Int)), vs = [.ref l, .int way, .int cell] ∧ ShS K G H l ps ∧ ShD ps W rows ∧ SpOk W m rows ∧
  ∀ G' H' ps', ShS K G' H' l ps' → ShC (l :: ps.map fun p => p.1) G H G' H' → ShD ps' (spW W way (cutF cell rows.length m)) (spR W way (cutF cell rows.length m) m rows) → (∀ p ∈ ps', p.1 ∈ (ps.map fun p => p.1) ∨ H p.1 = none) → Q .non H'
theorem ok__law_spoiled {f f1 f2 : Addr} {fd fd1 fd2 : FuncData} {k : Nat} (F : Fun K "_law_spoiled" "_law_spoiled" s__law_spoiled f fd) (T : Txt mg) (K__law_stream : Kn P w K mg base CX0 (k + 1) "_law_stream" f1 fd1 ["_law_cell", "_law_many"] (spT K rStream)) (K__law_put : Kn P w K mg base CX0 (k + 3) "_law_put" f2 fd2 ["_law_row", "_law_at", "_law_top", "_law_bottom"] (spPut K)) : FnOk P w K mg base CX0 (k + 4) f fd ["_law_shares", "_law_way", "_law_cell"] (spSpoil K) := by
  refine F.ok sc__law_spoiled (fun vs H Q E h => by obtain ⟨_, _, _, _, _, _, _, _, rfl, _⟩ := h; rfl) fun cdv A outer s H vs Q E hr h => ?_
  obtain ⟨l, G, ps, W, way, cell, m, rows, rfl, S, hd, ok, fin⟩ := h
  have big : 1000 < sizeLine := by decide
  have ck := cut_ok cell (n := rows.length) ok.n1 ok.m1
  have ei : ti ((strF cell 6).getD 0 0 % (rows.length : Int)) = ti ((cutF cell rows.length m).i : Nat) := by
    have := Int.emod_nonneg ((strF cell 6).getD 0 0) (show (rows.length : Int) ≠ 0 by have := ok.n1; omega)
    show ti _ = ti (((strF cell 6).getD 0 0 % (rows.length : Int)).toNat : Nat)
    rw [Int.toNat_of_nonneg this]
  have ej : ti ((strF cell 6).getD 1 0 % (rows.length : Int)) = ti ((cutF cell rows.length m).j : Nat) := by
    have := Int.emod_nonneg ((strF cell 6).getD 1 0) (show (rows.length : Int) ≠ 0 by have := ok.n1; omega)
    show ti _ = ti (((strF cell 6).getD 1 0 % (rows.length : Int)).toNat : Nat)
    rw [Int.toNat_of_nonneg this]
  have ea : ti ((strF cell 6).getD 2 0 % (m : Int)) = ti (cutF cell rows.length m).at' := rfl
  have et : ti ((strF cell 6).getD 3 0 % (m : Int)) = ti (cutF cell rows.length m).there := rfl
  have eb := cut_b cell rows.length m
  generalize cutF cell rows.length m = c at ck ei ej ea et eb fin
  have sm := fun n (h : n < 6) => sm_at cell (n := n) h
  have bat := bot_at ((strF cell 6).getD 5 0)
  have rst : rStream [di cell, di 6] (tInts (strF cell 6)) := ⟨cell, 6, by decide, rfl, rfl⟩
  have bmp : 0 < botM ((strF cell 6).getD 5 0 % 4) := by
    unfold botM
    split
    · decide
    · split
      · decide
      · split <;> decide
  generalize strF cell 6 = st6 at ei ej ea et eb sm bat rst bmp
  have hlen := hd.len
  have n1 := ok.n1
  have n6 := ok.n6
  have m1 := ok.m1
  have m7 := ok.m7
  have hrow : ∀ {i : Nat}, i < rows.length → (rows.getD i []).length = m := fun hi => (ok.row _ (getD_mem' hi)).1
  obtain ⟨pi, hpi, epi⟩ := hd.at ck.i
  obtain ⟨pj, hpj, epj⟩ := hd.at ck.j
  have hpim := List.mem_of_getElem? hpi
  have lpi : pi.2.2.length = m := by rw [epi, List.length_map]; exact hrow ck.i
  refine ⟨_, (pss_cons (ps_set (i := 3) sc__law_spoiled.nd rfl (by first | exact Or.inl rfl | exact Or.inr rfl) (uE_ok (F := famD P w K mg base ["_law_shares", "_law_way", "_law_cell", "_law_some", "_law_row", "_law_other", "_law_at", "_law_there", "_law_bottom"] "_law_spoiled" (defScope s__law_spoiled) f (k + 3)) ⟨cdv, A, outer, s, H, E, hr⟩))
    (pss_cons (ps_set (i := 4) sc__law_spoiled.nd rfl (by first | exact Or.inl rfl | exact Or.inr rfl) (pe_ix ix_list (pv 0) (uE_ok (F := famD P w K mg base ["_law_shares", "_law_way", "_law_cell", "_law_some", "_law_row", "_law_other", "_law_at", "_law_there", "_law_bottom"] "_law_spoiled" (defScope s__law_spoiled) f (k + 3)) ⟨cdv, A, outer, s, H, E, hr⟩) (fun _ _ => rfl)))
    (pss_cons (ps_set (i := 5) sc__law_spoiled.nd rfl (by first | exact Or.inl rfl | exact Or.inr rfl) (pe_ix ix_list (pv 0) (uE_ok (F := famD P w K mg base ["_law_shares", "_law_way", "_law_cell", "_law_some", "_law_row", "_law_other", "_law_at", "_law_there", "_law_bottom"] "_law_spoiled" (defScope s__law_spoiled) f (k + 3)) ⟨cdv, A, outer, s, H, E, hr⟩) (fun _ _ => rfl)))
    (pss_cons (ps_set (i := 6) sc__law_spoiled.nd rfl (by first | exact Or.inl rfl | exact Or.inr rfl) (uE_ok (F := famD P w K mg base ["_law_shares", "_law_way", "_law_cell", "_law_some", "_law_row", "_law_other", "_law_at", "_law_there", "_law_bottom"] "_law_spoiled" (defScope s__law_spoiled) f (k + 3)) ⟨cdv, A, outer, s, H, E, hr⟩))
    (pss_cons (ps_set (i := 7) sc__law_spoiled.nd rfl (by first | exact Or.inl rfl | exact Or.inr rfl) (uE_ok (F := famD P w K mg base ["_law_shares", "_law_way", "_law_cell", "_law_some", "_law_row", "_law_other", "_law_at", "_law_there", "_law_bottom"] "_law_spoiled" (defScope s__law_spoiled) f (k + 3)) ⟨cdv, A, outer, s, H, E, hr⟩))
    (pss_cons (ps_set (i := 8) sc__law_spoiled.nd rfl (by first | exact Or.inl rfl | exact Or.inr rfl) (uE_ok (F := famD P w K mg base ["_law_shares", "_law_way", "_law_cell", "_law_some", "_law_row", "_law_other", "_law_at", "_law_there", "_law_bottom"] "_law_spoiled" (defScope s__law_spoiled) f (k + 3)) ⟨cdv, A, outer, s, H, E, hr⟩))
    (pss_cons (ps_if (uT_ok (F := famD P w K mg base ["_law_shares", "_law_way", "_law_cell", "_law_some", "_law_row", "_law_other", "_law_at", "_law_there", "_law_bottom"] "_law_spoiled" (defScope s__law_spoiled) f (k + 3)) ⟨cdv, A, outer, s, H, E, hr⟩) (pss_one (ps_expr (pe_kn K__law_put hr (by rfl) (pa_cons (pv 4) (pa_cons (pv 6) (pa_cons pe_int (pa_cons (pv 8) pa_nil))))))) pss_nil)
    (pss_cons (ps_if (uT_ok (F := famD P w K mg base ["_law_shares", "_law_way", "_law_cell", "_law_some", "_law_row", "_law_other", "_law_at", "_law_there", "_law_bottom"] "_law_spoiled" (defScope s__law_spoiled) f (k + 3)) ⟨cdv, A, outer, s, H, E, hr⟩) (pss_one (ps_expr (pe_kn K__law_put hr (by rfl) (pa_cons (pv 4) (pa_cons (pv 6) (pa_cons (uE_ok (F := famD P w K mg base ["_law_shares", "_law_way", "_law_cell", "_law_some", "_law_row", "_law_other", "_law_at", "_law_there", "_law_bottom"] "_law_spoiled" (defScope s__law_spoiled) f (k + 3)) ⟨cdv, A, outer, s, H, E, hr⟩) (pa_cons (pv 8) pa_nil))))))) pss_nil)
    (pss_cons (ps_if (uT_ok (F := famD P w K mg base ["_law_shares", "_law_way", "_law_cell", "_law_some", "_law_row", "_law_other", "_law_at", "_law_there", "_law_bottom"] "_law_spoiled" (defScope s__law_spoiled) f (k + 3)) ⟨cdv, A, outer, s, H, E, hr⟩) (pss_cons (ps_expr (pe_kn K__law_put hr (by rfl) (pa_cons (pv 4) (pa_cons (pv 6) (pa_cons pe_int (pa_cons (pv 8) pa_nil)))))) (pss_one (ps_expr (pe_kn K__law_put hr (by rfl) (pa_cons (pv 4) (pa_cons (pv 7) (pa_cons (uE_ok (F := famD P w K mg base ["_law_shares", "_law_way", "_law_cell", "_law_some", "_law_row", "_law_other", "_law_at", "_law_there", "_law_bottom"] "_law_spoiled" (defScope s__law_spoiled) f (k + 3)) ⟨cdv, A, outer, s, H, E, hr⟩) (pa_cons (pv 8) pa_nil)))))))) pss_nil)
    (pss_cons (ps_if (uT_ok (F := famD P w K mg base ["_law_shares", "_law_way", "_law_cell", "_law_some", "_law_row", "_law_other", "_law_at", "_law_there", "_law_bottom"] "_law_spoiled" (defScope s__law_spoiled) f (k + 3)) ⟨cdv, A, outer, s, H, E, hr⟩) (pss_cons (ps_expr (pe_kn K__law_put hr (by rfl) (pa_cons (pv 4) (pa_cons (pv 6) (pa_cons pe_int (pa_cons (pv 8) pa_nil)))))) (pss_one (ps_expr (pe_kn K__law_put hr (by rfl) (pa_cons (pv 5) (pa_cons (pv 6) (pa_cons (uE_ok (F := famD P w K mg base ["_law_shares", "_law_way", "_law_cell", "_law_some", "_law_row", "_law_other", "_law_at", "_law_there", "_law_bottom"] "_law_spoiled" (defScope s__law_spoiled) f (k + 3)) ⟨cdv, A, outer, s, H, E, hr⟩) (pa_cons (pv 8) pa_nil)))))))) pss_nil)
    (pss_cons (ps_if (uT_ok (F := famD P w K mg base ["_law_shares", "_law_way", "_law_cell", "_law_some", "_law_row", "_law_other", "_law_at", "_law_there", "_law_bottom"] "_law_spoiled" (defScope s__law_spoiled) f (k + 3)) ⟨cdv, A, outer, s, H, E, hr⟩) (pss_one (ps_expr (pe_bm PySem.F.plainAttrs_list PySem.F.slot_list_append PySem.F.type_list_append mt_append (pv 0) (pa_cons (uE_ok (F := famD P w K mg base ["_law_shares", "_law_way", "_law_cell", "_law_some", "_law_row", "_law_other", "_law_at", "_law_there", "_law_bottom"] "_law_spoiled" (defScope s__law_spoiled) f (k + 3)) ⟨cdv, A, outer, s, H, E, hr⟩) pa_nil)))) pss_nil)
    (pss_cons (ps_if (uT_ok (F := famD P w K mg base ["_law_shares", "_law_way", "_law_cell", "_law_some", "_law_row", "_law_other", "_law_at", "_law_there", "_law_bottom"] "_law_spoiled" (defScope s__law_spoiled) f (k + 3)) ⟨cdv, A, outer, s, H, E, hr⟩) (pss_one (ps_expr (pe_bm PySem.F.plainAttrs_list PySem.F.slot_list_remove PySem.F.type_list_remove (mt_remove hr.units) (pv 0) (pa_cons (pv 4) pa_nil)))) pss_nil)
    (pss_cons (ps_if (uT_ok (F := famD P w K mg base ["_law_shares", "_law_way", "_law_cell", "_law_some", "_law_row", "_law_other", "_law_at", "_law_there", "_law_bottom"] "_law_spoiled" (defScope s__law_spoiled) f (k + 3)) ⟨cdv, A, outer, s, H, E, hr⟩) (pss_one (ps_expr (pe_bm PySem.F.plainAttrs_list PySem.F.slot_list_insert PySem.F.type_list_insert mt_insert (pv 4) (pa_cons (pv 6) (pa_cons (uE_ok (F := famD P w K mg base ["_law_shares", "_law_way", "_law_cell", "_law_some", "_law_row", "_law_other", "_law_at", "_law_there", "_law_bottom"] "_law_spoiled" (defScope s__law_spoiled) f (k + 3)) ⟨cdv, A, outer, s, H, E, hr⟩) pa_nil))))) pss_nil)
    (pss_one (ps_if (uT_ok (F := famD P w K mg base ["_law_shares", "_law_way", "_law_cell", "_law_some", "_law_row", "_law_other", "_law_at", "_law_there", "_law_bottom"] "_law_spoiled" (defScope s__law_spoiled) f (k + 3)) ⟨cdv, A, outer, s, H, E, hr⟩) (pss_one (ps_expr (pe_bm PySem.F.plainAttrs_list PySem.F.slot_list_pop PySem.F.type_list_pop mt_popAt (pv 4) (pa_cons (pv 6) pa_nil)))) pss_nil))))))))))))))), ?_⟩
  have evS : ∀ {Gc Hc : Hp}, ShS K Gc Hc l ps → ∀ {e : Expr} {ρ : En} {t : Tr} {σ : St} {Q : VK}, Ev (famD P w K mg base ["_law_shares", "_law_way", "_law_cell", "_law_some", "_law_row", "_law_other", "_law_at", "_law_there", "_law_bottom"] "_law_spoiled" (defScope s__law_spoiled) f (k + 3)) e ρ t → lfT t = true → RpD K (frzd Gc Hc (l :: ps.map fun p => p.1)) ρ σ → (∀ v G' H' fq, Step Gc Hc G' H' → Ow K G' H' t v fq → Nw Hc G' fq → Q v H') → uE (famD P w K mg base ["_law_shares", "_law_way", "_law_cell", "_law_some", "_law_row", "_law_other", "_law_at", "_law_there", "_law_bottom"] "_law_spoiled" (defScope s__law_spoiled) f (k + 3)) e σ Hc Q := fun S _ _ _ _ _ h c rp kk => ShS.ev (F := (famD P w K mg base ["_law_shares", "_law_way", "_law_cell", "_law_some", "_law_row", "_law_other", "_law_at", "_law_there", "_law_bottom"] "_law_spoiled" (defScope s__law_spoiled) f (k + 3))) S h c rp kk
  show tSeq _ _ _ [some (.ref l), some (.int way), some (.int cell), none, none, none, none, none, none] H
  refine uE_of (ρ := [none, none, some (ti cell), none, none, none, none, none, none]) (Ev.as (d := dis (st6)) (ev_call K__law_stream (by show k + 1 ≤ k + 3; omega) (eva_cons (ev_nm 2 rfl) (eva_cons ev_int eva_nil)) rst) (er_tInts _)) S.s (OwS.rpd (H := H) (fp := []) ⟨_, _, rfl, _, _, rfl, _, _, [], [], rfl, rfl, ⟨rfl, rfl, rfl⟩, _, _, rfl, _, _, rfl, _, _, rfl, _, _, rfl, _, _, rfl, _, _, rfl, rfl, rfl⟩) fun v1 G1 H1 fq1 st1 o1 w1 => ?_
  have hsm : Hv K G1 (dis (st6)) v1 := o1.2
  have C := (ShC.refl (f := l :: ps.map fun p => p.1) (G := G) (H := H)).step st1
  replace S := S.step st1
  have fs : ∀ {Gx Hx : Hp}, ShS K Gx Hx l ps → Same Gx (frzd Gx Hx (l :: ps.map fun p => p.1)) := fun S => frzd_same fun a ha => (S.inf a ha).1
  show tSeq _ _ _ [some (.ref l), some (.int way), some (.int cell), some v1, none, none, none, none, none] H1
  refine ⟨_, rfl, evS S (ρ := [some (.fz (.lst (ps.map fun p : Rw => Dv.lst p.2.2))), none, none, some (.fz (dis (st6))), none, none, none, none, none]) (Ev.to (t' := ti (c.i : Nat)) (ev_mod (ev_ix (ev_nm 3 rfl) ev_int rfl (sm 0 (by decide))) (ev_len T.b_len (ev_nm 0 rfl) (.inl rfl)) (by rw [List.length_map]; omega)) (by rw [List.length_map, hlen]; exact ei)) rfl (OwS.rpd (H := H1) (fp := []) ⟨_, _, [], [], rfl, rfl, ⟨rfl, S.hv⟩, _, _, rfl, _, _, rfl, _, _, [], [], rfl, rfl, ⟨rfl, hsm.mono (fs S)⟩, _, _, rfl, _, _, rfl, _, _, rfl, _, _, rfl, _, _, rfl, rfl, rfl⟩) fun v4 G4 H4 fq4 st4 o4 w4 => ?_⟩
  replace C := C.step st4
  replace S := S.step st4
  replace hsm := hsm.mono st4.g
  refine ⟨l, _, _, .ref pi.1, rfl, hvi o4.2, SqL.of S.hl, atI_nat (by rw [List.getElem?_map, hpi]; rfl), ?_⟩
  show tSeq _ _ _ [some (.ref l), some (.int way), some (.int cell), some v1, some (.ref pi.1), none, none, none, none] H4
  refine ⟨_, rfl, evS S (ρ := [some (.fz (.lst (ps.map fun p : Rw => Dv.lst p.2.2))), none, none, some (.fz (dis (st6))), none, none, none, none, none]) (Ev.to (t' := ti (c.j : Nat)) (ev_mod (ev_ix (ev_nm 3 rfl) ev_int rfl (sm 1 (by decide))) (ev_len T.b_len (ev_nm 0 rfl) (.inl rfl)) (by rw [List.length_map]; omega)) (by rw [List.length_map, hlen]; exact ej)) rfl (OwS.rpd (H := H4) (fp := []) ⟨_, _, [], [], rfl, rfl, ⟨rfl, S.hv⟩, _, _, rfl, _, _, rfl, _, _, [], [], rfl, rfl, ⟨rfl, hsm.mono (fs S)⟩, _, _, rfl, _, _, rfl, _, _, rfl, _, _, rfl, _, _, rfl, rfl, rfl⟩) fun v5 G5 H5 fq5 st5 o5 w5 => ?_⟩
  replace C := C.step st5
  replace S := S.step st5
  replace hsm := hsm.mono st5.g
  refine ⟨l, _, _, .ref pj.1, rfl, hvi o5.2, SqL.of S.hl, atI_nat (by rw [List.getElem?_map, hpj]; rfl), ?_⟩
  show tSeq _ _ _ [some (.ref l), some (.int way), some (.int cell), some v1, some (.ref pi.1), some (.ref pj.1), none, none, none] H5
  refine evS S (ρ := [none, none, none, some (.fz (dis (st6))), some (.fz (.lst pi.2.2)), none, none, none, none]) (Ev.to (t' := ti c.at') (ev_mod (ev_ix (ev_nm 3 rfl) ev_int rfl (sm 2 (by decide))) (ev_len T.b_len (ev_nm 4 rfl) (.inl rfl)) (by omega)) (by rw [lpi]; exact ea)) rfl (OwS.rpd (H := H5) (fp := []) ⟨_, _, rfl, _, _, rfl, _, _, rfl, _, _, [], [], rfl, rfl, ⟨rfl, hsm.mono (fs S)⟩, _, _, [], [], rfl, rfl, ⟨rfl, S.hvr hpim⟩, _, _, rfl, _, _, rfl, _, _, rfl, _, _, rfl, rfl, rfl⟩) fun v6 G6 H6 fq6 stt6 o6 w6 => ?_
  replace C := C.step stt6
  replace S := S.step stt6
  replace hsm := hsm.mono stt6.g
  rw [show v6 = .int c.at' from hvi o6.2]
  show tSeq _ _ _ [some (.ref l), some (.int way), some (.int cell), some v1, some (.ref pi.1), some (.ref pj.1), some (.int c.at'), none, none] H6
  refine evS S (ρ := [none, none, none, some (.fz (dis (st6))), some (.fz (.lst pi.2.2)), none, none, none, none]) (Ev.to (t' := ti c.there) (ev_mod (ev_ix (ev_nm 3 rfl) ev_int rfl (sm 3 (by decide))) (ev_len T.b_len (ev_nm 4 rfl) (.inl rfl)) (by omega)) (by rw [lpi]; exact et)) rfl (OwS.rpd (H := H6) (fp := []) ⟨_, _, rfl, _, _, rfl, _, _, rfl, _, _, [], [], rfl, rfl, ⟨rfl, hsm.mono (fs S)⟩, _, _, [], [], rfl, rfl, ⟨rfl, S.hvr hpim⟩, _, _, rfl, _, _, rfl, _, _, rfl, _, _, rfl, rfl, rfl⟩) fun v7 G7 H7 fq7 st7 o7 w7 => ?_
  replace C := C.step st7
  replace S := S.step st7
  replace hsm := hsm.mono st7.g
  rw [show v7 = .int c.there from hvi o7.2]
  show tSeq _ _ _ [some (.ref l), some (.int way), some (.int cell), some v1, some (.ref pi.1), some (.ref pj.1), some (.int c.at'), some (.int c.there), none] H7
  refine evS S (ρ := [none, none, none, some (.fz (dis (st6))), none, none, none, none, none]) (Ev.to (t' := ti c.b) (ev_add (i := 1) (j := (st6).getD 4 0 % botM ((st6).getD 5 0 % 4)) ev_int (ev_mod (ev_ix (ev_nm 3 rfl) ev_int rfl (sm 4 (by decide))) (ev_ix (xs := [di 2, di 3, di 5, di 1000]) (ev_lst (eva_cons ev_int (eva_cons ev_int (eva_cons ev_int (eva_cons ev_int eva_nil)))) (by show 4 ≤ sizeLine; decide)) (ev_mod (ev_ix (ev_nm 3 rfl) ev_int rfl (sm 5 (by decide))) ev_int (by decide)) rfl bat) bmp)) eb) rfl (OwS.rpd (H := H7) (fp := []) ⟨_, _, rfl, _, _, rfl, _, _, rfl, _, _, [], [], rfl, rfl, ⟨rfl, hsm.mono (fs S)⟩, _, _, rfl, _, _, rfl, _, _, rfl, _, _, rfl, _, _, rfl, rfl, rfl⟩) fun v8 G8 H8 fq8 st8 o8 w8 => ?_
  replace C := C.step st8
  replace S := S.step st8
  rw [show v8 = .int c.b from hvi o8.2]
  dsimp only [gName, List.set]
  clear hsm fs bmp
  have hds := hd.scl ok.w0 ck.b0
  have p0 := pr_scl ok ck.b0
  have sl : (sclR c.b rows).length = rows.length := by unfold sclR; rw [List.length_map]
  have adr : ∀ {ps' : List Rw}, (ps'.map fun p => p.1) = (ps.map fun p => p.1) → ∀ p ∈ ps', p.1 ∈ (ps.map fun p => p.1) ∨ H p.1 = none := fun e p hp => .inl (e ▸ List.mem_map_of_mem (f := fun p : Rw => p.1) hp)
  by_cases hw : way = 1
  · refine uT_of (ρ := [none, some (ti way), none, none, none, none, none, none, none]) (et_eq (ev_nm 1 rfl) ev_int) S.s (OwS.rpd (H := H8) (fp := []) ⟨_, _, rfl, _, _, [], [], rfl, rfl, ⟨rfl, rfl, rfl⟩, _, _, rfl, _, _, rfl, _, _, rfl, _, _, rfl, _, _, rfl, _, _, rfl, _, _, rfl, rfl, rfl⟩) fun G11 H11 st => ?_
    replace C := C.step st
    replace S := S.step st
    rw [if_pos (decide_eq_true hw)]
    refine ⟨_, rfl, _, rfl, ?_⟩
    refine ⟨_, rfl, ?_⟩
    dsimp only [tNil, List.cons_append, List.nil_append]
    refine put_of (i := c.i) (n := c.at') (top := 1) S hds (by rw [sl]; exact ck.i) hpi (pr_ok ok.w0 ok.w1 ck.b0 ck.b1 m7 (by decide) p0 ck.i ck.a0 ck.a1 (.inl rfl)) fun G12 H12 ps1 S1 C1 D1 em => ?_
    replace C := C.trans C1
    clear S C1
    have S := S1
    refine uT_of (ρ := [none, some (ti way), none, none, none, none, none, none, none]) (et_eq (ev_nm 1 rfl) ev_int) S.s (OwS.rpd (H := H12) (fp := []) ⟨_, _, rfl, _, _, [], [], rfl, rfl, ⟨rfl, rfl, rfl⟩, _, _, rfl, _, _, rfl, _, _, rfl, _, _, rfl, _, _, rfl, _, _, rfl, _, _, rfl, rfl, rfl⟩) fun G13 H13 st => ?_
    replace C := C.step st
    replace S := S.step st
    rw [if_neg (by rw [decide_eq_false (by omega)]; decide)]
    refine uT_of (ρ := [none, some (ti way), none, none, none, none, none, none, none]) (et_eq (ev_nm 1 rfl) ev_int) S.s (OwS.rpd (H := H13) (fp := []) ⟨_, _, rfl, _, _, [], [], rfl, rfl, ⟨rfl, rfl, rfl⟩, _, _, rfl, _, _, rfl, _, _, rfl, _, _, rfl, _, _, rfl, _, _, rfl, _, _, rfl, rfl, rfl⟩) fun G14 H14 st => ?_
    replace C := C.step st
    replace S := S.step st
    rw [if_neg (by rw [decide_eq_false (by omega)]; decide)]
    refine uT_of (ρ := [none, some (ti way), none, none, none, none, none, none, none]) (et_eq (ev_nm 1 rfl) ev_int) S.s (OwS.rpd (H := H14) (fp := []) ⟨_, _, rfl, _, _, [], [], rfl, rfl, ⟨rfl, rfl, rfl⟩, _, _, rfl, _, _, rfl, _, _, rfl, _, _, rfl, _, _, rfl, _, _, rfl, _, _, rfl, rfl, rfl⟩) fun G15 H15 st => ?_
    replace C := C.step st
    replace S := S.step st
    rw [if_neg (by rw [decide_eq_false (by omega)]; decide)]
    refine uT_of (ρ := [none, some (ti way), none, none, none, none, none, none, none]) (et_eq (ev_nm 1 rfl) ev_int) S.s (OwS.rpd (H := H15) (fp := []) ⟨_, _, rfl, _, _, [], [], rfl, rfl, ⟨rfl, rfl, rfl⟩, _, _, rfl, _, _, rfl, _, _, rfl, _, _, rfl, _, _, rfl, _, _, rfl, _, _, rfl, rfl, rfl⟩) fun G16 H16 st => ?_
    replace C := C.step st
    replace S := S.step st
    rw [if_neg (by rw [decide_eq_false (by omega)]; decide)]
    refine uT_of (ρ := [none, some (ti way), none, none, none, none, none, none, none]) (et_eq (ev_nm 1 rfl) ev_int) S.s (OwS.rpd (H := H16) (fp := []) ⟨_, _, rfl, _, _, [], [], rfl, rfl, ⟨rfl, rfl, rfl⟩, _, _, rfl, _, _, rfl, _, _, rfl, _, _, rfl, _, _, rfl, _, _, rfl, _, _, rfl, rfl, rfl⟩) fun G17 H17 st => ?_
    replace C := C.step st
    replace S := S.step st
    rw [if_neg (by rw [decide_eq_false (by omega)]; decide)]
    refine uT_of (ρ := [none, some (ti way), none, none, none, none, none, none, none]) (et_eq (ev_nm 1 rfl) ev_int) S.s (OwS.rpd (H := H17) (fp := []) ⟨_, _, rfl, _, _, [], [], rfl, rfl, ⟨rfl, rfl, rfl⟩, _, _, rfl, _, _, rfl, _, _, rfl, _, _, rfl, _, _, rfl, _, _, rfl, _, _, rfl, rfl, rfl⟩) fun G18 H18 st => ?_
    replace C := C.step st
    replace S := S.step st
    rw [if_neg (by rw [decide_eq_false (by omega)]; decide)]
    refine uT_of (ρ := [none, some (ti way), none, none, none, none, none, none, none]) (et_eq (ev_nm 1 rfl) ev_int) S.s (OwS.rpd (H := H18) (fp := []) ⟨_, _, rfl, _, _, [], [], rfl, rfl, ⟨rfl, rfl, rfl⟩, _, _, rfl, _, _, rfl, _, _, rfl, _, _, rfl, _, _, rfl, _, _, rfl, _, _, rfl, rfl, rfl⟩) fun G19 H19 st => ?_
    replace C := C.step st
    replace S := S.step st
    rw [if_neg (by rw [decide_eq_false (by omega)]; decide)]
    exact fin _ _ _ S C (by unfold spW spR; rw [if_pos (by simp [hw]), hw]; exact D1) (adr em)
  have hn1 := hw
  clear hw
  by_cases hw : way = 2
  · refine uT_of (ρ := [none, some (ti way), none, none, none, none, none, none, none]) (et_eq (ev_nm 1 rfl) ev_int) S.s (OwS.rpd (H := H8) (fp := []) ⟨_, _, rfl, _, _, [], [], rfl, rfl, ⟨rfl, rfl, rfl⟩, _, _, rfl, _, _, rfl, _, _, rfl, _, _, rfl, _, _, rfl, _, _, rfl, _, _, rfl, rfl, rfl⟩) fun G11 H11 st => ?_
    replace C := C.step st
    replace S := S.step st
    rw [if_neg (by rw [decide_eq_false (by omega)]; decide)]
    refine uT_of (ρ := [none, some (ti way), none, none, none, none, none, none, none]) (et_eq (ev_nm 1 rfl) ev_int) S.s (OwS.rpd (H := H11) (fp := []) ⟨_, _, rfl, _, _, [], [], rfl, rfl, ⟨rfl, rfl, rfl⟩, _, _, rfl, _, _, rfl, _, _, rfl, _, _, rfl, _, _, rfl, _, _, rfl, _, _, rfl, rfl, rfl⟩) fun G12 H12 st => ?_
    replace C := C.step st
    replace S := S.step st
    rw [if_pos (decide_eq_true hw)]
    refine ⟨_, rfl, _, rfl, ?_⟩
    refine uE_of (ρ := [none, none, none, none, none, none, none, none, none]) (ev_neg ev_int) S.s (OwS.rpd (H := H12) (fp := []) ⟨_, _, rfl, _, _, rfl, _, _, rfl, _, _, rfl, _, _, rfl, _, _, rfl, _, _, rfl, _, _, rfl, _, _, rfl, rfl, rfl⟩) fun vn13 G13 H13 fn13 st on wn => ?_
    replace C := C.step st
    replace S := S.step st
    rw [show vn13 = .int (-1) from hvi on.2]
    refine ⟨_, rfl, ?_⟩
    dsimp only [tNil, List.cons_append, List.nil_append]
    refine put_of (i := c.i) (n := c.at') (top := (-1)) S hds (by rw [sl]; exact ck.i) hpi (pr_ok ok.w0 ok.w1 ck.b0 ck.b1 m7 (by decide) p0 ck.i ck.a0 ck.a1 (.inr rfl)) fun G14 H14 ps1 S1 C1 D1 em => ?_
    replace C := C.trans C1
    clear S C1
    have S := S1
    refine uT_of (ρ := [none, some (ti way), none, none, none, none, none, none, none]) (et_eq (ev_nm 1 rfl) ev_int) S.s (OwS.rpd (H := H14) (fp := []) ⟨_, _, rfl, _, _, [], [], rfl, rfl, ⟨rfl, rfl, rfl⟩, _, _, rfl, _, _, rfl, _, _, rfl, _, _, rfl, _, _, rfl, _, _, rfl, _, _, rfl, rfl, rfl⟩) fun G15 H15 st => ?_
    replace C := C.step st
    replace S := S.step st
    rw [if_neg (by rw [decide_eq_false (by omega)]; decide)]
    refine uT_of (ρ := [none, some (ti way), none, none, none, none, none, none, none]) (et_eq (ev_nm 1 rfl) ev_int) S.s (OwS.rpd (H := H15) (fp := []) ⟨_, _, rfl, _, _, [], [], rfl, rfl, ⟨rfl, rfl, rfl⟩, _, _, rfl, _, _, rfl, _, _, rfl, _, _, rfl, _, _, rfl, _, _, rfl, _, _, rfl, rfl, rfl⟩) fun G16 H16 st => ?_
    replace C := C.step st
    replace S := S.step st
    rw [if_neg (by rw [decide_eq_false (by omega)]; decide)]
    refine uT_of (ρ := [none, some (ti way), none, none, none, none, none, none, none]) (et_eq (ev_nm 1 rfl) ev_int) S.s (OwS.rpd (H := H16) (fp := []) ⟨_, _, rfl, _, _, [], [], rfl, rfl, ⟨rfl, rfl, rfl⟩, _, _, rfl, _, _, rfl, _, _, rfl, _, _, rfl, _, _, rfl, _, _, rfl, _, _, rfl, rfl, rfl⟩) fun G17 H17 st => ?_
    replace C := C.step st
    replace S := S.step st
    rw [if_neg (by rw [decide_eq_false (by omega)]; decide)]
    refine uT_of (ρ := [none, some (ti way), none, none, none, none, none, none, none]) (et_eq (ev_nm 1 rfl) ev_int) S.s (OwS.rpd (H := H17) (fp := []) ⟨_, _, rfl, _, _, [], [], rfl, rfl, ⟨rfl, rfl, rfl⟩, _, _, rfl, _, _, rfl, _, _, rfl, _, _, rfl, _, _, rfl, _, _, rfl, _, _, rfl, rfl, rfl⟩) fun G18 H18 st => ?_
    replace C := C.step st
    replace S := S.step st
    rw [if_neg (by rw [decide_eq_false (by omega)]; decide)]
    refine uT_of (ρ := [none, some (ti way), none, none, none, none, none, none, none]) (et_eq (ev_nm 1 rfl) ev_int) S.s (OwS.rpd (H := H18) (fp := []) ⟨_, _, rfl, _, _, [], [], rfl, rfl, ⟨rfl, rfl, rfl⟩, _, _, rfl, _, _, rfl, _, _, rfl, _, _, rfl, _, _, rfl, _, _, rfl, _, _, rfl, rfl, rfl⟩) fun G19 H19 st => ?_
    replace C := C.step st
    replace S := S.step st
    rw [if_neg (by rw [decide_eq_false (by omega)]; decide)]
    refine uT_of (ρ := [none, some (ti way), none, none, none, none, none, none, none]) (et_eq (ev_nm 1 rfl) ev_int) S.s (OwS.rpd (H := H19) (fp := []) ⟨_, _, rfl, _, _, [], [], rfl, rfl, ⟨rfl, rfl, rfl⟩, _, _, rfl, _, _, rfl, _, _, rfl, _, _, rfl, _, _, rfl, _, _, rfl, _, _, rfl, rfl, rfl⟩) fun G20 H20 st => ?_
    replace C := C.step st
    replace S := S.step st
    rw [if_neg (by rw [decide_eq_false (by omega)]; decide)]
    exact fin _ _ _ S C (by unfold spW spR; rw [if_pos (by simp [hw]), hw]; exact D1) (adr em)
  have hn2 := hw
  clear hw
  by_cases hw : way = 3
  · refine uT_of (ρ := [none, some (ti way), none, none, none, none, none, none, none]) (et_eq (ev_nm 1 rfl) ev_int) S.s (OwS.rpd (H := H8) (fp := []) ⟨_, _, rfl, _, _, [], [], rfl, rfl, ⟨rfl, rfl, rfl⟩, _, _, rfl, _, _, rfl, _, _, rfl, _, _, rfl, _, _, rfl, _, _, rfl, _, _, rfl, rfl, rfl⟩) fun G11 H11 st => ?_
    replace C := C.step st
    replace S := S.step st
    rw [if_neg (by rw [decide_eq_false (by omega)]; decide)]
    refine uT_of (ρ := [none, some (ti way), none, none, none, none, none, none, none]) (et_eq (ev_nm 1 rfl) ev_int) S.s (OwS.rpd (H := H11) (fp := []) ⟨_, _, rfl, _, _, [], [], rfl, rfl, ⟨rfl, rfl, rfl⟩, _, _, rfl, _, _, rfl, _, _, rfl, _, _, rfl, _, _, rfl, _, _, rfl, _, _, rfl, rfl, rfl⟩) fun G12 H12 st => ?_
    replace C := C.step st
    replace S := S.step st
    rw [if_neg (by rw [decide_eq_false (by omega)]; decide)]
    refine uT_of (ρ := [none, some (ti way), none, none, none, none, none, none, none]) (et_eq (ev_nm 1 rfl) ev_int) S.s (OwS.rpd (H := H12) (fp := []) ⟨_, _, rfl, _, _, [], [], rfl, rfl, ⟨rfl, rfl, rfl⟩, _, _, rfl, _, _, rfl, _, _, rfl, _, _, rfl, _, _, rfl, _, _, rfl, _, _, rfl, rfl, rfl⟩) fun G13 H13 st => ?_
    replace C := C.step st
    replace S := S.step st
    rw [if_pos (decide_eq_true hw)]
    refine ⟨_, rfl, _, rfl, _, rfl, ?_⟩
    dsimp only [tNil, List.cons_append, List.nil_append]
    refine put_of (i := c.i) (n := c.at') (top := 1) S hds (by rw [sl]; exact ck.i) hpi (pr_ok ok.w0 ok.w1 ck.b0 ck.b1 m7 (by decide) p0 ck.i ck.a0 ck.a1 (.inl rfl)) fun G14 H14 ps1 S1 C1 D1 em => ?_
    replace C := C.trans C1
    clear S C1
    have S := S1
    have p1 := pr_put ok.w0 p0 ck.i ck.a0 ck.a1 (.inl rfl)
    obtain ⟨p2, hp2, _⟩ := D1.at (i := c.i) (by rw [p1.len]; exact ck.i)
    have e2 : p2.1 = pi.1 := by
      have h1 : (ps1.map fun p => p.1)[c.i]? = some p2.1 := by rw [List.getElem?_map, hp2]; rfl
      rw [em, List.getElem?_map, hpi] at h1
      exact (Option.some.inj h1).symm
    refine ⟨_, rfl, _, rfl, ?_⟩
    refine uE_of (ρ := [none, none, none, none, none, none, none, none, none]) (ev_neg ev_int) S.s (OwS.rpd (H := H14) (fp := []) ⟨_, _, rfl, _, _, rfl, _, _, rfl, _, _, rfl, _, _, rfl, _, _, rfl, _, _, rfl, _, _, rfl, _, _, rfl, rfl, rfl⟩) fun vn15 G15 H15 fn15 st on wn => ?_
    replace C := C.step st
    replace S := S.step st
    rw [show vn15 = .int (-1) from hvi on.2]
    refine ⟨_, rfl, ?_⟩
    dsimp only [tNil, List.cons_append, List.nil_append]
    rw [← e2]
    refine put_of (i := c.i) (n := c.there) (top := -1) S D1 (by rw [p1.len]; exact ck.i) hp2 (pr_ok ok.w0 ok.w1 ck.b0 ck.b1 m7 (by decide) p1 ck.i ck.t0 ck.t1 (.inr rfl)) fun G16 H16 ps2 S2 C2 D2 em2 => ?_
    rw [em] at C2
    replace C := C.trans C2
    clear S C2
    have S := S2
    rw [e2]
    refine uT_of (ρ := [none, some (ti way), none, none, none, none, none, none, none]) (et_eq (ev_nm 1 rfl) ev_int) S.s (OwS.rpd (H := H16) (fp := []) ⟨_, _, rfl, _, _, [], [], rfl, rfl, ⟨rfl, rfl, rfl⟩, _, _, rfl, _, _, rfl, _, _, rfl, _, _, rfl, _, _, rfl, _, _, rfl, _, _, rfl, rfl, rfl⟩) fun G17 H17 st => ?_
    replace C := C.step st
    replace S := S.step st
    rw [if_neg (by rw [decide_eq_false (by omega)]; decide)]
    refine uT_of (ρ := [none, some (ti way), none, none, none, none, none, none, none]) (et_eq (ev_nm 1 rfl) ev_int) S.s (OwS.rpd (H := H17) (fp := []) ⟨_, _, rfl, _, _, [], [], rfl, rfl, ⟨rfl, rfl, rfl⟩, _, _, rfl, _, _, rfl, _, _, rfl, _, _, rfl, _, _, rfl, _, _, rfl, _, _, rfl, rfl, rfl⟩) fun G18 H18 st => ?_
    replace C := C.step st
    replace S := S.step st
    rw [if_neg (by rw [decide_eq_false (by omega)]; decide)]
    refine uT_of (ρ := [none, some (ti way), none, none, none, none, none, none, none]) (et_eq (ev_nm 1 rfl) ev_int) S.s (OwS.rpd (H := H18) (fp := []) ⟨_, _, rfl, _, _, [], [], rfl, rfl, ⟨rfl, rfl, rfl⟩, _, _, rfl, _, _, rfl, _, _, rfl, _, _, rfl, _, _, rfl, _, _, rfl, _, _, rfl, rfl, rfl⟩) fun G19 H19 st => ?_
    replace C := C.step st
    replace S := S.step st
    rw [if_neg (by rw [decide_eq_false (by omega)]; decide)]
    refine uT_of (ρ := [none, some (ti way), none, none, none, none, none, none, none]) (et_eq (ev_nm 1 rfl) ev_int) S.s (OwS.rpd (H := H19) (fp := []) ⟨_, _, rfl, _, _, [], [], rfl, rfl, ⟨rfl, rfl, rfl⟩, _, _, rfl, _, _, rfl, _, _, rfl, _, _, rfl, _, _, rfl, _, _, rfl, _, _, rfl, rfl, rfl⟩) fun G20 H20 st => ?_
    replace C := C.step st
    replace S := S.step st
    rw [if_neg (by rw [decide_eq_false (by omega)]; decide)]
    refine uT_of (ρ := [none, some (ti way), none, none, none, none, none, none, none]) (et_eq (ev_nm 1 rfl) ev_int) S.s (OwS.rpd (H := H20) (fp := []) ⟨_, _, rfl, _, _, [], [], rfl, rfl, ⟨rfl, rfl, rfl⟩, _, _, rfl, _, _, rfl, _, _, rfl, _, _, rfl, _, _, rfl, _, _, rfl, _, _, rfl, rfl, rfl⟩) fun G21 H21 st => ?_
    replace C := C.step st
    replace S := S.step st
    rw [if_neg (by rw [decide_eq_false (by omega)]; decide)]
    exact fin _ _ _ S C (by unfold spW spR; rw [if_pos (by simp [hw]), hw]; exact D2) (adr (em2.trans em))
  have hn3 := hw
  clear hw
  by_cases hw : way = 4
  · refine uT_of (ρ := [none, some (ti way), none, none, none, none, none, none, none]) (et_eq (ev_nm 1 rfl) ev_int) S.s (OwS.rpd (H := H8) (fp := []) ⟨_, _, rfl, _, _, [], [], rfl, rfl, ⟨rfl, rfl, rfl⟩, _, _, rfl, _, _, rfl, _, _, rfl, _, _, rfl, _, _, rfl, _, _, rfl, _, _, rfl, rfl, rfl⟩) fun G11 H11 st => ?_
    replace C := C.step st
    replace S := S.step st
    rw [if_neg (by rw [decide_eq_false (by omega)]; decide)]
    refine uT_of (ρ := [none, some (ti way), none, none, none, none, none, none, none]) (et_eq (ev_nm 1 rfl) ev_int) S.s (OwS.rpd (H := H11) (fp := []) ⟨_, _, rfl, _, _, [], [], rfl, rfl, ⟨rfl, rfl, rfl⟩, _, _, rfl, _, _, rfl, _, _, rfl, _, _, rfl, _, _, rfl, _, _, rfl, _, _, rfl, rfl, rfl⟩) fun G12 H12 st => ?_
    replace C := C.step st
    replace S := S.step st
    rw [if_neg (by rw [decide_eq_false (by omega)]; decide)]
    refine uT_of (ρ := [none, some (ti way), none, none, none, none, none, none, none]) (et_eq (ev_nm 1 rfl) ev_int) S.s (OwS.rpd (H := H12) (fp := []) ⟨_, _, rfl, _, _, [], [], rfl, rfl, ⟨rfl, rfl, rfl⟩, _, _, rfl, _, _, rfl, _, _, rfl, _, _, rfl, _, _, rfl, _, _, rfl, _, _, rfl, rfl, rfl⟩) fun G13 H13 st => ?_
    replace C := C.step st
    replace S := S.step st
    rw [if_neg (by rw [decide_eq_false (by omega)]; decide)]
    refine uT_of (ρ := [none, some (ti way), none, none, none, none, none, none, none]) (et_eq (ev_nm 1 rfl) ev_int) S.s (OwS.rpd (H := H13) (fp := []) ⟨_, _, rfl, _, _, [], [], rfl, rfl, ⟨rfl, rfl, rfl⟩, _, _, rfl, _, _, rfl, _, _, rfl, _, _, rfl, _, _, rfl, _, _, rfl, _, _, rfl, rfl, rfl⟩) fun G14 H14 st => ?_
    replace C := C.step st
    replace S := S.step st
    rw [if_pos (decide_eq_true hw)]
    refine ⟨_, rfl, _, rfl, _, rfl, ?_⟩
    dsimp only [tNil, List.cons_append, List.nil_append]
    refine put_of (i := c.i) (n := c.at') (top := 1) S hds (by rw [sl]; exact ck.i) hpi (pr_ok ok.w0 ok.w1 ck.b0 ck.b1 m7 (by decide) p0 ck.i ck.a0 ck.a1 (.inl rfl)) fun G15 H15 ps1 S1 C1 D1 em => ?_
    replace C := C.trans C1
    clear S C1
    have S := S1
    have p1 := pr_put ok.w0 p0 ck.i ck.a0 ck.a1 (.inl rfl)
    obtain ⟨p2, hp2, _⟩ := D1.at (i := c.j) (by rw [p1.len]; exact ck.j)
    have e2 : p2.1 = pj.1 := by
      have h1 : (ps1.map fun p => p.1)[c.j]? = some p2.1 := by rw [List.getElem?_map, hp2]; rfl
      rw [em, List.getElem?_map, hpj] at h1
      exact (Option.some.inj h1).symm
    refine ⟨_, rfl, _, rfl, ?_⟩
    refine uE_of (ρ := [none, none, none, none, none, none, none, none, none]) (ev_neg ev_int) S.s (OwS.rpd (H := H15) (fp := []) ⟨_, _, rfl, _, _, rfl, _, _, rfl, _, _, rfl, _, _, rfl, _, _, rfl, _, _, rfl, _, _, rfl, _, _, rfl, rfl, rfl⟩) fun vn16 G16 H16 fn16 st on wn => ?_
    replace C := C.step st
    replace S := S.step st
    rw [show vn16 = .int (-1) from hvi on.2]
    refine ⟨_, rfl, ?_⟩
    dsimp only [tNil, List.cons_append, List.nil_append]
    rw [← e2]
    refine put_of (i := c.j) (n := c.at') (top := -1) S D1 (by rw [p1.len]; exact ck.j) hp2 (pr_ok ok.w0 ok.w1 ck.b0 ck.b1 m7 (by decide) p1 ck.j ck.a0 ck.a1 (.inr rfl)) fun G17 H17 ps2 S2 C2 D2 em2 => ?_
    rw [em] at C2
    replace C := C.trans C2
    clear S C2
    have S := S2
    rw [e2]
    refine uT_of (ρ := [none, some (ti way), none, none, none, none, none, none, none]) (et_eq (ev_nm 1 rfl) ev_int) S.s (OwS.rpd (H := H17) (fp := []) ⟨_, _, rfl, _, _, [], [], rfl, rfl, ⟨rfl, rfl, rfl⟩, _, _, rfl, _, _, rfl, _, _, rfl, _, _, rfl, _, _, rfl, _, _, rfl, _, _, rfl, rfl, rfl⟩) fun G18 H18 st => ?_
    replace C := C.step st
    replace S := S.step st
    rw [if_neg (by rw [decide_eq_false (by omega)]; decide)]
    refine uT_of (ρ := [none, some (ti way), none, none, none, none, none, none, none]) (et_eq (ev_nm 1 rfl) ev_int) S.s (OwS.rpd (H := H18) (fp := []) ⟨_, _, rfl, _, _, [], [], rfl, rfl, ⟨rfl, rfl, rfl⟩, _, _, rfl, _, _, rfl, _, _, rfl, _, _, rfl, _, _, rfl, _, _, rfl, _, _, rfl, rfl, rfl⟩) fun G19 H19 st => ?_
    replace C := C.step st
    replace S := S.step st
    rw [if_neg (by rw [decide_eq_false (by omega)]; decide)]
    refine uT_of (ρ := [none, some (ti way), none, none, none, none, none, none, none]) (et_eq (ev_nm 1 rfl) ev_int) S.s (OwS.rpd (H := H19) (fp := []) ⟨_, _, rfl, _, _, [], [], rfl, rfl, ⟨rfl, rfl, rfl⟩, _, _, rfl, _, _, rfl, _, _, rfl, _, _, rfl, _, _, rfl, _, _, rfl, _, _, rfl, rfl, rfl⟩) fun G20 H20 st => ?_
    replace C := C.step st
    replace S := S.step st
    rw [if_neg (by rw [decide_eq_false (by omega)]; decide)]
    refine uT_of (ρ := [none, some (ti way), none, none, none, none, none, none, none]) (et_eq (ev_nm 1 rfl) ev_int) S.s (OwS.rpd (H := H20) (fp := []) ⟨_, _, rfl, _, _, [], [], rfl, rfl, ⟨rfl, rfl, rfl⟩, _, _, rfl, _, _, rfl, _, _, rfl, _, _, rfl, _, _, rfl, _, _, rfl, _, _, rfl, rfl, rfl⟩) fun G21 H21 st => ?_
    replace C := C.step st
    replace S := S.step st
    rw [if_neg (by rw [decide_eq_false (by omega)]; decide)]
    exact fin _ _ _ S C (by unfold spW spR; rw [if_pos (by simp [hw]), hw]; exact D2) (adr (em2.trans em))
  have hn4 := hw
  clear hw
  by_cases hw : way = 5
  · refine uT_of (ρ := [none, some (ti way), none, none, none, none, none, none, none]) (et_eq (ev_nm 1 rfl) ev_int) S.s (OwS.rpd (H := H8) (fp := []) ⟨_, _, rfl, _, _, [], [], rfl, rfl, ⟨rfl, rfl, rfl⟩, _, _, rfl, _, _, rfl, _, _, rfl, _, _, rfl, _, _, rfl, _, _, rfl, _, _, rfl, rfl, rfl⟩) fun G11 H11 st => ?_
    replace C := C.step st
    replace S := S.step st
    rw [if_neg (by rw [decide_eq_false (by omega)]; decide)]
    refine uT_of (ρ := [none, some (ti way), none, none, none, none, none, none, none]) (et_eq (ev_nm 1 rfl) ev_int) S.s (OwS.rpd (H := H11) (fp := []) ⟨_, _, rfl, _, _, [], [], rfl, rfl, ⟨rfl, rfl, rfl⟩, _, _, rfl, _, _, rfl, _, _, rfl, _, _, rfl, _, _, rfl, _, _, rfl, _, _, rfl, rfl, rfl⟩) fun G12 H12 st => ?_
    replace C := C.step st
    replace S := S.step st
    rw [if_neg (by rw [decide_eq_false (by omega)]; decide)]
    refine uT_of (ρ := [none, some (ti way), none, none, none, none, none, none, none]) (et_eq (ev_nm 1 rfl) ev_int) S.s (OwS.rpd (H := H12) (fp := []) ⟨_, _, rfl, _, _, [], [], rfl, rfl, ⟨rfl, rfl, rfl⟩, _, _, rfl, _, _, rfl, _, _, rfl, _, _, rfl, _, _, rfl, _, _, rfl, _, _, rfl, rfl, rfl⟩) fun G13 H13 st => ?_
    replace C := C.step st
    replace S := S.step st
    rw [if_neg (by rw [decide_eq_false (by omega)]; decide)]
    refine uT_of (ρ := [none, some (ti way), none, none, none, none, none, none, none]) (et_eq (ev_nm 1 rfl) ev_int) S.s (OwS.rpd (H := H13) (fp := []) ⟨_, _, rfl, _, _, [], [], rfl, rfl, ⟨rfl, rfl, rfl⟩, _, _, rfl, _, _, rfl, _, _, rfl, _, _, rfl, _, _, rfl, _, _, rfl, _, _, rfl, rfl, rfl⟩) fun G14 H14 st => ?_
    replace C := C.step st
    replace S := S.step st
    rw [if_neg (by rw [decide_eq_false (by omega)]; decide)]
    refine uT_of (ρ := [none, some (ti way), none, none, none, none, none, none, none]) (et_eq (ev_nm 1 rfl) ev_int) S.s (OwS.rpd (H := H14) (fp := []) ⟨_, _, rfl, _, _, [], [], rfl, rfl, ⟨rfl, rfl, rfl⟩, _, _, rfl, _, _, rfl, _, _, rfl, _, _, rfl, _, _, rfl, _, _, rfl, _, _, rfl, rfl, rfl⟩) fun G15 H15 st => ?_
    replace C := C.step st
    replace S := S.step st
    rw [if_pos (decide_eq_true hw)]
    have e5 : er (.ow (((rows.getD c.i []).drop 1).map fun _ => tF (0, 1))) = .lst (((rows.getD c.i []).drop 1).map fun _ => dF (0, 1)) := er_ow_map _ _
    have e6 : ((((rows.getD c.i []).drop 1).map fun _ => dF (0, 1)) ++ [dF (1, 1)]) = dRw W (List.replicate (m - 1) 0 ++ [W]) := by
      show _ = List.map _ _
      rw [List.map_append, List.map_replicate, fW_zero ok.w0]
      congr 1
      · rw [List.map_const', List.length_drop, hrow ck.i]
      · show [dF (1, 1)] = [dF (fW W W)]
        rw [fW_self ok.w0]
    have ecut : cutD pi.2.2 (some 1) none = ((rows.getD c.i []).drop 1).map fun s => dF (fW W s) := by
      rw [epi]
      have e1 : HT.sIx (dRw W (rows.getD c.i [])).length 0 (some 1) = 1 := by
        refine (HT.sIx_nat _ 0 1).trans ?_
        rw [List.length_map, hrow ck.i]
        exact Nat.min_eq_left m1
      unfold cutD
      rw [e1]
      show ((dRw W (rows.getD c.i [])).drop 1).take ((dRw W (rows.getD c.i [])).length - 1) = _
      rw [List.take_of_length_le (by rw [List.length_drop]; exact Nat.le_refl _), List.map_drop]
    refine ⟨_, rfl, .inl ⟨rfl, _, SqL.of S.hl⟩, ?_⟩
    refine evS S (ρ := [none, none, none, none, some (.fz (.lst pi.2.2)), none, none, none, none]) (Ev.to (t' := .ow ((dRw W (List.replicate (m - 1) 0 ++ [W])).map .fz)) (ev_cat (ev_lcm (own := ["_law_share"]) (fr := []) ((rows.getD c.i []).drop 1) (fun s => dF (fW W s)) (fun _ => tF (0, 1)) (fun i => lcs ⟨rfl, rfl, by decide +kernel, by decide +kernel, by decide +kernel, by decide +kernel⟩) (evi_list (ev_slice (ev_nm 4 rfl) rfl (eo_some ev_int) eo_none) (by rw [er_fzs, ecut])) (evg_nm 0 (fun _ => by show List.Nodup (["_law_share"] : List Str); decide)) (by decide) (by rw [List.length_drop, hrow ck.i]; omega) (fun s hs => ⟨_, rfl, by exact ev_tupD (dd := [di 0, di 1]) (eva_cons ev_int (eva_cons ev_int eva_nil)) rfl (by show 2 ≤ sizeLine; decide)⟩) (fun dd => by cases dd <;> rfl)) (ev_lst (eva_cons (ev_tupD (dd := [di 1, di 1]) (eva_cons ev_int (eva_cons ev_int eva_nil)) rfl (by show 2 ≤ sizeLine; decide)) eva_nil) (by show 1 ≤ sizeLine; decide)) e5 rfl (by rw [List.length_map, List.length_drop, hrow ck.i]; show _ + 1 ≤ _; omega)) (by rw [← e6]; rfl)) (lfTs_of fun t ht => by obtain ⟨d, hd', rfl⟩ := List.mem_map.mp ht; obtain ⟨s, _, rfl⟩ := List.mem_map.mp hd'; rfl) (OwS.rpd (H := H15) (fp := []) ⟨_, _, rfl, _, _, rfl, _, _, rfl, _, _, rfl, _, _, [], [], rfl, rfl, ⟨rfl, S.hvr hpim⟩, _, _, rfl, _, _, rfl, _, _, rfl, _, _, rfl, rfl, rfl⟩) fun vr G16 H16 fr st on wn => ?_
    obtain ⟨ar, xr, fx, rfl, har, oxr, rfl⟩ := on
    obtain ⟨hxr, rfl⟩ := fz_ow oxr
    have nar := wn.n ar (.head _)
    have hd0 := C.d ar nar
    replace C := C.step st
    have inf := S.inf
    replace S := S.step st
    refine ⟨l, _, .ref ar, rfl, rfl, S.hl, by rw [List.length_map, hlen]; omega, ?_⟩
    have S5 := S.app (p := (ar, xr, dRw W (List.replicate (m - 1) 0 ++ [W]))) har hxr (wn.g ar (.head _)) (fun z => by
      obtain ⟨xs, hx⟩ := (inf ar z).2
      rw [nar] at hx; cases hx)
    replace C := C.upd (a := l) (o := .lst ((ps.map fun p => V.ref p.1) ++ [.ref ar])) (.head _)
    clear S
    have S := S5
    have D5 : ShD (ps ++ [(ar, xr, dRw W (List.replicate (m - 1) 0 ++ [W]))]) W (rows ++ [List.replicate (m - 1) 0 ++ [W]]) := by
      unfold ShD at hd ⊢
      rw [List.map_append, List.map_append, hd]; rfl
    refine uT_of (ρ := [none, some (ti way), none, none, none, none, none, none, none]) (et_eq (ev_nm 1 rfl) ev_int) S.s (OwS.rpd (H := H) (fp := []) ⟨_, _, rfl, _, _, [], [], rfl, rfl, ⟨rfl, rfl, rfl⟩, _, _, rfl, _, _, rfl, _, _, rfl, _, _, rfl, _, _, rfl, _, _, rfl, _, _, rfl, rfl, rfl⟩) fun G17 H17 st => ?_
    replace C := C.step st
    replace S := S.step st
    rw [if_neg (by rw [decide_eq_false (by omega)]; decide)]
    refine uT_of (ρ := [none, some (ti way), none, none, none, none, none, none, none]) (et_eq (ev_nm 1 rfl) ev_int) S.s (OwS.rpd (H := H17) (fp := []) ⟨_, _, rfl, _, _, [], [], rfl, rfl, ⟨rfl, rfl, rfl⟩, _, _, rfl, _, _, rfl, _, _, rfl, _, _, rfl, _, _, rfl, _, _, rfl, _, _, rfl, rfl, rfl⟩) fun G18 H18 st => ?_
    replace C := C.step st
    replace S := S.step st
    rw [if_neg (by rw [decide_eq_false (by omega)]; decide)]
    refine uT_of (ρ := [none, some (ti way), none, none, none, none, none, none, none]) (et_eq (ev_nm 1 rfl) ev_int) S.s (OwS.rpd (H := H18) (fp := []) ⟨_, _, rfl, _, _, [], [], rfl, rfl, ⟨rfl, rfl, rfl⟩, _, _, rfl, _, _, rfl, _, _, rfl, _, _, rfl, _, _, rfl, _, _, rfl, _, _, rfl, rfl, rfl⟩) fun G19 H19 st => ?_
    replace C := C.step st
    replace S := S.step st
    rw [if_neg (by rw [decide_eq_false (by omega)]; decide)]
    exact fin _ _ _ S C (by unfold spW spR; rw [if_neg (by omega), hw]; exact D5) (fun p hp => by
        rcases List.mem_append.mp hp with z | z
        · exact .inl (List.mem_map_of_mem (f := fun p : Rw => p.1) z)
        · rw [List.mem_singleton.mp z]; exact .inr hd0)
  have hn5 := hw
  clear hw
  by_cases hw : way = 6
  · refine uT_of (ρ := [none, some (ti way), none, none, none, none, none, none, none]) (et_eq (ev_nm 1 rfl) ev_int) S.s (OwS.rpd (H := H8) (fp := []) ⟨_, _, rfl, _, _, [], [], rfl, rfl, ⟨rfl, rfl, rfl⟩, _, _, rfl, _, _, rfl, _, _, rfl, _, _, rfl, _, _, rfl, _, _, rfl, _, _, rfl, rfl, rfl⟩) fun G11 H11 st => ?_
    replace C := C.step st
    replace S := S.step st
    rw [if_neg (by rw [decide_eq_false (by omega)]; decide)]
    refine uT_of (ρ := [none, some (ti way), none, none, none, none, none, none, none]) (et_eq (ev_nm 1 rfl) ev_int) S.s (OwS.rpd (H := H11) (fp := []) ⟨_, _, rfl, _, _, [], [], rfl, rfl, ⟨rfl, rfl, rfl⟩, _, _, rfl, _, _, rfl, _, _, rfl, _, _, rfl, _, _, rfl, _, _, rfl, _, _, rfl, rfl, rfl⟩) fun G12 H12 st => ?_
    replace C := C.step st
    replace S := S.step st
    rw [if_neg (by rw [decide_eq_false (by omega)]; decide)]
    refine uT_of (ρ := [none, some (ti way), none, none, none, none, none, none, none]) (et_eq (ev_nm 1 rfl) ev_int) S.s (OwS.rpd (H := H12) (fp := []) ⟨_, _, rfl, _, _, [], [], rfl, rfl, ⟨rfl, rfl, rfl⟩, _, _, rfl, _, _, rfl, _, _, rfl, _, _, rfl, _, _, rfl, _, _, rfl, _, _, rfl, rfl, rfl⟩) fun G13 H13 st => ?_
    replace C := C.step st
    replace S := S.step st
    rw [if_neg (by rw [decide_eq_false (by omega)]; decide)]
    refine uT_of (ρ := [none, some (ti way), none, none, none, none, none, none, none]) (et_eq (ev_nm 1 rfl) ev_int) S.s (OwS.rpd (H := H13) (fp := []) ⟨_, _, rfl, _, _, [], [], rfl, rfl, ⟨rfl, rfl, rfl⟩, _, _, rfl, _, _, rfl, _, _, rfl, _, _, rfl, _, _, rfl, _, _, rfl, _, _, rfl, rfl, rfl⟩) fun G14 H14 st => ?_
    replace C := C.step st
    replace S := S.step st
    rw [if_neg (by rw [decide_eq_false (by omega)]; decide)]
    refine uT_of (ρ := [none, some (ti way), none, none, none, none, none, none, none]) (et_eq (ev_nm 1 rfl) ev_int) S.s (OwS.rpd (H := H14) (fp := []) ⟨_, _, rfl, _, _, [], [], rfl, rfl, ⟨rfl, rfl, rfl⟩, _, _, rfl, _, _, rfl, _, _, rfl, _, _, rfl, _, _, rfl, _, _, rfl, _, _, rfl, rfl, rfl⟩) fun G15 H15 st => ?_
    replace C := C.step st
    replace S := S.step st
    rw [if_neg (by rw [decide_eq_false (by omega)]; decide)]
    refine uT_of (ρ := [none, some (ti way), none, none, none, none, none, none, none]) (et_eq (ev_nm 1 rfl) ev_int) S.s (OwS.rpd (H := H15) (fp := []) ⟨_, _, rfl, _, _, [], [], rfl, rfl, ⟨rfl, rfl, rfl⟩, _, _, rfl, _, _, rfl, _, _, rfl, _, _, rfl, _, _, rfl, _, _, rfl, _, _, rfl, rfl, rfl⟩) fun G16 H16 st => ?_
    replace C := C.step st
    replace S := S.step st
    rw [if_pos (decide_eq_true hw)]
    have hfi : firstEq W rows (rows.getD c.i []) < rows.length := List.findIdx_lt_length_of_exists ⟨_, getD_mem' ck.i, eqD_refl (okD_lst (fun s => okD_dF (fW W s)) _)⟩
    have hvA := hvl_all S.s ps fun p hp => ⟨S.h p hp, S.v p hp⟩
    have hvI : Hv K _ (.lst pi.2.2) (.ref pi.1) := ⟨pi.1, pi.2.1, rfl, SqL.of (S.h pi hpim), (S.v pi hpim).mono S.s⟩
    have emap : (ps.map fun p => p.1).map V.ref = ps.map fun p => V.ref p.1 := by rw [List.map_map]; rfl
    have datm : ∀ (q : Nat) (d' : Dv), (ps.map fun p => Dv.lst p.2.2)[q]? = some d' → ∃ hq : q < rows.length, eqD d' (.lst pi.2.2) = eqRow W rows[q] (rows.getD c.i []) := fun q d' hq => by
      rw [List.getElem?_map] at hq
      have hq' : q < ps.length := by
        rcases Nat.lt_or_ge q ps.length with z | z
        · exact z
        · rw [List.getElem?_eq_none z] at hq; cases hq
      obtain ⟨pq, hpq, epq⟩ := hd.at (i := q) (by omega)
      rw [hpq] at hq
      cases hq
      refine ⟨by omega, ?_⟩
      unfold eqRow
      show eqD (.lst pq.2.2) (.lst pi.2.2) = _
      rw [epq, epi, List.getD_eq_getElem?_getD (l := rows) (i := q), List.getElem?_eq_getElem (show q < rows.length by omega)]; rfl
    refine ⟨_, rfl, .inl ⟨rfl, _, SqL.of S.hl⟩, _, rfl, ?_⟩
    refine ⟨l, ps.map fun p => p.1, ps.map fun p => .lst p.2.2, .lst pi.2.2, .ref pi.1, firstEq W rows (rows.getD c.i []), rfl, rfl, by rw [emap]; exact S.hl, (List.nodup_cons.mp S.nd).2, by rw [emap]; exact hvA, hvI, fun d' hd' => ?_, by rw [List.length_map, hlen]; exact hfi, fun d' hd' => ?_, fun q d' hq hd' => ?_, by rw [List.length_map, hlen]; omega, ?_⟩
    · obtain ⟨q, hq⟩ := List.getElem?_of_mem hd'
      rw [List.getElem?_map] at hq
      have hq' : q < ps.length := by
        rcases Nat.lt_or_ge q ps.length with z | z
        · exact z
        · rw [List.getElem?_eq_none z] at hq; cases hq
      obtain ⟨pq, hpq, epq⟩ := hd.at (i := q) (by omega)
      rw [hpq] at hq
      cases hq
      show dpD (.lst pq.2.2) ≤ 50
      rw [epq]
      exact Nat.le_trans (dpD_lst (n := 1) fun d hd => by obtain ⟨s, _, rfl⟩ := List.mem_map.mp hd; exact dpD_dF _) (by decide)
    · obtain ⟨hq, e⟩ := datm _ d' hd'
      rw [e]
      exact List.findIdx_getElem (p := fun r' => eqRow W r' (rows.getD c.i []))
    · obtain ⟨hq2, e⟩ := datm q d' hd'
      rw [e]
      exact List.not_of_lt_findIdx (p := fun r' => eqRow W r' (rows.getD c.i [])) hq
    rw [emap]
    have S6 := S.del (firstEq W rows (rows.getD c.i []))
    replace C := C.upd (a := l) (o := .lst ((ps.map fun p => V.ref p.1).eraseIdx (firstEq W rows (rows.getD c.i [])))) (.head _)
    clear S
    have S := S6
    have D6 : ShD (ps.eraseIdx (firstEq W rows (rows.getD c.i []))) W (rows.eraseIdx (firstEq W rows (rows.getD c.i []))) := by
      unfold ShD at hd ⊢
      rw [← erase_map, ← erase_map, hd]
    refine uT_of (ρ := [none, some (ti way), none, none, none, none, none, none, none]) (et_eq (ev_nm 1 rfl) ev_int) S.s (OwS.rpd (H := H) (fp := []) ⟨_, _, rfl, _, _, [], [], rfl, rfl, ⟨rfl, rfl, rfl⟩, _, _, rfl, _, _, rfl, _, _, rfl, _, _, rfl, _, _, rfl, _, _, rfl, _, _, rfl, rfl, rfl⟩) fun G17 H17 st => ?_
    replace C := C.step st
    replace S := S.step st
    rw [if_neg (by rw [decide_eq_false (by omega)]; decide)]
    refine uT_of (ρ := [none, some (ti way), none, none, none, none, none, none, none]) (et_eq (ev_nm 1 rfl) ev_int) S.s (OwS.rpd (H := H17) (fp := []) ⟨_, _, rfl, _, _, [], [], rfl, rfl, ⟨rfl, rfl, rfl⟩, _, _, rfl, _, _, rfl, _, _, rfl, _, _, rfl, _, _, rfl, _, _, rfl, _, _, rfl, rfl, rfl⟩) fun G18 H18 st => ?_
    replace C := C.step st
    replace S := S.step st
    rw [if_neg (by rw [decide_eq_false (by omega)]; decide)]
    exact fin _ _ _ S C (by unfold spW spR; rw [if_neg (by omega), hw]; exact D6) (fun p hp => .inl (List.mem_map_of_mem (f := fun p : Rw => p.1) (List.mem_of_mem_eraseIdx hp)))
  have hn6 := hw
  clear hw
  by_cases hw : way = 7
  · refine uT_of (ρ := [none, some (ti way), none, none, none, none, none, none, none]) (et_eq (ev_nm 1 rfl) ev_int) S.s (OwS.rpd (H := H8) (fp := []) ⟨_, _, rfl, _, _, [], [], rfl, rfl, ⟨rfl, rfl, rfl⟩, _, _, rfl, _, _, rfl, _, _, rfl, _, _, rfl, _, _, rfl, _, _, rfl, _, _, rfl, rfl, rfl⟩) fun G11 H11 st => ?_
    replace C := C.step st
    replace S := S.step st
    rw [if_neg (by rw [decide_eq_false (by omega)]; decide)]
    refine uT_of (ρ := [none, some (ti way), none, none, none, none, none, none, none]) (et_eq (ev_nm 1 rfl) ev_int) S.s (OwS.rpd (H := H11) (fp := []) ⟨_, _, rfl, _, _, [], [], rfl, rfl, ⟨rfl, rfl, rfl⟩, _, _, rfl, _, _, rfl, _, _, rfl, _, _, rfl, _, _, rfl, _, _, rfl, _, _, rfl, rfl, rfl⟩) fun G12 H12 st => ?_
    replace C := C.step st
    replace S := S.step st
    rw [if_neg (by rw [decide_eq_false (by omega)]; decide)]
    refine uT_of (ρ := [none, some (ti way), none, none, none, none, none, none, none]) (et_eq (ev_nm 1 rfl) ev_int) S.s (OwS.rpd (H := H12) (fp := []) ⟨_, _, rfl, _, _, [], [], rfl, rfl, ⟨rfl, rfl, rfl⟩, _, _, rfl, _, _, rfl, _, _, rfl, _, _, rfl, _, _, rfl, _, _, rfl, _, _, rfl, rfl, rfl⟩) fun G13 H13 st => ?_
    replace C := C.step st
    replace S := S.step st
    rw [if_neg (by rw [decide_eq_false (by omega)]; decide)]
    refine uT_of (ρ := [none, some (ti way), none, none, none, none, none, none, none]) (et_eq (ev_nm 1 rfl) ev_int) S.s (OwS.rpd (H := H13) (fp := []) ⟨_, _, rfl, _, _, [], [], rfl, rfl, ⟨rfl, rfl, rfl⟩, _, _, rfl, _, _, rfl, _, _, rfl, _, _, rfl, _, _, rfl, _, _, rfl, _, _, rfl, rfl, rfl⟩) fun G14 H14 st => ?_
    replace C := C.step st
    replace S := S.step st
    rw [if_neg (by rw [decide_eq_false (by omega)]; decide)]
    refine uT_of (ρ := [none, some (ti way), none, none, none, none, none, none, none]) (et_eq (ev_nm 1 rfl) ev_int) S.s (OwS.rpd (H := H14) (fp := []) ⟨_, _, rfl, _, _, [], [], rfl, rfl, ⟨rfl, rfl, rfl⟩, _, _, rfl, _, _, rfl, _, _, rfl, _, _, rfl, _, _, rfl, _, _, rfl, _, _, rfl, rfl, rfl⟩) fun G15 H15 st => ?_
    replace C := C.step st
    replace S := S.step st
    rw [if_neg (by rw [decide_eq_false (by omega)]; decide)]
    refine uT_of (ρ := [none, some (ti way), none, none, none, none, none, none, none]) (et_eq (ev_nm 1 rfl) ev_int) S.s (OwS.rpd (H := H15) (fp := []) ⟨_, _, rfl, _, _, [], [], rfl, rfl, ⟨rfl, rfl, rfl⟩, _, _, rfl, _, _, rfl, _, _, rfl, _, _, rfl, _, _, rfl, _, _, rfl, _, _, rfl, rfl, rfl⟩) fun G16 H16 st => ?_
    replace C := C.step st
    replace S := S.step st
    rw [if_neg (by rw [decide_eq_false (by omega)]; decide)]
    refine uT_of (ρ := [none, some (ti way), none, none, none, none, none, none, none]) (et_eq (ev_nm 1 rfl) ev_int) S.s (OwS.rpd (H := H16) (fp := []) ⟨_, _, rfl, _, _, [], [], rfl, rfl, ⟨rfl, rfl, rfl⟩, _, _, rfl, _, _, rfl, _, _, rfl, _, _, rfl, _, _, rfl, _, _, rfl, _, _, rfl, rfl, rfl⟩) fun G17 H17 st => ?_
    replace C := C.step st
    replace S := S.step st
    rw [if_pos (decide_eq_true hw)]
    refine ⟨_, rfl, .inl ⟨rfl, _, SqL.of (S.h pi hpim)⟩, _, rfl, ?_⟩
    refine uE_of (ρ := [none, none, none, none, none, none, none, none, none]) (ev_tupD (dd := [di 0, di 1]) (eva_cons ev_int (eva_cons ev_int eva_nil)) rfl (by show 2 ≤ sizeLine; decide)) S.s (OwS.rpd (H := H17) (fp := []) ⟨_, _, rfl, _, _, rfl, _, _, rfl, _, _, rfl, _, _, rfl, _, _, rfl, _, _, rfl, _, _, rfl, _, _, rfl, rfl, rfl⟩) fun vt G18 H18 ft st ot wt => ?_
    replace C := C.step st
    replace S := S.step st
    have lxs : pi.2.1.length = m := by rw [← (S.v pi hpim).length, lpi]
    have a0 := ck.a0
    have a1 := ck.a1
    refine ⟨pi.1, pi.2.1, c.at', vt, rfl, rfl, S.h pi hpim, a0, by omega, by omega, ?_⟩
    have hz : Hv K G18 (dF (fW W 0)) vt := by rw [fW_zero ok.w0]; exact ot.2
    have hv7 := hvl_ins c.at'.toNat (S.v pi hpim) hz
    have e7 : pi.2.2.take c.at'.toNat ++ dF (fW W 0) :: pi.2.2.drop c.at'.toNat = dRw W ((rows.getD c.i []).take c.at'.toNat ++ 0 :: (rows.getD c.i []).drop c.at'.toNat) := by
      rw [epi]
      show _ = List.map _ _
      rw [List.map_append, List.map_cons, List.map_take, List.map_drop]
    rw [e7] at hv7
    have S7 := S.row hpi hv7
    replace C := C.upd (a := pi.1) (o := .lst (pi.2.1.take c.at'.toNat ++ vt :: pi.2.1.drop c.at'.toNat)) (.tail _ (List.mem_map_of_mem (f := fun p : Rw => p.1) hpim))
    clear S
    have S := S7
    have D7 := hd.set c.i pi.1 (pi.2.1.take c.at'.toNat ++ vt :: pi.2.1.drop c.at'.toNat) ((rows.getD c.i []).take c.at'.toNat ++ 0 :: (rows.getD c.i []).drop c.at'.toNat)
    refine uT_of (ρ := [none, some (ti way), none, none, none, none, none, none, none]) (et_eq (ev_nm 1 rfl) ev_int) S.s (OwS.rpd (H := H) (fp := []) ⟨_, _, rfl, _, _, [], [], rfl, rfl, ⟨rfl, rfl, rfl⟩, _, _, rfl, _, _, rfl, _, _, rfl, _, _, rfl, _, _, rfl, _, _, rfl, _, _, rfl, rfl, rfl⟩) fun G19 H19 st => ?_
    replace C := C.step st
    replace S := S.step st
    rw [if_neg (by rw [decide_eq_false (by omega)]; decide)]
    exact fin _ _ _ S C (by unfold spW spR; rw [if_neg (by omega), hw]; exact D7) (adr (set_fst hpi _ _))
  have hn7 := hw
  clear hw
  by_cases hw : way = 8
  · refine uT_of (ρ := [none, some (ti way), none, none, none, none, none, none, none]) (et_eq (ev_nm 1 rfl) ev_int) S.s (OwS.rpd (H := H8) (fp := []) ⟨_, _, rfl, _, _, [], [], rfl, rfl, ⟨rfl, rfl, rfl⟩, _, _, rfl, _, _, rfl, _, _, rfl, _, _, rfl, _, _, rfl, _, _, rfl, _, _, rfl, rfl, rfl⟩) fun G11 H11 st => ?_
    replace C := C.step st
    replace S := S.step st
    rw [if_neg (by rw [decide_eq_false (by omega)]; decide)]
    refine uT_of (ρ := [none, some (ti way), none, none, none, none, none, none, none]) (et_eq (ev_nm 1 rfl) ev_int) S.s (OwS.rpd (H := H11) (fp := []) ⟨_, _, rfl, _, _, [], [], rfl, rfl, ⟨rfl, rfl, rfl⟩, _, _, rfl, _, _, rfl, _, _, rfl, _, _, rfl, _, _, rfl, _, _, rfl, _, _, rfl, rfl, rfl⟩) fun G12 H12 st => ?_
    replace C := C.step st
    replace S := S.step st
    rw [if_neg (by rw [decide_eq_false (by omega)]; decide)]
    refine uT_of (ρ := [none, some (ti way), none, none, none, none, none, none, none]) (et_eq (ev_nm 1 rfl) ev_int) S.s (OwS.rpd (H := H12) (fp := []) ⟨_, _, rfl, _, _, [], [], rfl, rfl, ⟨rfl, rfl, rfl⟩, _, _, rfl, _, _, rfl, _, _, rfl, _, _, rfl, _, _, rfl, _, _, rfl, _, _, rfl, rfl, rfl⟩) fun G13 H13 st => ?_
    replace C := C.step st
    replace S := S.step st
    rw [if_neg (by rw [decide_eq_false (by omega)]; decide)]
    refine uT_of (ρ := [none, some (ti way), none, none, none, none, none, none, none]) (et_eq (ev_nm 1 rfl) ev_int) S.s (OwS.rpd (H := H13) (fp := []) ⟨_, _, rfl, _, _, [], [], rfl, rfl, ⟨rfl, rfl, rfl⟩, _, _, rfl, _, _, rfl, _, _, rfl, _, _, rfl, _, _, rfl, _, _, rfl, _, _, rfl, rfl, rfl⟩) fun G14 H14 st => ?_
    replace C := C.step st
    replace S := S.step st
    rw [if_neg (by rw [decide_eq_false (by omega)]; decide)]
    refine uT_of (ρ := [none, some (ti way), none, none, none, none, none, none, none]) (et_eq (ev_nm 1 rfl) ev_int) S.s (OwS.rpd (H := H14) (fp := []) ⟨_, _, rfl, _, _, [], [], rfl, rfl, ⟨rfl, rfl, rfl⟩, _, _, rfl, _, _, rfl, _, _, rfl, _, _, rfl, _, _, rfl, _, _, rfl, _, _, rfl, rfl, rfl⟩) fun G15 H15 st => ?_
    replace C := C.step st
    replace S := S.step st
    rw [if_neg (by rw [decide_eq_false (by omega)]; decide)]
    refine uT_of (ρ := [none, some (ti way), none, none, none, none, none, none, none]) (et_eq (ev_nm 1 rfl) ev_int) S.s (OwS.rpd (H := H15) (fp := []) ⟨_, _, rfl, _, _, [], [], rfl, rfl, ⟨rfl, rfl, rfl⟩, _, _, rfl, _, _, rfl, _, _, rfl, _, _, rfl, _, _, rfl, _, _, rfl, _, _, rfl, rfl, rfl⟩) fun G16 H16 st => ?_
    replace C := C.step st
    replace S := S.step st
    rw [if_neg (by rw [decide_eq_false (by omega)]; decide)]
    refine uT_of (ρ := [none, some (ti way), none, none, none, none, none, none, none]) (et_eq (ev_nm 1 rfl) ev_int) S.s (OwS.rpd (H := H16) (fp := []) ⟨_, _, rfl, _, _, [], [], rfl, rfl, ⟨rfl, rfl, rfl⟩, _, _, rfl, _, _, rfl, _, _, rfl, _, _, rfl, _, _, rfl, _, _, rfl, _, _, rfl, rfl, rfl⟩) fun G17 H17 st => ?_
    replace C := C.step st
    replace S := S.step st
    rw [if_neg (by rw [decide_eq_false (by omega)]; decide)]
    refine uT_of (ρ := [none, some (ti way), none, none, none, none, none, none, none]) (et_eq (ev_nm 1 rfl) ev_int) S.s (OwS.rpd (H := H17) (fp := []) ⟨_, _, rfl, _, _, [], [], rfl, rfl, ⟨rfl, rfl, rfl⟩, _, _, rfl, _, _, rfl, _, _, rfl, _, _, rfl, _, _, rfl, _, _, rfl, _, _, rfl, rfl, rfl⟩) fun G18 H18 st => ?_
    replace C := C.step st
    replace S := S.step st
    rw [if_pos (decide_eq_true hw)]
    have lxs : pi.2.1.length = m := by rw [← (S.v pi hpim).length, lpi]
    have a0 := ck.a0
    have a1 := ck.a1
    refine ⟨_, rfl, .inl ⟨rfl, _, SqL.of (S.h pi hpim)⟩, _, rfl, pi.1, pi.2.1, c.at', c.at'.toNat, pi.2.1[c.at'.toNat]'(by omega), rfl, rfl, S.h pi hpim, by omega, by omega, seqIndex_of a0 (by omega), List.getElem?_eq_getElem (by omega), ?_⟩
    have hv8 := hvl_del c.at'.toNat (S.v pi hpim)
    have e8 : pi.2.2.eraseIdx c.at'.toNat = dRw W ((rows.getD c.i []).eraseIdx c.at'.toNat) := by
      rw [epi]
      show (List.map _ _).eraseIdx _ = List.map _ _
      rw [erase_map]
    rw [e8] at hv8
    have S8 := S.row hpi hv8
    replace C := C.upd (a := pi.1) (o := .lst (pi.2.1.eraseIdx c.at'.toNat)) (.tail _ (List.mem_map_of_mem (f := fun p : Rw => p.1) hpim))
    clear S
    have S := S8
    have D8 := hd.set c.i pi.1 (pi.2.1.eraseIdx c.at'.toNat) ((rows.getD c.i []).eraseIdx c.at'.toNat)
    exact fin _ _ _ S C (by unfold spW spR; rw [if_neg (by omega), hw]; exact D8) (adr (set_fst hpi _ _))
  have hn8 := hw
  clear hw
  refine uT_of (ρ := [none, some (ti way), none, none, none, none, none, none, none]) (et_eq (ev_nm 1 rfl) ev_int) S.s (OwS.rpd (H := H8) (fp := []) ⟨_, _, rfl, _, _, [], [], rfl, rfl, ⟨rfl, rfl, rfl⟩, _, _, rfl, _, _, rfl, _, _, rfl, _, _, rfl, _, _, rfl, _, _, rfl, _, _, rfl, rfl, rfl⟩) fun G11 H11 st => ?_
  replace C := C.step st
  replace S := S.step st
  rw [if_neg (by rw [decide_eq_false (by omega)]; decide)]
  refine uT_of (ρ := [none, some (ti way), none, none, none, none, none, none, none]) (et_eq (ev_nm 1 rfl) ev_int) S.s (OwS.rpd (H := H11) (fp := []) ⟨_, _, rfl, _, _, [], [], rfl, rfl, ⟨rfl, rfl, rfl⟩, _, _, rfl, _, _, rfl, _, _, rfl, _, _, rfl, _, _, rfl, _, _, rfl, _, _, rfl, rfl, rfl⟩) fun G12 H12 st => ?_
  replace C := C.step st
  replace S := S.step st
  rw [if_neg (by rw [decide_eq_false (by omega)]; decide)]
  refine uT_of (ρ := [none, some (ti way), none, none, none, none, none, none, none]) (et_eq (ev_nm 1 rfl) ev_int) S.s (OwS.rpd (H := H12) (fp := []) ⟨_, _, rfl, _, _, [], [], rfl, rfl, ⟨rfl, rfl, rfl⟩, _, _, rfl, _, _, rfl, _, _, rfl, _, _, rfl, _, _, rfl, _, _, rfl, _, _, rfl, rfl, rfl⟩) fun G13 H13 st => ?_
  replace C := C.step st
  replace S := S.step st
  rw [if_neg (by rw [decide_eq_false (by omega)]; decide)]
  refine uT_of (ρ := [none, some (ti way), none, none, none, none, none, none, none]) (et_eq (ev_nm 1 rfl) ev_int) S.s (OwS.rpd (H := H13) (fp := []) ⟨_, _, rfl, _, _, [], [], rfl, rfl, ⟨rfl, rfl, rfl⟩, _, _, rfl, _, _, rfl, _, _, rfl, _, _, rfl, _, _, rfl, _, _, rfl, _, _, rfl, rfl, rfl⟩) fun G14 H14 st => ?_
  replace C := C.step st
  replace S := S.step st
  rw [if_neg (by rw [decide_eq_false (by omega)]; decide)]
  refine uT_of (ρ := [none, some (ti way), none, none, none, none, none, none, none]) (et_eq (ev_nm 1 rfl) ev_int) S.s (OwS.rpd (H := H14) (fp := []) ⟨_, _, rfl, _, _, [], [], rfl, rfl, ⟨rfl, rfl, rfl⟩, _, _, rfl, _, _, rfl, _, _, rfl, _, _, rfl, _, _, rfl, _, _, rfl, _, _, rfl, rfl, rfl⟩) fun G15 H15 st => ?_
  replace C := C.step st
  replace S := S.step st
  rw [if_neg (by rw [decide_eq_false (by omega)]; decide)]
  refine uT_of (ρ := [none, some (ti way), none, none, none, none, none, none, none]) (et_eq (ev_nm 1 rfl) ev_int) S.s (OwS.rpd (H := H15) (fp := []) ⟨_, _, rfl, _, _, [], [], rfl, rfl, ⟨rfl, rfl, rfl⟩, _, _, rfl, _, _, rfl, _, _, rfl, _, _, rfl, _, _, rfl, _, _, rfl, _, _, rfl, rfl, rfl⟩) fun G16 H16 st => ?_
  replace C := C.step st
  replace S := S.step st
  rw [if_neg (by rw [decide_eq_false (by omega)]; decide)]
  refine uT_of (ρ := [none, some (ti way), none, none, none, none, none, none, none]) (et_eq (ev_nm 1 rfl) ev_int) S.s (OwS.rpd (H := H16) (fp := []) ⟨_, _, rfl, _, _, [], [], rfl, rfl, ⟨rfl, rfl, rfl⟩, _, _, rfl, _, _, rfl, _, _, rfl, _, _, rfl, _, _, rfl, _, _, rfl, _, _, rfl, rfl, rfl⟩) fun G17 H17 st => ?_
  replace C := C.step st
  replace S := S.step st
  rw [if_neg (by rw [decide_eq_false (by omega)]; decide)]
  refine uT_of (ρ := [none, some (ti way), none, none, none, none, none, none, none]) (et_eq (ev_nm 1 rfl) ev_int) S.s (OwS.rpd (H := H17) (fp := []) ⟨_, _, rfl, _, _, [], [], rfl, rfl, ⟨rfl, rfl, rfl⟩, _, _, rfl, _, _, rfl, _, _, rfl, _, _, rfl, _, _, rfl, _, _, rfl, _, _, rfl, rfl, rfl⟩) fun G18 H18 st => ?_
  replace C := C.step st
  replace S := S.step st
  rw [if_neg (by rw [decide_eq_false (by omega)]; decide)]
  exact fin _ _ _ S C (by unfold spW spR; rw [if_neg (by omega), if_neg (by omega), if_neg (by omega), if_neg (by omega), if_neg (by omega), if_neg (by omega), if_neg (by omega), if_neg (by omega), if_neg (by omega)]; exact hd) (adr rfl)
end
end K10
namespace K10
open PySem L2 Fra
section
variable {P : Program} {w : World} {K : PySem.W.Frag} {mg : Str → Option Value} {base : Heap}
theorem one_hit (d v : Int) : ∀ {l : List Int}, l.Nodup → (l.map fun x => if d = x then v else 0).sum = if d ∈ l then v else 0
  | [], _ => by simp
  | a :: l, nd => by
    have n2 := List.nodup_cons.mp nd
    rw [List.map_cons, List.sum_cons, one_hit d v n2.2]
    by_cases e : d = a
    · subst e
      rw [if_pos rfl, if_neg n2.1, if_pos (.head _)]; omega
    · rw [if_neg e]
      by_cases m : d ∈ l
      · rw [if_pos m, if_pos (.tail _ m)]; omega
      · rw [if_neg m, if_neg fun z => (List.mem_cons.mp z).elim e m]; rfl
theorem sum_add (f g : Int → Int) : ∀ l : List Int, (l.map fun x => f x + g x).sum = (l.map f).sum + (l.map g).sum
  | [] => rfl
  | a :: l => by
    rw [List.map_cons, List.map_cons, List.map_cons, List.sum_cons, List.sum_cons, List.sum_cons, sum_add f g l]; omega
theorem dealD_in (y : Int) (c : List Int) (A : Nat) (m : Nat) (hm : m < A) : 0 ≤ (dealD y c A).getD m 0 ∧ (dealD y c A).getD m 0 ≤ c.length := by
  obtain ⟨_, h2, h3⟩ := dealK_ok (strF (y / 4) (A + 1)) c A A
  have hl : m < (dealD y c A).length := by show m < (dealK (strF (y / 4) (A + 1)) c A A).2.length; omega
  rw [List.getD_eq_getElem?_getD, List.getElem?_eq_getElem hl]
  exact h3 _ (List.getElem_mem hl)
theorem rowF_sum {c : List Int} {A m : Nat} (hm : m < A) : ∀ cells : List Int, (rowF cells c A (0 + (m : Int))).sum = sumW cells
  | [] => by
    unfold rowF topF sumW
    show ((numsF (c.length + 1)).map fun _ => (0 : Int)).sum = 0
    induction numsF (c.length + 1) with
    | nil => rfl
    | cons _ _ ih => rw [List.map_cons, List.sum_cons, ih]; rfl
  | y :: ys => by
    have ih := rowF_sum (c := c) hm ys
    have e : rowF (y :: ys) c A (0 + (m : Int)) = (numsF (c.length + 1)).map fun x => (if (dealD y c A).getD (0 + (m : Int)).toNat 0 = x then wF y else 0) + topF ys c A (0 + (m : Int)) x := by
      unfold rowF
      refine List.map_congr_left fun x _ => ?_
      unfold topF
      rw [List.filter_cons]
      by_cases q : (dealD y c A).getD (0 + (m : Int)).toNat 0 = x
      · rw [if_pos (decide_eq_true q), if_pos q, List.map_cons, List.sum_cons]
      · rw [if_neg (by rw [decide_eq_false q]; decide), if_neg q]
        exact (Int.zero_add _).symm
    have i := dealD_in y c A (0 + (m : Int)).toNat (by omega)
    rw [e, sum_add, one_hit _ _ (nums_nodup _), if_pos (mem_nums.mpr (by omega))]
    have e2 : sumW (y :: ys) = wF y + sumW ys := by unfold sumW; rw [List.map_cons, List.sum_cons]
    rw [e2]
    have ih' : ((numsF (c.length + 1)).map (topF ys c A (0 + (m : Int)))).sum = sumW ys := ih
    rw [ih']
theorem count_set10 {x v : Int} : ∀ {l : List Int} {a : Nat} {u : Int}, l[a]? = some u → ((l.set a v).count x : Int) + (if u = x then 1 else 0) = (l.count x : Int) + (if v = x then 1 else 0)
  | [], a, u, h => by cases a <;> cases h
  | y :: l, 0, u, h => by
    cases h
    rw [List.set_cons_zero, List.count_cons, List.count_cons]
    by_cases h1 : y = x
    · by_cases h2 : v = x
      · rw [if_pos h1, if_pos h2, if_pos (by simpa using h2), if_pos (by simpa using h1)]
      · rw [if_pos h1, if_neg h2, if_neg (by simpa using h2), if_pos (by simpa using h1)]; omega
    · by_cases h2 : v = x
      · rw [if_neg h1, if_pos h2, if_pos (by simpa using h2), if_neg (by simpa using h1)]; omega
      · rw [if_neg h1, if_neg h2, if_neg (by simpa using h2), if_neg (by simpa using h1)]
  | y :: l, a + 1, u, h => by
    have ih := count_set10 (x := x) (v := v) (l := l) (a := a) (u := u) h
    rw [List.set_cons_succ, List.count_cons, List.count_cons]
    omega
theorem getD_set10 (l : List Int) (i j : Nat) (v : Int) (h : i < l.length) : (l.set i v).getD j 0 = if i = j then v else l.getD j 0 := by
  rw [List.getD_eq_getElem?_getD, List.getElem?_set]
  by_cases e : i = j
  · rw [if_pos e, if_pos e, if_pos h]; rfl
  · rw [if_neg e, if_neg e, List.getD_eq_getElem?_getD]
structure DealI (c : List Int) (A : Nat) (off : Int) (k : Nat) (s : List Int × List Int) : Prop where
  sum : ∀ x : Int, 0 ≤ x → x < c.length → (s.2.count x : Int) + s.1.getD x.toNat 0 = c.getD x.toNat 0
  nn : ∀ x : Int, 0 ≤ x → x < c.length → 0 ≤ s.1.getD x.toNat 0
  free : ∀ a : Nat, a < A → (∀ q : Nat, q < k → (((0 : Int) + (q : Int) + off) % A).toNat ≠ a) → s.2[a]? = some (c.length : Int)
theorem deal_inv (sm c : List Int) (A : Nat) (hc : ∀ x ∈ c, 0 ≤ x) (hA : 0 < A) : ∀ k, k ≤ A → DealI c A (sm.getD A 0) k (dealK sm c A k)
  | 0, _ => by
    refine ⟨fun x x0 x1 => ?_, fun x x0 x1 => ?_, fun a ha _ => ?_⟩
    · have : ((numsF A).map fun _ => (c.length : Int)).count x = 0 := List.count_eq_zero.mpr fun z => by
        obtain ⟨_, _, e⟩ := List.mem_map.mp z
        omega
      show (((numsF A).map fun _ => (c.length : Int)).count x : Int) + c.getD x.toNat 0 = _
      rw [this]; omega
    · show 0 ≤ c.getD x.toNat 0
      rw [List.getD_eq_getElem?_getD, List.getElem?_eq_getElem (show x.toNat < c.length by omega)]
      exact hc _ (List.getElem_mem _)
    · show ((numsF A).map fun _ => (c.length : Int))[a]? = _
      rw [List.getElem?_map, List.getElem?_eq_getElem (by rw [nums_len]; exact ha)]; rfl
  | k + 1, hk => by
    have ih := deal_inv sm c A hc hA k (by omega)
    obtain ⟨l1, l2, _⟩ := dealK_ok sm c A k
    show DealI c A (sm.getD A 0) (k + 1) (dealT sm c.length A k (dealK sm c A k))
    generalize dealK sm c A k = s at ih l1 l2
    have w := wantF_ok sm c.length k s.1
    have A0 : (0 : Int) < A := by omega
    have md : ∀ q : Nat, 0 ≤ ((0 : Int) + (q : Int) + sm.getD A 0) % A ∧ ((0 : Int) + (q : Int) + sm.getD A 0) % A < A := fun q => ⟨Int.emod_nonneg _ (by omega), Int.emod_lt_of_pos _ A0⟩
    unfold dealT
    generalize wantF sm c.length k s.1 = x at *
    split
    · rename_i hq
      rw [Bool.and_eq_true] at hq
      have h1 := of_decide_eq_true hq.1
      have h2 := of_decide_eq_true hq.2
      have hak := md k
      have hfree := ih.free (((0 : Int) + (k : Int) + sm.getD A 0) % A).toNat (by omega) fun q hqk e => by
        have hq1 := md q
        have e2 : ((0 : Int) + (q : Int) + sm.getD A 0) % A = ((0 : Int) + (k : Int) + sm.getD A 0) % A := by omega
        have d : (A : Int) ∣ ((0 : Int) + (k : Int) + sm.getD A 0) - ((0 : Int) + (q : Int) + sm.getD A 0) := Int.dvd_of_emod_eq_zero (by rw [Int.sub_emod, e2, Int.sub_self, Int.zero_emod])
        have := Int.le_of_dvd (by omega) d
        omega
      refine ⟨fun y y0 y1 => ?_, fun y y0 y1 => ?_, fun a ha hn => ?_⟩
      · have hs := ih.sum y y0 y1
        have hcs := count_set10 (x := y) (v := x) hfree
        show ((s.2.set _ x).count y : Int) + (s.1.set x.toNat (s.1.getD x.toNat 0 - 1)).getD y.toNat 0 = _
        rw [getD_set10 _ _ _ _ (by omega)]
        rw [if_neg (show ¬ (c.length : Int) = y by omega)] at hcs
        by_cases e : x = y
        · subst e
          rw [if_pos rfl] at hcs
          rw [if_pos rfl]
          omega
        · rw [if_neg e] at hcs
          rw [if_neg (by omega)]
          omega
      · show 0 ≤ (s.1.set x.toNat (s.1.getD x.toNat 0 - 1)).getD y.toNat 0
        rw [getD_set10 _ _ _ _ (by omega)]
        split
        · omega
        · exact ih.nn y y0 y1
      · show (s.2.set _ x)[a]? = _
        rw [List.getElem?_set, if_neg (hn k (by omega))]
        exact ih.free a ha fun q hq => hn q (by omega)
    · exact ⟨ih.sum, ih.nn, fun a ha hn => ih.free a ha fun q hq => hn q (by omega)⟩
theorem deal_few (y : Int) {c : List Int} {A : Nat} (hc : ∀ x ∈ c, 0 ≤ x) (hA : 0 < A) {x : Int} (x0 : 0 ≤ x) (x1 : x < c.length) : ((dealD y c A).count x : Int) ≤ c.getD x.toNat 0 := by
  have h := deal_inv (strF (y / 4) (A + 1)) c A hc hA A (Nat.le_refl _)
  have h1 := h.sum x x0 x1
  have h2 := h.nn x x0 x1
  unfold dealD
  omega
theorem nums_getD (l : List Int) (g : Int → Int) : ((numsF l.length).map fun a => g (l.getD a.toNat 0)) = l.map g := by
  refine List.ext_getElem? fun n => ?_
  rw [List.getElem?_map, List.getElem?_map]
  by_cases hn : n < l.length
  · have e1 : (numsF l.length)[n]? = some (0 + (n : Int)) := by
      unfold numsF
      rw [List.getElem?_map, List.getElem?_range hn]; rfl
    rw [e1, List.getElem?_eq_getElem hn]
    show some (g (l.getD (0 + (n : Int)).toNat 0)) = some (g l[n])
    rw [show (0 + (n : Int)).toNat = n by omega, List.getD_eq_getElem?_getD, List.getElem?_eq_getElem hn]; rfl
  · rw [List.getElem?_eq_none (by rw [nums_len]; omega), List.getElem?_eq_none (by omega)]; rfl
theorem hits (x v : Int) : ∀ l : List Int, (l.map fun d => if d = x then v else 0).sum = v * (l.count x : Int)
  | [] => by rw [List.map_nil, List.sum_nil, List.count_nil]; simp
  | d :: l => by
    rw [List.map_cons, List.sum_cons, hits x v l, List.count_cons]
    by_cases h : d = x
    · rw [if_pos h, if_pos (by simpa using h), Int.natCast_add, Int.mul_add]; omega
    · rw [if_neg h, if_neg (by simpa using h)]; simp
theorem col_le {c : List Int} {A : Nat} (hc : ∀ x ∈ c, 0 ≤ x) (hA : 0 < A) {x : Int} (x0 : 0 ≤ x) (x1 : x < c.length) : ∀ cells : List Int, ((numsF A).map fun a => topF cells c A a x).sum ≤ c.getD x.toNat 0 * sumW cells
  | [] => by
    have z : ((numsF A).map fun a => topF [] c A a x).sum = 0 := by
      unfold topF
      induction numsF A with
      | nil => rfl
      | cons _ _ ih => rw [List.map_cons, List.sum_cons, ih]; rfl
    rw [z]
    show (0 : Int) ≤ _ * 0
    rw [Int.mul_zero]; exact Int.le_refl _
  | y :: ys => by
    have ih := col_le hc hA x0 x1 ys
    have dl : (dealD y c A).length = A := (dealK_ok (strF (y / 4) (A + 1)) c A A).2.1
    have e : ((numsF A).map fun a => topF (y :: ys) c A a x) = (numsF A).map fun a => (if (dealD y c A).getD a.toNat 0 = x then wF y else 0) + topF ys c A a x := by
      refine List.map_congr_left fun a _ => ?_
      unfold topF
      rw [List.filter_cons]
      by_cases q : (dealD y c A).getD a.toNat 0 = x
      · rw [if_pos (decide_eq_true q), if_pos q, List.map_cons, List.sum_cons]
      · rw [if_neg (by rw [decide_eq_false q]; decide), if_neg q]
        exact (Int.zero_add _).symm
    have e2 : sumW (y :: ys) = wF y + sumW ys := by unfold sumW; rw [List.map_cons, List.sum_cons]
    have e3 : ((numsF A).map fun a => if (dealD y c A).getD a.toNat 0 = x then wF y else 0).sum = wF y * ((dealD y c A).count x : Int) := by
      have := nums_getD (dealD y c A) fun d => if d = x then wF y else 0
      rw [dl] at this
      rw [this]
      exact hits x (wF y) _
    rw [e, sum_add, e2, Int.mul_add, e3]
    have h1 := deal_few y hc hA x0 x1
    have h2 := (wF_ok y).1
    have h3 : wF y * ((dealD y c A).count x : Int) ≤ wF y * c.getD x.toNat 0 := Int.mul_le_mul_of_nonneg_left h1 (by omega)
    rw [Int.mul_comm (c.getD x.toNat 0) (wF y)]
    omega
abbrev tSh (W : Int) (rows : List (List Int)) : Tr := .ow (rows.map (tRowW W))
theorem er_tRowW' (W : Int) (tops : List Int) : er (tRowW W tops) = dFs W tops := er_ow_map _ _
theorem er_tSh (W : Int) (rows : List (List Int)) : er (tSh W rows) = dSh W rows := by
  rw [er_ow_map]
  congr 1
  exact List.map_congr_left fun r _ => er_tRowW' W r
theorem lf_tSh (W : Int) (rows : List (List Int)) : lfT (tSh W rows) = true := by
  refine lfTs_of fun t ht => ?_
  obtain ⟨r, _, rfl⟩ := List.mem_map.mp ht
  refine lfTs_of fun t ht => ?_
  obtain ⟨x, _, rfl⟩ := List.mem_map.mp ht
  rfl
theorem gd_tSh (W : Int) (rows : List (List Int)) : gdT (tSh W rows) = true := by
  refine gdTs_of fun t ht => ?_
  obtain ⟨r, _, rfl⟩ := List.mem_map.mp ht
  refine gdTs_of fun t ht => ?_
  obtain ⟨x, _, rfl⟩ := List.mem_map.mp ht
  rfl
theorem okD_dFs (W : Int) (l : List Int) : okD (dFs W l) = true := okD_lst (fun s => okD_dF (fW W s)) l
theorem okD_sh (W : Int) (rows : List (List Int)) : okD (dSh W rows) = true := okD_lst (okD_dFs W) rows
theorem dpD_sh (W : Int) (rows : List (List Int)) : dpD (dSh W rows) ≤ 50 := Nat.le_trans (dpD_lst (n := 2) fun d hd => by
  obtain ⟨r, _, rfl⟩ := List.mem_map.mp hd
  exact dpD_lst (n := 1) fun d hd => by
    obtain ⟨s, _, rfl⟩ := List.mem_map.mp hd
    exact dpD_dF _) (by decide)
theorem rows_fz {K : PySem.W.Frag} {G H : Hp} : ∀ {rs : List (List Dv)} {vs : List V} {fq : List Addr}, OwL K G H (rs.map fun ds => .ow (ds.map .fz)) vs fq → ∃ ps : List Rw, vs = ps.map (fun p => V.ref p.1) ∧ fq = ps.map (fun p => p.1) ∧ ps.map (fun p => p.2.2) = rs ∧ ∀ p ∈ ps, H p.1 = some (.lst p.2.1) ∧ HvL K G p.2.2 p.2.1
  | [], _, _, ⟨h1, h2⟩ => ⟨[], h1, h2, rfl, fun _ z => nomatch z⟩
  | ds :: rs, _, _, ⟨v, r, f1, f2, h1, h2, ⟨a, xs, fa, g1, g2, g3, g4⟩, h4⟩ => by
    obtain ⟨ps, e1, e2, e3, e4⟩ := rows_fz h4
    obtain ⟨i1, i2⟩ := fz_ow g3
    subst h1 h2 e1 e2 g1 g4 i2
    refine ⟨(a, xs, ds) :: ps, rfl, rfl, by rw [List.map_cons, e3], fun p hp => ?_⟩
    rcases List.mem_cons.mp hp with rfl | hp
    · exact ⟨g2, i1⟩
    · exact e4 p hp
theorem sh_tr (W : Int) (rows : List (List Int)) : rows.map (tRowW W) = (rows.map (dRw W)).map fun ds => .ow (ds.map .fz) := by
  rw [List.map_map]
  refine List.map_congr_left fun r _ => ?_
  show Tr.ow (List.map _ _) = Tr.ow (List.map _ (List.map _ _))
  rw [List.map_map]; rfl
theorem sh_of {G H : Hp} {W : Int} {rows : List (List Int)} {v : V} {f : List Addr} (s : Same G H) (o : Ow K G H (tSh W rows) v f) (nd : f.Nodup) (g : ∀ a ∈ f, G a = none) : ∃ l ps, v = .ref l ∧ f = l :: ps.map (fun p => p.1) ∧ ShS K G H l ps ∧ ShD ps W rows := by
  obtain ⟨l, vs, fq, rfl, hl, ol, rfl⟩ := o
  rw [sh_tr] at ol
  obtain ⟨ps, rfl, rfl, e3, e4⟩ := rows_fz ol
  exact ⟨l, ps, rfl, rfl, ⟨s, hl, nd, g l (.head _), fun p hp => g _ (.tail _ (List.mem_map_of_mem (f := fun p : Rw => p.1) hp)), fun p hp => (e4 p hp).1, fun p hp => (e4 p hp).2⟩, e3⟩
theorem owl_of {G H : Hp} {W : Int} : ∀ (ps : List Rw) (rows : List (List Int)), ps.map (fun p => p.2.2) = rows.map (dRw W) → (∀ p ∈ ps, H p.1 = some (.lst p.2.1) ∧ HvL K G p.2.2 p.2.1) → OwL K G H (rows.map (tRowW W)) (ps.map fun p => V.ref p.1) (ps.map fun p => p.1)
  | [], [], _, _ => ⟨rfl, rfl⟩
  | [], _ :: _, h, _ => by cases h
  | _ :: _, [], h, _ => by cases h
  | p :: ps, r :: rows, h, hp => by
    rw [List.map_cons, List.map_cons] at h
    injection h with h1 h2
    obtain ⟨h3, h4⟩ := hp p (.head _)
    rw [h1] at h4
    have ol := h4.owl (H := H)
    rw [List.map_map] at ol
    exact ⟨.ref p.1, _, [p.1], _, rfl, rfl, ⟨p.1, p.2.1, [], rfl, h3, ol, rfl⟩, owl_of ps rows h2 fun q hq => hp q (.tail _ hq)⟩
theorem RSf.swap {K : PySem.W.Frag} {G0 H0 G H : Hp} {ρ : En} {σ : St} {fp : List Addr} {j : Nat} {t : Tr} (r : RSf K G0 H0 G H ρ σ fp) (hj : ρ[j]? = some (some t)) :
    ∃ v f, σ[j]? = some (some v) ∧ Ow K G H t v f ∧ f.Nodup ∧ (∀ a ∈ f, G a = none) ∧ ∀ G2 H2 t2 f2, ShC f G H G2 H2 → Same G2 H2 → Ow K G2 H2 t2 v f2 → f2.Nodup → (∀ a ∈ f2, G2 a = none) → (∀ a ∈ f2, a ∈ f ∨ H a = none) → RS K G0 H0 G2 H2 (ρ.set j (some t2)) σ := by
  obtain ⟨v, f, fr, q1, q2, q3, q4⟩ := r.own.split hj
  have nda := List.nodup_append.mp (q4.nodup_iff.mp r.d)
  have qfp : ∀ a ∈ f, a ∈ fp := fun a ha => q4.mem_iff.mpr (List.mem_append_left _ ha)
  have rfp : ∀ a ∈ fr, a ∈ fp := fun a ha => q4.mem_iff.mpr (List.mem_append_right _ ha)
  have lt : j < ρ.length := by
    rcases Nat.lt_or_ge j ρ.length with z | z
    · exact z
    · rw [List.getElem?_eq_none z] at hj; cases hj
  refine ⟨v, f, q1, q2, nda.1, fun a ha => r.g a (qfp a ha), fun G2 H2 t2 f2 c s2 o2 nd2 g2 m2 => ?_⟩
  have q3' : OwS K G2 H2 (ρ.set j none) σ fr := (q3.agree (H2 := H2) fun a ha => by
    obtain ⟨o, ho⟩ := q3.there a ha
    rw [c.m a o (fun z => nda.2.2 a z a ha rfl) ho, ho]).mono c.g (Same.refl _)
  obtain ⟨fp', p1', p2'⟩ := q3'.put (get_set_none lt) o2
  rw [List.set_set, set_self q1] at p1'
  refine ⟨fp', ⟨r.st.g.trans c.g, fun b u hb => c.m b u (fun z => ?_) (r.st.h b u hb), s2, fun a h h' => ?_⟩, p1', fun a ha => ?_, fun a ha => ?_, ?_⟩
  · rw [r.n b (qfp b z)] at hb; cases hb
  · cases q : G a with
    | some u => exact r.st.n a h (by rw [q]; exact fun z => nomatch z)
    | none => exact r.st.h.free (c.n a q h')
  · rcases List.mem_append.mp (p2'.mem_iff.mp ha) with z | z
    · exact g2 a z
    · cases q : G2 a with
      | none => rfl
      | some u =>
        have := c.n a (r.g a (rfp a z)) (by rw [q]; exact fun z => nomatch z)
        obtain ⟨o, ho⟩ := q3.there a z
        rw [ho] at this; cases this
  · rcases List.mem_append.mp (p2'.mem_iff.mp ha) with z | z
    · rcases m2 a z with y | y
      · exact r.n a (qfp a y)
      · exact r.st.h.free y
    · exact r.n a (rfp a z)
  · refine p2'.nodup_iff.mpr (List.nodup_append.mpr ⟨nd2, nda.2.1, fun a ha b hb z => ?_⟩)
    subst z
    rcases m2 a ha with y | y
    · exact nda.2.2 a y a hb rfl
    · obtain ⟨o, ho⟩ := q3.there a hb
      rw [y] at ho; cases ho
abbrev s_law : Stmt := top 37
theorem sc_law : FnScope ["_law_script", "_law_many", "_law_counts_here", "_law_orders_here", "_law_cells", "_law_shares", "_law_table", "_law_kept", "_law_handed", "_law_found"] ["_law_script"] (defScope s_law) := ⟨rfl, rfl, rfl, by decide +kernel, rfl, by decide +kernel, by decide +kernel⟩
theorem eq_nil' (l : List Int) : eqD (.lst (l.map di)) (.lst []) = l.isEmpty := by cases l <;> rfl
theorem ok_law {f f1 f2 f3 f4 f5 f6 f7 f8 : Addr} {fd fd1 fd2 fd3 fd4 fd5 fd6 fd7 fd8 : FuncData} {k : Nat} (F : Fun K "law" "law" s_law f fd) (T : Txt mg) (K__law_cell_at : Kn P w K mg base CX0 (k + 1) "_law_cell_at" f1 fd1 ["_law_script", "_law_k"] (spT K rCell)) (K__law_counts : Kn P w K mg base CX0 (k + 2) "_law_counts" f2 fd2 ["_law_cell", "_law_many"] (spT K rCounts))
    (K__law_orders : Kn P w K mg base CX0 (k + 3) "_law_orders" f3 fd3 ["_law_cells", "_law_many"] (spT K rOrders)) (K_table_of : Kn P w K mg base CX0 (k + 2) "table_of" f4 fd4 ["counts", "orders"] (spT K rTab)) (K__law_drawn : Kn P w K mg base CX0 (k + 3) "_law_drawn" f5 fd5 ["_law_cells", "_law_counts_here", "_law_askers"] (spT K rDrawn))
    (K__law_due : Kn P w K mg base CX0 (k + 3) "_law_due" f6 fd6 ["_law_counts_here", "_law_askers", "_law_shares"] (spT K rDue)) (K_is_shares : Kn P w K mg base CX0 (k + 7) "is_shares" f7 fd7 ["table", "shares"] (spT K rIsSh)) (K__law_spoiled : Kn P w K mg base CX0 (k + 4) "_law_spoiled" f8 fd8 ["_law_shares", "_law_way", "_law_cell"] (spSpoil K)) : FnOk P w K mg base CX0 (k + 8) f fd ["_law_script"] (spT K rLaw) := by
  refine fn_ok F.d sc_law (fun dd t h => by obtain ⟨_, _, rfl, _⟩ := h; rfl) fun dd t h => ?_
  obtain ⟨ns, hns, rfl, rfl⟩ := h
  refine ⟨_, .inl rfl, ?_⟩
  have big : 1000 < sizeLine := by decide
  have r1 : k + 1 ≤ k + 7 := by omega
  have r2 : k + 2 ≤ k + 7 := by omega
  have r3 : k + 3 ≤ k + 7 := by omega
  have n0 := Int.emod_nonneg (cellF ns 0) (show (7 : Int) ≠ 0 by decide)
  have n1 := Int.emod_lt_of_pos (cellF ns 0) (show (0 : Int) < 7 by decide)
  obtain ⟨n, en⟩ : ∃ n : Nat, cellF ns 0 % 7 = (n : Int) := ⟨(cellF ns 0 % 7).toNat, by omega⟩
  have hn : n ≤ 6 := by omega
  refine rns_cons (rn_set 1 (EvS.to (t' := ti n) (Ev.s (ev_mod (ev_call K__law_cell_at r1 (eva_cons (ev_nm 0 rfl) (eva_cons ev_int eva_nil)) ⟨ns, 0, by decide, rfl, rfl⟩) ev_int (by decide))) (by rw [en])) (fun _ => sc_law.nd)) ?_
  show Rns _ _ [some (.fz (dis ns)), some (ti n), none, none, none, none, none, none, none, none] _
  refine rns_cons (rn_set 2 (Ev.s (Ev.as (d := dis (countsS (cellF ns 1) n)) (ev_call K__law_counts r2 (eva_cons (ev_call K__law_cell_at r1 (eva_cons (ev_nm 0 rfl) (eva_cons ev_int eva_nil)) ⟨ns, 1, by decide, rfl, rfl⟩) (eva_cons (ev_nm 1 rfl) eva_nil)) ⟨cellF ns 1, n, by omega, rfl, rfl⟩) (er_tInts _))) (fun _ => sc_law.nd)) ?_
  have cl : (countsS (cellF ns 1) n).length = n := by unfold countsS; rw [List.length_map]; exact (strK_ok _ _).2.2
  have cok : ∀ x ∈ countsS (cellF ns 1) n, 0 ≤ x ∧ x ≤ 9 := fun x hx => by
    obtain ⟨y, _, rfl⟩ := List.mem_map.mp hx
    exact cntG_ok y
  generalize countsS (cellF ns 1) n = cs at cl cok
  show Rns _ _ [some (.fz (dis ns)), some (ti n), some (.fz (dis cs)), none, none, none, none, none, none, none] _
  have m0 := Int.emod_nonneg (cellF ns 0 / 7) (show (6 : Int) ≠ 0 by decide)
  have m1 := Int.emod_lt_of_pos (cellF ns 0 / 7) (show (0 : Int) < 6 by decide)
  obtain ⟨m, em⟩ : ∃ m : Nat, 1 + cellF ns 0 / 7 % 6 = (m : Int) := ⟨(1 + cellF ns 0 / 7 % 6).toNat, by omega⟩
  have cd7 : CDivB (cellF ns 0) 7 := ⟨by decide, small_lt (by decide) (by decide)⟩
  have ml : ((numsF m).map fun x => cellF ns (2 + x)).length = m := by rw [List.length_map, nums_len]
  refine rns_cons (rn_set 3 (Ev.s (Ev.as (d := .lst ((ordL ((numsF m).map fun x => cellF ns (2 + x)) n ((numsF m).map fun x => cellF ns (2 + x)).length).map dis)) (ev_call K__law_orders r3 (eva_cons (ev_lcm (own := ["_law_k"]) (fr := [0]) (numsF m) di (fun x => ti (cellF ns (2 + x))) (fun i => lcs ⟨rfl, rfl, by decide +kernel, by decide +kernel, by decide +kernel, by decide +kernel⟩) (EvI.to (evi_range1 T.b_range (ev_add ev_int (ev_mod (ev_div (ev_call K__law_cell_at r1 (eva_cons (ev_nm 0 rfl) (eva_cons ev_int eva_nil)) ⟨ns, 0, by decide, rfl, rfl⟩) ev_int cd7) ev_int (by decide))) ?_) ?_) (evg_nm 0 (fun _ => by show List.Nodup (["_law_k", "_law_script"] : List Str); decide)) (by decide) (by rw [nums_len]; omega) (fun x hx => ⟨_, rfl, by
      have := mem_nums.mp hx
      exact ev_call K__law_cell_at r1 (eva_cons (ev_nm 1 rfl) (eva_cons (ev_add ev_int (ev_nm 0 rfl)) eva_nil)) ⟨ns, 2 + x, by omega, rfl, rfl⟩⟩) (fun dd => by cases dd <;> rfl)) (eva_cons (ev_nm 1 rfl) eva_nil)) ⟨(numsF m).map fun x => cellF ns (2 + x), n, hn, by omega, ?_, rfl⟩) (er_tRows _))) (fun _ => sc_law.nd)) ?_
  · rw [em]; omega
  · rw [em, Int.toNat_natCast]
    unfold numsF
    rw [List.map_map]; rfl
  rotate_left
  · show [er (.ow _), _] = _
    rw [er_map]; rfl
  obtain ⟨ol, oo⟩ := ordL_ok ((numsF m).map fun x => cellF ns (2 + x)) n ((numsF m).map fun x => cellF ns (2 + x)).length
  rw [ml] at ol oo ⊢
  generalize ordL ((numsF m).map fun x => cellF ns (2 + x)) n m = os at ol oo
  have ok : TabOk cs os := ⟨by omega, cok, by omega, by omega, fun o ho => (oo o ho).1, fun o ho => by rw [cl]; exact (oo o ho).2⟩
  have o6 := ok.o6
  have o1 := ok.o1
  have olen : ∀ o ∈ os, o.length ≤ 6 := fun o ho => ok.olen ho
  show Rns _ _ [some (.fz (dis ns)), some (ti n), some (.fz (dis cs)), some (.fz (.lst (os.map dis))), none, none, none, none, none, none] _
  have e28 : er (.ow ((cutD (ns.map di) (some 10) (some 14)).map .fz)) = dis (cutD ns (some 10) (some 14)) := by rw [er_fzs, cutD_map]
  have c28 : (cutD ns (some 10) (some 14)).length ≤ 4 := by
    have := cutD_nat ns 10 14
    rw [show ((10 : Nat) : Int) = 10 from rfl, show ((14 : Nat) : Int) = 14 from rfl] at this
    rw [this, List.length_take, List.length_drop]; omega
  refine rns_cons (rn_set 4 (Ev.s (Ev.as (d := dis (cutD ns (some 10) (some 14))) (ev_slice (ev_nm 0 rfl) rfl (eo_some ev_int) (eo_some ev_int)) e28)) (fun _ => sc_law.nd)) ?_
  generalize cutD ns (some 10) (some 14) = l28 at c28
  show Rns _ _ [some (.fz (dis ns)), some (ti n), some (.fz (dis cs)), some (.fz (.lst (os.map dis))), some (.fz (dis l28)), none, none, none, none, none] _
  have dp28 : dpD (er (.fz (dis l28))) ≤ 50 := Nat.le_trans (dpD_dis l28) (by decide)
  obtain ⟨cells, c1, c6, hcells⟩ : ∃ cells : List Int, 1 ≤ cells.length ∧ cells.length ≤ 6 ∧ Rn (famD P w K mg base ["_law_script", "_law_many", "_law_counts_here", "_law_orders_here", "_law_cells", "_law_shares", "_law_table", "_law_kept", "_law_handed", "_law_found"] "law" (defScope s_law) f (k + 7)) ((defBody s_law).getD 4 (.Pass ⟨0, 0, 0, 0⟩)) [some (.fz (dis ns)), some (ti n), some (.fz (dis cs)), some (.fz (.lst (os.map dis))), some (.fz (dis l28)), none, none, none, none, none] (.nx [some (.fz (dis ns)), some (ti n), some (.fz (dis cs)), some (.fz (.lst (os.map dis))), some (.fz (dis cells)), none, none, none, none, none]) := by
    cases hq : l28.isEmpty with
    | true =>
      refine ⟨[cellF ns 9], Nat.le_refl _, by show 1 ≤ 6; decide, rn_ifT (Et.s (et_eqS (ev_nm 4 rfl) (ev_lst eva_nil (Nat.zero_le _)) (.inl ⟨_, _, rfl, rfl⟩) dp28)) ?_ (rns_one (rn_set 4 (Ev.s (Ev.as (d := dis [cellF ns 9]) (ev_lst (eva_cons (ev_call K__law_cell_at r1 (eva_cons (ev_nm 0 rfl) (eva_cons ev_int eva_nil)) ⟨ns, 9, by decide, rfl, rfl⟩) eva_nil) (by show 1 ≤ sizeLine; decide)) rfl)) (fun _ => sc_law.nd)))⟩
      show eqD (.lst (l28.map di)) (.lst []) = true
      rw [eq_nil', hq]
    | false =>
      refine ⟨l28, ?_, by omega, rn_skip (Et.s (et_eqS (ev_nm 4 rfl) (ev_lst eva_nil (Nat.zero_le _)) (.inl ⟨_, _, rfl, rfl⟩) dp28)) ?_⟩
      · cases l28 with
        | nil => cases hq
        | cons _ _ => rw [List.length_cons]; omega
      · show eqD (.lst (l28.map di)) (.lst []) = false
        rw [eq_nil', hq]
  refine rns_cons hcells ?_
  have elen : (((os.map dis).length : Nat) : Int) = os.length := by rw [List.length_map]
  have W0 := sumW_pos c1
  have eTr : Tr.ow ((numsF os.length).map fun a => tRowW (sumW cells) (rowF cells cs os.length a)) = tSh (sumW cells) ((numsF os.length).map (rowF cells cs os.length)) := by
    show _ = Tr.ow (List.map _ (List.map _ _))
    rw [List.map_map]; rfl
  refine rns_cons (rn_set 5 (Ev.s (Ev.to (ev_call K__law_drawn r3 (eva_cons (ev_nm 4 rfl) (eva_cons (ev_nm 2 rfl) (eva_cons (ev_len T.b_len (ev_nm 3 rfl) (.inl rfl)) eva_nil))) ⟨cells, cs, os.length, c1, by omega, by omega, o1, o6, ?_, rfl⟩) eTr)) (fun _ => sc_law.nd)) ?_
  rotate_left
  · rw [elen]; rfl
  have etab : er (.tp [tInts cs, tRows os]) = tabD cs os := by
    show Dv.tup [er _, er _] = _
    rw [er_tInts, er_tRows]; rfl
  refine rns_cons (rn_set 6 (Ev.s (Ev.as (d := tabD cs os) (ev_call K_table_of r2 (eva_cons (ev_list T.b_list (ev_nm 2 rfl) (.inl rfl)) (eva_cons (ev_lcm (own := ["_law_order_here"]) (fr := []) os dis tInts (fun i => lcs ⟨rfl, rfl, by decide +kernel, by decide +kernel, by decide +kernel, by decide +kernel⟩) (evi_list (ev_nm 3 rfl) rfl) (evg_nm 0 (fun _ => by show List.Nodup (["_law_order_here"] : List Str); decide)) (by decide) (by omega) (fun o ho => ⟨_, rfl, by exact Ev.to (ev_list T.b_list (ev_nm 0 rfl) (.inl rfl)) (by rw [ints_tr])⟩) (fun dd => by cases dd <;> rfl)) eva_nil)) ⟨cs, os, ok, ?_, rfl⟩) etab)) (fun _ => sc_law.nd)) ?_
  rotate_left
  · show [er (.ow _), er (.ow _)] = _
    rw [er_fzs, show er (Tr.ow (os.map tInts)) = .lst (os.map dis) from er_tRows os]
  have Wb := sumW_ok cells
  have sp : SpOk (sumW cells) (cs.length + 1) ((numsF os.length).map (rowF cells cs os.length)) := by
    refine ⟨W0, by omega, by rw [List.length_map, nums_len]; exact o1, by rw [List.length_map, nums_len]; exact o6, by omega, by omega, fun r hr => ?_⟩
    obtain ⟨a, ha, rfl⟩ := List.mem_map.mp hr
    have rk := row_ok (cells := cells) (c := cs) (A := os.length) (a := a) c1 (by omega)
    exact ⟨rk.len, rk.t0⟩
  have sh0 : ShOk (sumW cells) ((numsF os.length).map (rowF cells cs os.length)) := ⟨W0, by omega, by rw [List.length_map, nums_len]; omega, fun r hr => ⟨by rw [(sp.row r hr).1]; omega, fun s hs => by have := (sp.row r hr).2 s hs; omega⟩⟩
  have rl : ((numsF os.length).map (rowF cells cs os.length)).length = os.length := by rw [List.length_map, nums_len]
  have good : areB (sumW cells) cs ((numsF os.length).map (rowF cells cs os.length)) = true := by
    unfold areB
    rw [Bool.and_eq_true]
    constructor
    · refine List.all_eq_true.mpr fun r hr => ?_
      have hr' := sp.row r hr
      obtain ⟨a, ha, rfl⟩ := List.mem_map.mp hr
      obtain ⟨a0, a1⟩ := mem_nums.mp ha
      obtain ⟨q, rfl⟩ : ∃ q : Nat, a = 0 + (q : Int) := ⟨a.toNat, by omega⟩
      unfold rowB
      rw [decide_eq_true hr'.1, rowF_sum (by omega) cells, decide_eq_true rfl, List.all_eq_true.mpr fun s hs => decide_eq_true (hr'.2 s hs).1]; rfl
    · refine List.all_eq_true.mpr fun x hx => decide_eq_true ?_
      obtain ⟨x0, x1⟩ := mem_nums.mp hx
      have h := col_le (A := os.length) (fun y hy => (cok y hy).1) (by omega) x0 x1 cells
      have e : colF ((numsF os.length).map (rowF cells cs os.length)) x = (numsF os.length).map fun a => topF cells cs os.length a x := by
        unfold colF
        rw [List.map_map]
        refine List.map_congr_left fun a _ => ?_
        show (rowF cells cs os.length a).getD x.toNat 0 = _
        unfold rowF
        rw [List.getD_eq_getElem?_getD, List.getElem?_map, nums_get10 (show x.toNat < cs.length + 1 by omega)]
        show topF cells cs os.length a (0 + (x.toNat : Int)) = _
        rw [show 0 + (x.toNat : Int) = x by omega]
      rw [e]
      exact h
  have way0 : ∃ way, cellF ns 8 % 11 = way := ⟨_, rfl⟩
  obtain ⟨way, eway⟩ := way0
  have sh1 := sp_ok (way := way) sp (cut_ok (cellF ns 9) sp.n1 sp.m1)
  have spf : ∀ G H l ps, ShS K G H l ps → ShD ps (sumW cells) ((numsF os.length).map (rowF cells cs os.length)) → ∀ (R : VK) (E : XK), (∀ G' H' ps', ShS K G' H' l ps' → ShC (l :: ps.map fun p => p.1) G H G' H' → ShD ps' (spW (sumW cells) way (cutF (cellF ns 9) ((numsF os.length).map (rowF cells cs os.length)).length (cs.length + 1))) (spR (sumW cells) way (cutF (cellF ns 9) ((numsF os.length).map (rowF cells cs os.length)).length (cs.length + 1)) (cs.length + 1) ((numsF os.length).map (rowF cells cs os.length))) → (∀ p ∈ ps', p.1 ∈ (ps.map fun p => p.1) ∨ H p.1 = none) → R .non H') → spSpoil K [.ref l, .int way, .int (cellF ns 9)] H R E := fun G H l ps S D R E kk => ⟨l, G, ps, sumW cells, way, cellF ns 9, cs.length + 1, (numsF os.length).map (rowF cells cs os.length), rfl, S, D, sp, kk⟩
  generalize spW (sumW cells) way (cutF (cellF ns 9) ((numsF os.length).map (rowF cells cs os.length)).length (cs.length + 1)) = W' at sh1 spf
  generalize spR (sumW cells) way (cutF (cellF ns 9) ((numsF os.length).map (rowF cells cs os.length)).length (cs.length + 1)) (cs.length + 1) ((numsF os.length).map (rowF cells cs os.length)) = rows' at sh1 spf
  generalize (numsF os.length).map (rowF cells cs os.length) = rows at *
  generalize sumW cells = W at *
  have shl := sh0.len
  have shl' := sh1.len
  have c6' : cs.length ≤ 6 := by omega
  have etr : ∀ (W : Int) (r : List Int), Tr.ow ((r.map fun s => dF (fW W s)).map .fz) = tRowW W r := fun W r => by
    show Tr.ow _ = Tr.ow _
    rw [List.map_map]; rfl
  show Rns _ _ [some (.fz (dis ns)), some (ti n), some (.fz (dis cs)), some (.fz (.lst (os.map dis))), some (.fz (dis cells)), some (tSh W rows), some (.fz (tabD cs os)), none, none, none] _
  refine rns_cons (rn_lcG 7 (ElcL (t := tSh W rows) (elcm (own := ["_law_row"]) (fr := []) rows (dFs W) (tRowW W) (evi_list (ev_nm 5 rfl) (er_tSh W rows)) (evg_nm 0 (fun _ => by show List.Nodup (["_law_row"] : List Str); decide)) (by decide) (by omega) (fun r hr => ⟨_, rfl, by exact Ev.to (ev_list T.b_list (ev_nm 0 rfl) (.inl rfl)) (etr W r)⟩) (fun dd => by cases dd <;> rfl)) (lf_tSh W rows) ?_) (fun i => lcs ⟨rfl, rfl, by decide +kernel, by decide +kernel, by decide +kernel, by decide +kernel⟩) (fun _ => sc_law.nd)) ?_
  · show (true && (true && (true && (true && (true && (gdT (tSh W rows) && (true && (true && (true && (true && true)))))))))) = true
    rw [gd_tSh]; rfl
  show Rns _ _ [some (.fz (dis ns)), some (ti n), some (.fz (dis cs)), some (.fz (.lst (os.map dis))), some (.fz (dis cells)), some (tSh W rows), some (.fz (tabD cs os)), some (tSh W rows), none, none] _
  have rS : rIsSh (ers [.fz (tabD cs os), .fz (er (tSh W rows))]) (tb (decide (rows.length = os.length) && areB W cs rows)) := ⟨W, cs, os, rows, sh0, c6', cok, by show [tabD cs os, er (tSh W rows)] = _; rw [er_tSh], rfl⟩
  rw [decide_eq_true rl, good] at rS
  refine rns_cons (rn_skip (Et.pk (Ew.et (ew_or (et_isntB (ev_call K_is_shares (Nat.le_refl _) (eva_cons (ev_nm 6 rfl) (eva_cons (ev_nm 7 rfl) eva_nil)) rS) ev_bl) fun _ => (ew_or1 (et_neS (ev_nm 7 rfl) (ev_nm 5 rfl) (.inl ⟨_, _, er_tSh W rows, er_tSh W rows⟩) (by show dpD (er (tSh W rows)) ≤ 50; rw [er_tSh]; exact dpD_sh _ _)))))) ?_) ?_
  · show ((true && true) != true || !eqD (er (tSh W rows)) (er (tSh W rows))) = false
    rw [er_tSh, eqD_refl (okD_sh _ _)]; rfl
  refine rns_cons (ρ1 := [some (.fz (dis ns)), some (ti n), some (.fz (dis cs)), some (.fz (.lst (os.map dis))), some (.fz (dis cells)), some (tSh W' rows'), some (.fz (tabD cs os)), some (tSh W rows), none, none]) ⟨_, fun i => ps_expr (pe_kn K__law_spoiled (i.hr.mono (by omega)) (by rfl) (pa_cons (pv 5) (pa_cons (uE_ok (F := famD P w K mg base ["_law_script", "_law_many", "_law_counts_here", "_law_orders_here", "_law_cells", "_law_shares", "_law_table", "_law_kept", "_law_handed", "_law_found"] "law" (defScope s_law) f (k + 7)) i) (pa_cons (uE_ok (F := famD P w K mg base ["_law_script", "_law_many", "_law_counts_here", "_law_orders_here", "_law_cells", "_law_shares", "_law_table", "_law_kept", "_law_handed", "_law_found"] "law" (defScope s_law) f (k + 7)) i) pa_nil)))), fun D σ G0 H0 G H r kk => ?_⟩ ?_
  · obtain ⟨fp, r⟩ := r
    obtain ⟨v0, f0, fr0, q0, _⟩ := r.own.split (j := 5) rfl
    refine ⟨v0, q0, ?_⟩
    refine uE_of (ρ := [some (.fz (dis ns)), some (ti n), some (.fz (dis cs)), some (.fz (.lst (os.map dis))), some (.fz (dis cells)), some (tSh W rows), some (.fz (tabD cs os)), some (tSh W rows), none, none]) (Ev.to (t' := ti way) (ev_mod (ev_call K__law_cell_at r1 (eva_cons (ev_nm 0 rfl) (eva_cons ev_int eva_nil)) ⟨ns, 8, by decide, rfl, rfl⟩) ev_int (by decide)) (by rw [eway])) r.st.s r.own.rpd fun v2 G2 H2 fq2 st2 o2 w2 => ?_
    have ra : RSf K G0 H0 G2 H2 _ σ fp := ⟨r.st.trans st2, r.own.mono st2.g st2.h, r.own.off st2 r.g, r.n, r.d⟩
    refine uE_of (ρ := [some (.fz (dis ns)), some (ti n), some (.fz (dis cs)), some (.fz (.lst (os.map dis))), some (.fz (dis cells)), some (tSh W rows), some (.fz (tabD cs os)), some (tSh W rows), none, none]) (ev_call K__law_cell_at r1 (eva_cons (ev_nm 0 rfl) (eva_cons ev_int eva_nil)) ⟨ns, 9, by decide, rfl, rfl⟩) ra.st.s ra.own.rpd fun v3 G3 H3 fq3 st3 o3 w3 => ?_
    have rb : RSf K G0 H0 G3 H3 _ σ fp := ⟨ra.st.trans st3, ra.own.mono st3.g st3.h, ra.own.off st3 ra.g, ra.n, ra.d⟩
    obtain ⟨v, f, q1, q2, nd, gf, q⟩ := RSf.swap rb (j := 5) (t := tSh W rows) rfl
    obtain ⟨l, ps, rfl, rfl, S, hd⟩ := sh_of rb.st.s q2 nd gf
    rw [q0] at q1
    cases q1
    rw [show v2 = .int way from hvi o2.2, show v3 = .int (cellF ns 9) from hvi o3.2]
    dsimp only [tNil, List.cons_append, List.nil_append]
    refine spf G3 H3 l ps S hd _ _ fun G' H' ps' S' C' D' ad => ?_
    refine kk σ G' H' (q G' H' (tSh W' rows') (l :: ps'.map fun p => p.1) C' S'.s ⟨l, _, _, rfl, S'.hl, owl_of ps' rows' D' fun p hp => ⟨S'.h p hp, S'.v p hp⟩, rfl⟩ S'.nd (fun a ha => (S'.inf a ha).1) fun a ha => ?_)
    rcases List.mem_cons.mp ha with rfl | ha
    · exact .inl (.head _)
    · obtain ⟨p, hp, rfl⟩ := List.mem_map.mp ha
      exact (ad p hp).imp (fun z => .tail _ z) id
  refine rns_cons (rn_lcG 8 (ElcL (t := tSh W' rows') (elcm (own := ["_law_row"]) (fr := []) rows' (dFs W') (tRowW W') (evi_list (ev_nm 5 rfl) (er_tSh W' rows')) (evg_nm 0 (fun _ => by show List.Nodup (["_law_row"] : List Str); decide)) (by decide) (by omega) (fun r hr => ⟨_, rfl, by exact Ev.to (ev_list T.b_list (ev_nm 0 rfl) (.inl rfl)) (etr W' r)⟩) (fun dd => by cases dd <;> rfl)) (lf_tSh W' rows') ?_) (fun i => lcs ⟨rfl, rfl, by decide +kernel, by decide +kernel, by decide +kernel, by decide +kernel⟩) (fun _ => sc_law.nd)) ?_
  · show (true && (true && (true && (true && (true && (gdT (tSh W' rows') && (true && (gdT (tSh W rows) && (true && (true && true)))))))))) = true
    rw [gd_tSh, gd_tSh]; rfl
  have rS' : rIsSh (ers [.fz (tabD cs os), .fz (er (tSh W' rows'))]) (tb (decide (rows'.length = os.length) && areB W' cs rows')) := ⟨W', cs, os, rows', sh1, c6', cok, by show [tabD cs os, er (tSh W' rows')] = _; rw [er_tSh], rfl⟩
  refine rns_cons (rn_set 9 (Ev.pk (ev_call K_is_shares (Nat.le_refl _) (eva_cons (ev_nm 6 rfl) (eva_cons (ev_nm 8 rfl) eva_nil)) rS') True.intro) (fun _ => sc_law.nd)) ?_
  have rD : rDue (ers [.fz (dis cs), ti ((os.map dis).length : Nat), .fz (er (tSh W' rows'))]) (tb (decide (rows'.length = os.length) && areB W' cs rows')) := ⟨W', cs, os.length, rows', sh1, c6', cok, by show [dis cs, di _, er (tSh W' rows')] = _; rw [er_tSh, List.length_map], rfl⟩
  generalize (decide (rows'.length = os.length) && areB W' cs rows') = bb at rD
  show Rns _ _ [some (.fz (dis ns)), some (ti n), some (.fz (dis cs)), some (.fz (.lst (os.map dis))), some (.fz (dis cells)), some (tSh W' rows'), some (.fz (tabD cs os)), some (tSh W rows), some (tSh W' rows'), some (tb bb)] _
  refine rns_cons (rn_skip (Et.pk (Ew.et (ew_or (et_not (et_val (ev_isi (bo := true) T.b_isinstance T.b_bool bt_bool (ev_nm 9 rfl) (by with_unfolding_all rfl)))) fun _ => (ew_or (et_neB (ev_nm 9 rfl) (ev_call K__law_due (by show k + 3 ≤ k + 7; omega) (eva_cons (ev_nm 2 rfl) (eva_cons (ev_len T.b_len (ev_nm 3 rfl) (.inl rfl)) (eva_cons (ev_nm 5 rfl) eva_nil))) rD)) fun _ => (ew_or1 (et_neS (ev_nm 8 rfl) (ev_nm 5 rfl) (.inl ⟨_, _, er_tSh W' rows', er_tSh W' rows'⟩) (by show dpD (er (tSh W' rows')) ≤ 50; rw [er_tSh]; exact dpD_sh _ _))))))) ?_) ?_
  · show (!true || (!decide (bb = bb) || !eqD (er (tSh W' rows')) (er (tSh W' rows')))) = false
    rw [er_tSh, eqD_refl (okD_sh _ _), decide_eq_true rfl]; rfl
  refine rns_one (rn_ret (EvS.to (Ev.pk (ev_and (ev_isB (ev_call K_is_shares (Nat.le_refl _) (eva_cons (ev_nm 6 rfl) (eva_cons (ev_nm 7 rfl) eva_nil)) rS) ev_bl) fun _ => (ev_one (ev_eqS (ev_nm 6 rfl) (ev_tup (eva_cons (ev_nm 2 rfl) (eva_cons (ev_nm 3 rfl) eva_nil)) (by show 2 ≤ sizeLine; decide)) (.inr ⟨_, _, rfl, rfl⟩) (Nat.le_trans (dpD_tab _ _) (by decide))))) True.intro) ?_))
  show tb ((true && true == true) && eqD (tabD cs os) (tabD cs os)) = tb true
  rw [eqD_refl (okD_tab _ _)]; rfl
end
end K10
namespace K10
open PySem L2
theorem all_mk {l : PySem.W.OpenLaw} {w : World} {K : PySem.W.Frag} {h : Heap} {mg : Str → Option Value} {fa : Addr} (X : K.In h) (G : h.Ns mainGlobals mg) (hfa : mg "law" = some (.ref fa))
    {f1 : Addr} {od1 an1 : Option Addr} {sl1 : Array (Option Value)} {oc1 kV1 dc1 pm1 cd1 ct1 : Value}
    {f2 : Addr} {od2 an2 : Option Addr} {sl2 : Array (Option Value)} {oc2 kV2 dc2 pm2 cd2 ct2 : Value}
    {f3 : Addr} {od3 an3 : Option Addr} {sl3 : Array (Option Value)} {oc3 kV3 dc3 pm3 cd3 ct3 : Value}
    {dt3 : Addr} {do3 : Value} {dd3 : Option Addr} {dn3 : Nat} {ds3 : Array (Option Value)} {tk3 : Tok}
    {f4 : Addr} {od4 an4 : Option Addr} {sl4 : Array (Option Value)} {oc4 kV4 dc4 pm4 cd4 ct4 : Value}
    {f5 : Addr} {od5 an5 : Option Addr} {sl5 : Array (Option Value)} {oc5 kV5 dc5 pm5 cd5 ct5 : Value}
    {f6 : Addr} {od6 an6 : Option Addr} {sl6 : Array (Option Value)} {oc6 kV6 dc6 pm6 cd6 ct6 : Value}
    {f7 : Addr} {od7 an7 : Option Addr} {sl7 : Array (Option Value)} {oc7 kV7 dc7 pm7 cd7 ct7 : Value}
    {f8 : Addr} {od8 an8 : Option Addr} {sl8 : Array (Option Value)} {oc8 kV8 dc8 pm8 cd8 ct8 : Value}
    {f9 : Addr} {od9 an9 : Option Addr} {sl9 : Array (Option Value)} {oc9 kV9 dc9 pm9 cd9 ct9 : Value}
    {f10 : Addr} {od10 an10 : Option Addr} {sl10 : Array (Option Value)} {oc10 kV10 dc10 pm10 cd10 ct10 : Value}
    {f11 : Addr} {od11 an11 : Option Addr} {sl11 : Array (Option Value)} {oc11 kV11 dc11 pm11 cd11 ct11 : Value}
    {f12 : Addr} {od12 an12 : Option Addr} {sl12 : Array (Option Value)} {oc12 kV12 dc12 pm12 cd12 ct12 : Value}
    {f13 : Addr} {od13 an13 : Option Addr} {sl13 : Array (Option Value)} {oc13 kV13 dc13 pm13 cd13 ct13 : Value}
    {f14 : Addr} {od14 an14 : Option Addr} {sl14 : Array (Option Value)} {oc14 kV14 dc14 pm14 cd14 ct14 : Value}
    {f15 : Addr} {od15 an15 : Option Addr} {sl15 : Array (Option Value)} {oc15 kV15 dc15 pm15 cd15 ct15 : Value}
    {f16 : Addr} {od16 an16 : Option Addr} {sl16 : Array (Option Value)} {oc16 kV16 dc16 pm16 cd16 ct16 : Value}
    {f17 : Addr} {od17 an17 : Option Addr} {sl17 : Array (Option Value)} {oc17 kV17 dc17 pm17 cd17 ct17 : Value}
    {f18 : Addr} {od18 an18 : Option Addr} {sl18 : Array (Option Value)} {oc18 kV18 dc18 pm18 cd18 ct18 : Value}
    {f19 : Addr} {od19 an19 : Option Addr} {sl19 : Array (Option Value)} {oc19 kV19 dc19 pm19 cd19 ct19 : Value}
    {f20 : Addr} {od20 an20 : Option Addr} {sl20 : Array (Option Value)} {oc20 kV20 dc20 pm20 cd20 ct20 : Value}
    {f21 : Addr} {od21 an21 : Option Addr} {sl21 : Array (Option Value)} {oc21 kV21 dc21 pm21 cd21 ct21 : Value}
    {f22 : Addr} {od22 an22 : Option Addr} {sl22 : Array (Option Value)} {oc22 kV22 dc22 pm22 cd22 ct22 : Value}
    {f23 : Addr} {od23 an23 : Option Addr} {sl23 : Array (Option Value)} {oc23 kV23 dc23 pm23 cd23 ct23 : Value}
    {f24 : Addr} {od24 an24 : Option Addr} {sl24 : Array (Option Value)} {oc24 kV24 dc24 pm24 cd24 ct24 : Value}
    {f25 : Addr} {od25 an25 : Option Addr} {sl25 : Array (Option Value)} {oc25 kV25 dc25 pm25 cd25 ct25 : Value}
    {f26 : Addr} {od26 an26 : Option Addr} {sl26 : Array (Option Value)} {oc26 kV26 dc26 pm26 cd26 ct26 : Value}
    {gt1 : Tok} {gt2 : Tok}
    (a1 : PySem.W.nsIn K mainGlobals "is_whole" = some (some (.ref f1)))
    (l1 : K.lookup f1 = some ⟨oc1, od1, .func (PySem.W.fnOf "is_whole" "is_whole" (defArgs s_is_whole) (defBody s_is_whole) (defScope s_is_whole) .none kV1 dc1 pm1 an1 cd1 ct1), sl1⟩)
    (c1 : PySem.W.codeIn K cd1 "is_whole" = true)
    (k1 : PySem.W.keepIn K (.ref f1) = true)
    (a2 : PySem.W.nsIn K mainGlobals "common_part" = some (some (.ref f2)))
    (l2 : K.lookup f2 = some ⟨oc2, od2, .func (PySem.W.fnOf "common_part" "common_part" (defArgs s_common_part) (defBody s_common_part) (defScope s_common_part) .none kV2 dc2 pm2 an2 cd2 ct2), sl2⟩)
    (c2 : PySem.W.codeIn K cd2 "common_part" = true)
    (k2 : PySem.W.keepIn K (.ref f2) = true)
    (a3 : PySem.W.nsIn K mainGlobals "fraction" = some (some (.ref f3)))
    (l3 : K.lookup f3 = some ⟨oc3, od3, .func (PySem.W.fnOf "fraction" "fraction" (defArgs s_fraction) (defBody s_fraction) (defScope s_fraction) (.ref dt3) kV3 dc3 pm3 an3 cd3 ct3), sl3⟩)
    (d3 : K.lookup dt3 = some ⟨do3, dd3, .seq #[.int 1 tk3] dn3, ds3⟩)
    (c3 : PySem.W.codeIn K cd3 "fraction" = true)
    (k3 : PySem.W.keepIn K (.ref f3) = true)
    (a4 : PySem.W.nsIn K mainGlobals "plus" = some (some (.ref f4)))
    (l4 : K.lookup f4 = some ⟨oc4, od4, .func (PySem.W.fnOf "plus" "plus" (defArgs s_plus) (defBody s_plus) (defScope s_plus) .none kV4 dc4 pm4 an4 cd4 ct4), sl4⟩)
    (c4 : PySem.W.codeIn K cd4 "plus" = true)
    (k4 : PySem.W.keepIn K (.ref f4) = true)
    (a5 : PySem.W.nsIn K mainGlobals "under" = some (some (.ref f5)))
    (l5 : K.lookup f5 = some ⟨oc5, od5, .func (PySem.W.fnOf "under" "under" (defArgs s_under) (defBody s_under) (defScope s_under) .none kV5 dc5 pm5 an5 cd5 ct5), sl5⟩)
    (c5 : PySem.W.codeIn K cd5 "under" = true)
    (k5 : PySem.W.keepIn K (.ref f5) = true)
    (a6 : PySem.W.nsIn K mainGlobals "sum_of" = some (some (.ref f6)))
    (l6 : K.lookup f6 = some ⟨oc6, od6, .func (PySem.W.fnOf "sum_of" "sum_of" (defArgs s_sum_of) (defBody s_sum_of) (defScope s_sum_of) .none kV6 dc6 pm6 an6 cd6 ct6), sl6⟩)
    (c6 : PySem.W.codeIn K cd6 "sum_of" = true)
    (k6 : PySem.W.keepIn K (.ref f6) = true)
    (a7 : PySem.W.nsIn K mainGlobals "check_orders" = some (some (.ref f7)))
    (l7 : K.lookup f7 = some ⟨oc7, od7, .func (PySem.W.fnOf "check_orders" "check_orders" (defArgs s_check_orders) (defBody s_check_orders) (defScope s_check_orders) .none kV7 dc7 pm7 an7 cd7 ct7), sl7⟩)
    (c7 : PySem.W.codeIn K cd7 "check_orders" = true)
    (k7 : PySem.W.keepIn K (.ref f7) = true)
    (a8 : PySem.W.nsIn K mainGlobals "table_of" = some (some (.ref f8)))
    (l8 : K.lookup f8 = some ⟨oc8, od8, .func (PySem.W.fnOf "table_of" "table_of" (defArgs s_table_of) (defBody s_table_of) (defScope s_table_of) .none kV8 dc8 pm8 an8 cd8 ct8), sl8⟩)
    (c8 : PySem.W.codeIn K cd8 "table_of" = true)
    (k8 : PySem.W.keepIn K (.ref f8) = true)
    (a9 : PySem.W.nsIn K mainGlobals "dealt_of" = some (some (.ref f9)))
    (l9 : K.lookup f9 = some ⟨oc9, od9, .func (PySem.W.fnOf "dealt_of" "dealt_of" (defArgs s_dealt_of) (defBody s_dealt_of) (defScope s_dealt_of) .none kV9 dc9 pm9 an9 cd9 ct9), sl9⟩)
    (c9 : PySem.W.codeIn K cd9 "dealt_of" = true)
    (k9 : PySem.W.keepIn K (.ref f9) = true)
    (a10 : PySem.W.nsIn K mainGlobals "is_row" = some (some (.ref f10)))
    (l10 : K.lookup f10 = some ⟨oc10, od10, .func (PySem.W.fnOf "is_row" "is_row" (defArgs s_is_row) (defBody s_is_row) (defScope s_is_row) .none kV10 dc10 pm10 an10 cd10 ct10), sl10⟩)
    (c10 : PySem.W.codeIn K cd10 "is_row" = true)
    (k10 : PySem.W.keepIn K (.ref f10) = true)
    (a11 : PySem.W.nsIn K mainGlobals "are_shares" = some (some (.ref f11)))
    (l11 : K.lookup f11 = some ⟨oc11, od11, .func (PySem.W.fnOf "are_shares" "are_shares" (defArgs s_are_shares) (defBody s_are_shares) (defScope s_are_shares) .none kV11 dc11 pm11 an11 cd11 ct11), sl11⟩)
    (c11 : PySem.W.codeIn K cd11 "are_shares" = true)
    (k11 : PySem.W.keepIn K (.ref f11) = true)
    (a12 : PySem.W.nsIn K mainGlobals "is_shares" = some (some (.ref f12)))
    (l12 : K.lookup f12 = some ⟨oc12, od12, .func (PySem.W.fnOf "is_shares" "is_shares" (defArgs s_is_shares) (defBody s_is_shares) (defScope s_is_shares) .none kV12 dc12 pm12 an12 cd12 ct12), sl12⟩)
    (c12 : PySem.W.codeIn K cd12 "is_shares" = true)
    (k12 : PySem.W.keepIn K (.ref f12) = true)
    (a13 : PySem.W.nsIn K mainGlobals "_law_cell_at" = some (some (.ref f13)))
    (l13 : K.lookup f13 = some ⟨oc13, od13, .func (PySem.W.fnOf "_law_cell_at" "_law_cell_at" (defArgs s__law_cell_at) (defBody s__law_cell_at) (defScope s__law_cell_at) .none kV13 dc13 pm13 an13 cd13 ct13), sl13⟩)
    (c13 : PySem.W.codeIn K cd13 "_law_cell_at" = true)
    (k13 : PySem.W.keepIn K (.ref f13) = true)
    (a14 : PySem.W.nsIn K mainGlobals "_law_stream" = some (some (.ref f14)))
    (l14 : K.lookup f14 = some ⟨oc14, od14, .func (PySem.W.fnOf "_law_stream" "_law_stream" (defArgs s__law_stream) (defBody s__law_stream) (defScope s__law_stream) .none kV14 dc14 pm14 an14 cd14 ct14), sl14⟩)
    (c14 : PySem.W.codeIn K cd14 "_law_stream" = true)
    (k14 : PySem.W.keepIn K (.ref f14) = true)
    (a15 : PySem.W.nsIn K mainGlobals "_law_order" = some (some (.ref f15)))
    (l15 : K.lookup f15 = some ⟨oc15, od15, .func (PySem.W.fnOf "_law_order" "_law_order" (defArgs s__law_order) (defBody s__law_order) (defScope s__law_order) .none kV15 dc15 pm15 an15 cd15 ct15), sl15⟩)
    (c15 : PySem.W.codeIn K cd15 "_law_order" = true)
    (k15 : PySem.W.keepIn K (.ref f15) = true)
    (a16 : PySem.W.nsIn K mainGlobals "_law_orders" = some (some (.ref f16)))
    (l16 : K.lookup f16 = some ⟨oc16, od16, .func (PySem.W.fnOf "_law_orders" "_law_orders" (defArgs s__law_orders) (defBody s__law_orders) (defScope s__law_orders) .none kV16 dc16 pm16 an16 cd16 ct16), sl16⟩)
    (c16 : PySem.W.codeIn K cd16 "_law_orders" = true)
    (k16 : PySem.W.keepIn K (.ref f16) = true)
    (a17 : PySem.W.nsIn K mainGlobals "_law_counts" = some (some (.ref f17)))
    (l17 : K.lookup f17 = some ⟨oc17, od17, .func (PySem.W.fnOf "_law_counts" "_law_counts" (defArgs s__law_counts) (defBody s__law_counts) (defScope s__law_counts) .none kV17 dc17 pm17 an17 cd17 ct17), sl17⟩)
    (c17 : PySem.W.codeIn K cd17 "_law_counts" = true)
    (k17 : PySem.W.keepIn K (.ref f17) = true)
    (a18 : PySem.W.nsIn K mainGlobals "_law_divisor" = some (some (.ref f18)))
    (l18 : K.lookup f18 = some ⟨oc18, od18, .func (PySem.W.fnOf "_law_divisor" "_law_divisor" (defArgs s__law_divisor) (defBody s__law_divisor) (defScope s__law_divisor) .none kV18 dc18 pm18 an18 cd18 ct18), sl18⟩)
    (c18 : PySem.W.codeIn K cd18 "_law_divisor" = true)
    (k18 : PySem.W.keepIn K (.ref f18) = true)
    (a19 : PySem.W.nsIn K mainGlobals "_law_lowest" = some (some (.ref f19)))
    (l19 : K.lookup f19 = some ⟨oc19, od19, .func (PySem.W.fnOf "_law_lowest" "_law_lowest" (defArgs s__law_lowest) (defBody s__law_lowest) (defScope s__law_lowest) .none kV19 dc19 pm19 an19 cd19 ct19), sl19⟩)
    (c19 : PySem.W.codeIn K cd19 "_law_lowest" = true)
    (k19 : PySem.W.keepIn K (.ref f19) = true)
    (a20 : PySem.W.nsIn K mainGlobals "_law_deal" = some (some (.ref f20)))
    (l20 : K.lookup f20 = some ⟨oc20, od20, .func (PySem.W.fnOf "_law_deal" "_law_deal" (defArgs s__law_deal) (defBody s__law_deal) (defScope s__law_deal) .none kV20 dc20 pm20 an20 cd20 ct20), sl20⟩)
    (c20 : PySem.W.codeIn K cd20 "_law_deal" = true)
    (k20 : PySem.W.keepIn K (.ref f20) = true)
    (a21 : PySem.W.nsIn K mainGlobals "_law_drawn" = some (some (.ref f21)))
    (l21 : K.lookup f21 = some ⟨oc21, od21, .func (PySem.W.fnOf "_law_drawn" "_law_drawn" (defArgs s__law_drawn) (defBody s__law_drawn) (defScope s__law_drawn) .none kV21 dc21 pm21 an21 cd21 ct21), sl21⟩)
    (c21 : PySem.W.codeIn K cd21 "_law_drawn" = true)
    (k21 : PySem.W.keepIn K (.ref f21) = true)
    (a22 : PySem.W.nsIn K mainGlobals "_law_all" = some (some (.ref f22)))
    (l22 : K.lookup f22 = some ⟨oc22, od22, .func (PySem.W.fnOf "_law_all" "_law_all" (defArgs s__law_all) (defBody s__law_all) (defScope s__law_all) .none kV22 dc22 pm22 an22 cd22 ct22), sl22⟩)
    (c22 : PySem.W.codeIn K cd22 "_law_all" = true)
    (k22 : PySem.W.keepIn K (.ref f22) = true)
    (a23 : PySem.W.nsIn K mainGlobals "_law_due" = some (some (.ref f23)))
    (l23 : K.lookup f23 = some ⟨oc23, od23, .func (PySem.W.fnOf "_law_due" "_law_due" (defArgs s__law_due) (defBody s__law_due) (defScope s__law_due) .none kV23 dc23 pm23 an23 cd23 ct23), sl23⟩)
    (c23 : PySem.W.codeIn K cd23 "_law_due" = true)
    (k23 : PySem.W.keepIn K (.ref f23) = true)
    (a24 : PySem.W.nsIn K mainGlobals "_law_put" = some (some (.ref f24)))
    (l24 : K.lookup f24 = some ⟨oc24, od24, .func (PySem.W.fnOf "_law_put" "_law_put" (defArgs s__law_put) (defBody s__law_put) (defScope s__law_put) .none kV24 dc24 pm24 an24 cd24 ct24), sl24⟩)
    (c24 : PySem.W.codeIn K cd24 "_law_put" = true)
    (k24 : PySem.W.keepIn K (.ref f24) = true)
    (a25 : PySem.W.nsIn K mainGlobals "_law_spoiled" = some (some (.ref f25)))
    (l25 : K.lookup f25 = some ⟨oc25, od25, .func (PySem.W.fnOf "_law_spoiled" "_law_spoiled" (defArgs s__law_spoiled) (defBody s__law_spoiled) (defScope s__law_spoiled) .none kV25 dc25 pm25 an25 cd25 ct25), sl25⟩)
    (c25 : PySem.W.codeIn K cd25 "_law_spoiled" = true)
    (k25 : PySem.W.keepIn K (.ref f25) = true)
    (a26 : PySem.W.nsIn K mainGlobals "law" = some (some (.ref f26)))
    (l26 : K.lookup f26 = some ⟨oc26, od26, .func (PySem.W.fnOf "law" "law" (defArgs s_law) (defBody s_law) (defScope s_law) .none kV26 dc26 pm26 an26 cd26 ct26), sl26⟩)
    (c26 : PySem.W.codeIn K cd26 "law" = true)
    (k26 : PySem.W.keepIn K (.ref f26) = true)
    (z_isinstance : PySem.W.nsIn K mainGlobals "isinstance" = some none)
    (z_int : PySem.W.nsIn K mainGlobals "int" = some none)
    (z_bool : PySem.W.nsIn K mainGlobals "bool" = some none)
    (z_list : PySem.W.nsIn K mainGlobals "list" = some none)
    (z_tuple : PySem.W.nsIn K mainGlobals "tuple" = some none)
    (z_len : PySem.W.nsIn K mainGlobals "len" = some none)
    (z_range : PySem.W.nsIn K mainGlobals "range" = some none)
    (z_zip : PySem.W.nsIn K mainGlobals "zip" = some none)
    (z_any : PySem.W.nsIn K mainGlobals "any" = some none)
    (z_all : PySem.W.nsIn K mainGlobals "all" = some none)
    (z_enumerate : PySem.W.nsIn K mainGlobals "enumerate" = some none)
    (z_set : PySem.W.nsIn K mainGlobals "set" = some none)
    (z_abs : PySem.W.nsIn K mainGlobals "abs" = some none)
    (z_sum : PySem.W.nsIn K mainGlobals "sum" = some none)
    (z_min : PySem.W.nsIn K mainGlobals "min" = some none)
    (g_MOST : PySem.W.nsIn K mainGlobals "MOST" = some (some (.int 6 gt1)))
    (g_MOST_COUNT : PySem.W.nsIn K mainGlobals "MOST_COUNT" = some (some (.int 9 gt2)))
    : ∃ fd : FuncData, (∀ (s : Shared) (v : Value), BindsTo s fd ⟨[v], []⟩ [("_law_script", v)]) ∧ ∀ base : Heap, K.In base → base.Ns mainGlobals mg → FnOk l.prog w K mg base CX0 8 fa fd ["_law_script"] (spLaw K) := by
  have e := hfa.symm.trans (PySem.W.mg_of X G a26)
  cases e
  have T : Txt mg := ⟨PySem.W.mg_none_of X G z_isinstance, PySem.W.mg_none_of X G z_int, PySem.W.mg_none_of X G z_bool, PySem.W.mg_none_of X G z_list, PySem.W.mg_none_of X G z_tuple, PySem.W.mg_none_of X G z_len, PySem.W.mg_none_of X G z_range, PySem.W.mg_none_of X G z_zip, PySem.W.mg_none_of X G z_any, PySem.W.mg_none_of X G z_all, PySem.W.mg_none_of X G z_enumerate, PySem.W.mg_none_of X G z_set, PySem.W.mg_none_of X G z_abs, PySem.W.mg_none_of X G z_sum, PySem.W.mg_none_of X G z_min, ⟨_, PySem.W.mg_of X G g_MOST⟩, ⟨_, PySem.W.mg_of X G g_MOST_COUNT⟩⟩
  have F1 := fun_mk (st := s_is_whole) l1 c1 k1
  have b1 := F1.binds (ps := ["number"]) fun _ _ _ _ _ _ us hl => match us, hl with | [_], _ => rfl
  have F2 := fun_mk (st := s_common_part) l2 c2 k2
  have b2 := F2.binds (ps := ["one", "other"]) fun _ _ _ _ _ _ us hl => match us, hl with | [_, _], _ => rfl
  have F3 := funD_mk (st := s_fraction) l3 c3 k3
  have b3 : Binds K _ ["top", "bottom"] [] := fun s us hK hl => match us, hl with | [u, v], _ => PySem.W.binds_K (fd := PySem.W.fnOf "fraction" "fraction" (defArgs s_fraction) (defBody s_fraction) (defScope s_fraction) (.ref dt3) kV3 dc3 pm3 an3 cd3 ct3) hK rfl d3 rfl rfl rfl
  have b3' : Binds K _ ["top", "bottom"] [.int 1 tk3] := fun s us hK hl => by
    cases us with
    | nil => exact absurd hl (by simp)
    | cons u r => cases r with
      | nil => exact PySem.W.binds_K (fd := PySem.W.fnOf "fraction" "fraction" (defArgs s_fraction) (defBody s_fraction) (defScope s_fraction) (.ref dt3) kV3 dc3 pm3 an3 cd3 ct3) hK rfl d3 rfl rfl rfl
      | cons v r => exact absurd hl (by simp only [List.length_append, List.length_cons, List.length_nil]; omega)
  have F4 := fun_mk (st := s_plus) l4 c4 k4
  have b4 := F4.binds (ps := ["one", "other"]) fun _ _ _ _ _ _ us hl => match us, hl with | [_, _], _ => rfl
  have F5 := fun_mk (st := s_under) l5 c5 k5
  have b5 := F5.binds (ps := ["one", "other"]) fun _ _ _ _ _ _ us hl => match us, hl with | [_, _], _ => rfl
  have F6 := fun_mk (st := s_sum_of) l6 c6 k6
  have b6 := F6.binds (ps := ["some"]) fun _ _ _ _ _ _ us hl => match us, hl with | [_], _ => rfl
  have F7 := fun_mk (st := s_check_orders) l7 c7 k7
  have b7 := F7.binds (ps := ["orders", "many"]) fun _ _ _ _ _ _ us hl => match us, hl with | [_, _], _ => rfl
  have F8 := fun_mk (st := s_table_of) l8 c8 k8
  have b8 := F8.binds (ps := ["counts", "orders"]) fun _ _ _ _ _ _ us hl => match us, hl with | [_, _], _ => rfl
  have F9 := fun_mk (st := s_dealt_of) l9 c9 k9
  have b9 := F9.binds (ps := ["shares", "one"]) fun _ _ _ _ _ _ us hl => match us, hl with | [_, _], _ => rfl
  have F10 := fun_mk (st := s_is_row) l10 c10 k10
  have b10 := F10.binds (ps := ["row", "many"]) fun _ _ _ _ _ _ us hl => match us, hl with | [_, _], _ => rfl
  have F11 := fun_mk (st := s_are_shares) l11 c11 k11
  have b11 := F11.binds (ps := ["counts", "shares"]) fun _ _ _ _ _ _ us hl => match us, hl with | [_, _], _ => rfl
  have F12 := fun_mk (st := s_is_shares) l12 c12 k12
  have b12 := F12.binds (ps := ["table", "shares"]) fun _ _ _ _ _ _ us hl => match us, hl with | [_, _], _ => rfl
  have F13 := fun_mk (st := s__law_cell_at) l13 c13 k13
  have b13 := F13.binds (ps := ["_law_script", "_law_k"]) fun _ _ _ _ _ _ us hl => match us, hl with | [_, _], _ => rfl
  have F14 := fun_mk (st := s__law_stream) l14 c14 k14
  have b14 := F14.binds (ps := ["_law_cell", "_law_many"]) fun _ _ _ _ _ _ us hl => match us, hl with | [_, _], _ => rfl
  have F15 := fun_mk (st := s__law_order) l15 c15 k15
  have b15 := F15.binds (ps := ["_law_cell", "_law_many"]) fun _ _ _ _ _ _ us hl => match us, hl with | [_, _], _ => rfl
  have F16 := fun_mk (st := s__law_orders) l16 c16 k16
  have b16 := F16.binds (ps := ["_law_cells", "_law_many"]) fun _ _ _ _ _ _ us hl => match us, hl with | [_, _], _ => rfl
  have F17 := fun_mk (st := s__law_counts) l17 c17 k17
  have b17 := F17.binds (ps := ["_law_cell", "_law_many"]) fun _ _ _ _ _ _ us hl => match us, hl with | [_, _], _ => rfl
  have F18 := fun_mk (st := s__law_divisor) l18 c18 k18
  have b18 := F18.binds (ps := ["_law_one", "_law_other"]) fun _ _ _ _ _ _ us hl => match us, hl with | [_, _], _ => rfl
  have F19 := fun_mk (st := s__law_lowest) l19 c19 k19
  have b19 := F19.binds (ps := ["_law_top", "_law_bottom"]) fun _ _ _ _ _ _ us hl => match us, hl with | [_, _], _ => rfl
  have F20 := fun_mk (st := s__law_deal) l20 c20 k20
  have b20 := F20.binds (ps := ["_law_cell", "_law_counts_here", "_law_askers"]) fun _ _ _ _ _ _ us hl => match us, hl with | [_, _, _], _ => rfl
  have F21 := fun_mk (st := s__law_drawn) l21 c21 k21
  have b21 := F21.binds (ps := ["_law_cells", "_law_counts_here", "_law_askers"]) fun _ _ _ _ _ _ us hl => match us, hl with | [_, _, _], _ => rfl
  have F22 := fun_mk (st := s__law_all) l22 c22 k22
  have b22 := F22.binds (ps := ["_law_shares"]) fun _ _ _ _ _ _ us hl => match us, hl with | [_], _ => rfl
  have F23 := fun_mk (st := s__law_due) l23 c23 k23
  have b23 := F23.binds (ps := ["_law_counts_here", "_law_askers", "_law_shares"]) fun _ _ _ _ _ _ us hl => match us, hl with | [_, _, _], _ => rfl
  have F24 := fun_mk (st := s__law_put) l24 c24 k24
  have b24 := F24.binds (ps := ["_law_row", "_law_at", "_law_top", "_law_bottom"]) fun _ _ _ _ _ _ us hl => match us, hl with | [_, _, _, _], _ => rfl
  have F25 := fun_mk (st := s__law_spoiled) l25 c25 k25
  have b25 := F25.binds (ps := ["_law_shares", "_law_way", "_law_cell"]) fun _ _ _ _ _ _ us hl => match us, hl with | [_, _, _], _ => rfl
  have F26 := fun_mk (st := s_law) l26 c26 k26
  refine ⟨PySem.W.fnOf "law" "law" (defArgs s_law) (defBody s_law) (defScope s_law) .none kV26 dc26 pm26 an26 cd26 ct26, fun s v => .of_eq rfl, fun base _ _ => ?_⟩
  have K1 := Kn.mk (base := base) (P := l.prog) (w := w) (ok_is_whole (k := 0) F1 T ) (PySem.W.mg_of X G a1) k1 b1
  have K2 := Kn.mk (base := base) (P := l.prog) (w := w) (ok_common_part (k := 0) F2 T ) (PySem.W.mg_of X G a2) k2 b2
  have K3 := Kn.mk (base := base) (P := l.prog) (w := w) (ok_fraction (k := 0) F3 T K1 K2) (PySem.W.mg_of X G a3) k3 b3
  have K4 := Kn.mk (base := base) (P := l.prog) (w := w) (ok_plus (k := 0) F4 T K3) (PySem.W.mg_of X G a4) k4 b4
  have K5 := Kn.mk (base := base) (P := l.prog) (w := w) (ok_under (k := 0) F5 T ) (PySem.W.mg_of X G a5) k5 b5
  have K6 := Kn.mk (base := base) (P := l.prog) (w := w) (ok_sum_of (k := 0) F6 T K3 b3' K4) (PySem.W.mg_of X G a6) k6 b6
  have K7 := Kn.mk (base := base) (P := l.prog) (w := w) (ok_check_orders (k := 0) F7 T ) (PySem.W.mg_of X G a7) k7 b7
  have K8 := Kn.mk (base := base) (P := l.prog) (w := w) (ok_table_of (k := 0) F8 T K7) (PySem.W.mg_of X G a8) k8 b8
  have K9 := Kn.mk (base := base) (P := l.prog) (w := w) (ok_dealt_of (k := 0) F9 T K6) (PySem.W.mg_of X G a9) k9 b9
  have K10 := Kn.mk (base := base) (P := l.prog) (w := w) (ok_is_row (k := 0) F10 T K3 b3' K5 K6) (PySem.W.mg_of X G a10) k10 b10
  have K11 := Kn.mk (base := base) (P := l.prog) (w := w) (ok_are_shares (k := 0) F11 T K10 K5 K3 b3' K9) (PySem.W.mg_of X G a11) k11 b11
  have K12 := Kn.mk (base := base) (P := l.prog) (w := w) (ok_is_shares (k := 0) F12 T K11) (PySem.W.mg_of X G a12) k12 b12
  have K13 := Kn.mk (base := base) (P := l.prog) (w := w) (ok__law_cell_at (k := 0) F13 T ) (PySem.W.mg_of X G a13) k13 b13
  have K14 := Kn.mk (base := base) (P := l.prog) (w := w) (ok__law_stream (k := 0) F14 T ) (PySem.W.mg_of X G a14) k14 b14
  have K15 := Kn.mk (base := base) (P := l.prog) (w := w) (ok__law_order (k := 0) F15 T K14) (PySem.W.mg_of X G a15) k15 b15
  have K16 := Kn.mk (base := base) (P := l.prog) (w := w) (ok__law_orders (k := 0) F16 T K15) (PySem.W.mg_of X G a16) k16 b16
  have K17 := Kn.mk (base := base) (P := l.prog) (w := w) (ok__law_counts (k := 0) F17 T K14) (PySem.W.mg_of X G a17) k17 b17
  have K18 := Kn.mk (base := base) (P := l.prog) (w := w) (ok__law_divisor (k := 0) F18 T ) (PySem.W.mg_of X G a18) k18 b18
  have K19 := Kn.mk (base := base) (P := l.prog) (w := w) (ok__law_lowest (k := 0) F19 T K18) (PySem.W.mg_of X G a19) k19 b19
  have K20 := Kn.mk (base := base) (P := l.prog) (w := w) (ok__law_deal (k := 0) F20 T K14) (PySem.W.mg_of X G a20) k20 b20
  have K21 := Kn.mk (base := base) (P := l.prog) (w := w) (ok__law_drawn (k := 0) F21 T K20 K19) (PySem.W.mg_of X G a21) k21 b21
  have K22 := Kn.mk (base := base) (P := l.prog) (w := w) (ok__law_all (k := 0) F22 T K18) (PySem.W.mg_of X G a22) k22 b22
  have K23 := Kn.mk (base := base) (P := l.prog) (w := w) (ok__law_due (k := 0) F23 T K22) (PySem.W.mg_of X G a23) k23 b23
  have K24 := Kn.mk (base := base) (P := l.prog) (w := w) (ok__law_put (k := 0) F24 T K19) (PySem.W.mg_of X G a24) k24 b24
  have K25 := Kn.mk (base := base) (P := l.prog) (w := w) (ok__law_spoiled (k := 0) F25 T K14 K24) (PySem.W.mg_of X G a25) k25 b25
  exact law_ok (ok_law (k := 0) F26 T K13 K17 K16 K8 K21 K23 K12 K25)
theorem walk {l : PySem.W.OpenLaw} {q : Program} {loose : List Str} {XP : (Str → Option Value) → Heap → Prop} {YP : World → Heap → Prop} {d : DefRec} {K : Params → PySem.W.Frag} (hn : l.most = some 63) (hdf : d.params.defaults = [])
    (hY : ∀ (w : World) (h : Heap), YP w h → (K w.params).In h)
    (F : ∀ (w : World) (mg : Str → Option Value) (fa : Addr) (h : Heap), (K w.params).In h → h.Ns mainGlobals mg → mg d.name = some (.ref fa) →
      ∃ fd : FuncData, (∀ (s : Shared) (u : Value), BindsTo s fd ⟨[u], []⟩ [("_law_script", u)]) ∧ ∀ base : Heap, (K w.params).In base → base.Ns mainGlobals mg → FnOk l.prog w (K w.params) mg base CX0 8 fa fd ["_law_script"] (spLaw (K w.params))) :
    PySem.W.WalkO q loose XP YP l.row.toRowW d [] (fun f vs => PySem.call f vs) :=
  L2.walk_of (n := 63) (k := 8) (x := "_law_script") (CX := fun _ => CX0) (sp := fun w => spLaw (K w.params)) hn (by decide) hdf ⟨rfl, by decide, by decide⟩ hY F (fun _ _ a ns hl _ hS => ⟨a, ns, rfl, hS, hl, fun _ => rfl⟩) fun _ _ _ _ _ z => z
end K10
open PySem PySem.W PyProof.Rows
set_option maxRecDepth 100000 in
set_option maxHeartbeats 0 in
theorem PySem.Challenge.cw_lotmeal_k10_shares_or_none_holds : PySem.Challenge.rw_lotmeal_k10_shares_or_none.Holds := by
  w_on; o_law; k_head; (case hw => w_witness2)
  k_fill
  refine K10.walk (l := PySem.Challenge.rw_lotmeal_k10_shares_or_none) rfl rfl (fun w h Y => PySem.W.kIn_of Y) ?F
  case F =>
    intro w mg fa h KX G hmg
    refine' K10.all_mk KX G hmg ?a1 ?l1 ?c1 ?k1 ?a2 ?l2 ?c2 ?k2 ?a3 ?l3 ?d3 ?c3 ?k3 ?a4 ?l4 ?c4 ?k4 ?a5 ?l5 ?c5 ?k5 ?a6 ?l6 ?c6 ?k6 ?a7 ?l7 ?c7 ?k7 ?a8 ?l8 ?c8 ?k8 ?a9 ?l9 ?c9 ?k9 ?a10 ?l10 ?c10 ?k10 ?a11 ?l11 ?c11 ?k11 ?a12 ?l12 ?c12 ?k12 ?a13 ?l13 ?c13 ?k13 ?a14 ?l14 ?c14 ?k14 ?a15 ?l15 ?c15 ?k15 ?a16 ?l16 ?c16 ?k16 ?a17 ?l17 ?c17 ?k17 ?a18 ?l18 ?c18 ?k18 ?a19 ?l19 ?c19 ?k19 ?a20 ?l20 ?c20 ?k20 ?a21 ?l21 ?c21 ?k21 ?a22 ?l22 ?c22 ?k22 ?a23 ?l23 ?c23 ?k23 ?a24 ?l24 ?c24 ?k24 ?a25 ?l25 ?c25 ?k25 ?a26 ?l26 ?c26 ?k26 ?z_isinstance ?z_int ?z_bool ?z_list ?z_tuple ?z_len ?z_range ?z_zip ?z_any ?z_all ?z_enumerate ?z_set ?z_abs ?z_sum ?z_min ?g_MOST ?g_MOST_COUNT
    (case a1 => k_is)
    (case l1 => k_is)
    (case c1 => k_is)
    (case k1 => k_is)
    (case a2 => k_is)
    (case l2 => k_is)
    (case c2 => k_is)
    (case k2 => k_is)
    (case a3 => k_is)
    (case l3 => k_is)
    (case d3 => k_is)
    (case c3 => k_is)
    (case k3 => k_is)
    (case a4 => k_is)
    (case l4 => k_is)
    (case c4 => k_is)
    (case k4 => k_is)
    (case a5 => k_is)
    (case l5 => k_is)
    (case c5 => k_is)
    (case k5 => k_is)
    (case a6 => k_is)
    (case l6 => k_is)
    (case c6 => k_is)
    (case k6 => k_is)
    (case a7 => k_is)
    (case l7 => k_is)
    (case c7 => k_is)
    (case k7 => k_is)
    (case a8 => k_is)
    (case l8 => k_is)
    (case c8 => k_is)
    (case k8 => k_is)
    (case a9 => k_is)
    (case l9 => k_is)
    (case c9 => k_is)
    (case k9 => k_is)
    (case a10 => k_is)
    (case l10 => k_is)
    (case c10 => k_is)
    (case k10 => k_is)
    (case a11 => k_is)
    (case l11 => k_is)
    (case c11 => k_is)
    (case k11 => k_is)
    (case a12 => k_is)
    (case l12 => k_is)
    (case c12 => k_is)
    (case k12 => k_is)
    (case a13 => k_is)
    (case l13 => k_is)
    (case c13 => k_is)
    (case k13 => k_is)
    (case a14 => k_is)
    (case l14 => k_is)
    (case c14 => k_is)
    (case k14 => k_is)
    (case a15 => k_is)
    (case l15 => k_is)
    (case c15 => k_is)
    (case k15 => k_is)
    (case a16 => k_is)
    (case l16 => k_is)
    (case c16 => k_is)
    (case k16 => k_is)
    (case a17 => k_is)
    (case l17 => k_is)
    (case c17 => k_is)
    (case k17 => k_is)
    (case a18 => k_is)
    (case l18 => k_is)
    (case c18 => k_is)
    (case k18 => k_is)
    (case a19 => k_is)
    (case l19 => k_is)
    (case c19 => k_is)
    (case k19 => k_is)
    (case a20 => k_is)
    (case l20 => k_is)
    (case c20 => k_is)
    (case k20 => k_is)
    (case a21 => k_is)
    (case l21 => k_is)
    (case c21 => k_is)
    (case k21 => k_is)
    (case a22 => k_is)
    (case l22 => k_is)
    (case c22 => k_is)
    (case k22 => k_is)
    (case a23 => k_is)
    (case l23 => k_is)
    (case c23 => k_is)
    (case k23 => k_is)
    (case a24 => k_is)
    (case l24 => k_is)
    (case c24 => k_is)
    (case k24 => k_is)
    (case a25 => k_is)
    (case l25 => k_is)
    (case c25 => k_is)
    (case k25 => k_is)
    (case a26 => k_is)
    (case l26 => k_is)
    (case c26 => k_is)
    (case k26 => k_is)
    (case z_isinstance => k_is)
    (case z_int => k_is)
    (case z_bool => k_is)
    (case z_list => k_is)
    (case z_tuple => k_is)
    (case z_len => k_is)
    (case z_range => k_is)
    (case z_zip => k_is)
    (case z_any => k_is)
    (case z_all => k_is)
    (case z_enumerate => k_is)
    (case z_set => k_is)
    (case z_abs => k_is)
    (case z_sum => k_is)
    (case z_min => k_is)
    (case g_MOST => k_is)
    (case g_MOST_COUNT => k_is)
#print axioms PySem.Challenge.cw_lotmeal_k10_shares_or_none_holds
