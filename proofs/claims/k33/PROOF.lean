import PyProof.Rows.All
import Wide.All
import OpenK.AllK
import Wide.FinOn
import Lean
import PyProof.EqAt
import PyProof.EqKinds
import PyProof.TupleCall
import PyProof.NeKinds
import PyProof.ZipIter
import PyProof.WalksEnum
import PyProof.CompUse
import PyProof.ListRange
import PyProof.Rows.SetFrom
import PyProof.Rows.SortWalk
import PyProof.Rows.SeqMore2
import PyProof.SetRoads
import KE.KRevIter
import PyProof.WalksMore
import PyProof.AutoRange
import PyProof.ListNew
import PySem.Challenge.RW_lotmeal_k33_planted_papers
set_option Elab.async false
set_option linter.all false
set_option maxRecDepth 100000
set_option maxHeartbeats 4000000
namespace L2
open PySem PySem.Spec PyProof.Rows
abbrev Key := Sum Int Str
def keyIs : Key → Value → Bool
  | .inl k, v => Value.isInt k v
  | .inr x, v => Value.isStrOf x v
def keyH (w : World) : Key → Int
  | .inl k => hashInt k
  | .inr x => hashStr w x
theorem keyIs_shape : ∀ {k : Key} {v : Value}, keyIs k v = true → (∃ i t, k = Sum.inl i ∧ v = Value.int i t) ∨ (∃ x t, k = Sum.inr x ∧ v = Value.str x t)
  | .inl i, v, h => by
    obtain ⟨t, e⟩ := Value.isInt_shape (k := i) (v := v) h
    exact .inl ⟨i, t, rfl, e⟩
  | .inr x, v, h => by
    obtain ⟨t, e⟩ := Value.isStrOf_shape (x := x) (v := v) h
    exact .inr ⟨x, t, rfl, e⟩
theorem keyIs_int (i : Int) (t : Tok) : keyIs (.inl i) (.int i t) = true := by simp [keyIs, Value.isInt]
theorem keyIs_str (x : Str) (t : Tok) : keyIs (.inr x) (.str x t) = true := by simp [keyIs, Value.isStrOf]
theorem key_ll (a b : Int) : decide ((Sum.inl a : Key) = Sum.inl b) = (a == b) := by
  by_cases e : a = b
  · subst e; simp
  · have h : ¬ (Sum.inl a : Key) = Sum.inl b := fun q => e (Sum.inl.inj q)
    rw [decide_eq_false h]
    exact (beq_eq_false_iff_ne.mpr e).symm
theorem key_rr (a b : Str) : decide ((Sum.inr a : Key) = Sum.inr b) = decide (a = b) := by
  by_cases e : a = b
  · subst e; simp
  · have h : ¬ (Sum.inr a : Key) = Sum.inr b := fun q => e (Sum.inr.inj q)
    rw [decide_eq_false h, decide_eq_false e]
theorem key_lr (a : Int) (b : Str) : decide ((Sum.inl a : Key) = Sum.inr b) = false := decide_eq_false (fun q => nomatch q)
theorem key_rl (a : Str) (b : Int) : decide ((Sum.inr a : Key) = Sum.inl b) = false := decide_eq_false (fun q => nomatch q)
def mixKind (prog : Program) (w : World) : PySem.KeyKind prog w Key where
  is := keyIs
  hash := keyH w
  inj := fun v a b ha hb => by
    rcases keyIs_shape ha with ⟨i, t, rfl, rfl⟩ | ⟨x, t, rfl, rfl⟩
    · rcases keyIs_shape hb with ⟨j, u, rfl, e⟩ | ⟨y, u, rfl, e⟩
      · injection e with e1 _; rw [e1]
      · exact nomatch e
    · rcases keyIs_shape hb with ⟨j, u, rfl, e⟩ | ⟨y, u, rfl, e⟩
      · exact nomatch e
      · injection e with e1 _; rw [e1]
  byValue := fun k v h => by
    rcases keyIs_shape h with ⟨i, t, rfl, rfl⟩ | ⟨x, t, rfl, rfl⟩ <;> rfl
  pyHash := fun hv h => by
    rcases keyIs_shape hv with ⟨i, t, rfl, rfl⟩ | ⟨x, t, rfl, rfl⟩
    · exact wpAny_pyHash_int h
    · exact wpAny_pyHash_str h
  eqBool := fun hu hv h => by
    rcases keyIs_shape hu with ⟨i, t, rfl, rfl⟩ | ⟨x, t, rfl, rfl⟩
    · rcases keyIs_shape hv with ⟨j, u, rfl, rfl⟩ | ⟨y, u, rfl, rfl⟩
      · rw [key_ll] at h; exact wpAny_eqBool_int h
      · rw [key_lr] at h; exact SeqAt.EqAt.int_str i t y u _ _ _ _ h
    · rcases keyIs_shape hv with ⟨j, u, rfl, rfl⟩ | ⟨y, u, rfl, rfl⟩
      · rw [key_rl] at h; exact SeqAt.EqAt.str_int x t j u _ _ _ _ h
      · rw [key_rr] at h; exact wpAny_eqBool_str h
  «strs» := fun k x t v h => by
    rcases keyIs_shape h with ⟨i, u, rfl, e⟩ | ⟨y, u, rfl, e⟩
    · exact nomatch e
    · injection e with e1 _
      subst e1
      cases v <;> rfl
theorem mixKind_is (prog : Program) (w : World) (k : Key) (v : Value) : (mixKind prog w).is k v = keyIs k v := rfl
theorem mixKind_int (prog : Program) (w : World) (i : Int) (t : Tok) : (mixKind prog w).is (.inl i) (.int i t) = true := keyIs_int i t
theorem mixKind_str (prog : Program) (w : World) (x : Str) (t : Tok) : (mixKind prog w).is (.inr x) (.str x t) = true := keyIs_str x t
end L2
namespace L2
open PySem PySem.Spec PyProof.Rows
inductive V where
  | non | bl (b : Bool) | int (i : Int) | str (x : Str) | byt (b : Array UInt8) | flt (b : UInt64) | ref (a : Addr) | ty (n : String)
  deriving DecidableEq
def RelV : V → Value → Prop
  | .non, u => u = Value.none
  | .bl b, u => u = Value.bool b
  | .int i, u => ∃ t, u = Value.int i t
  | .str x, u => ∃ t, u = Value.str x t
  | .byt b, u => ∃ t, u = Value.bytes b t
  | .flt b, u => ∃ t, u = Value.float b t
  | .ref a, u => u = Value.ref a
  | .ty n, u => u = Value.type n
abbrev Vals : List V → List Value → Prop := Paired RelV
theorem Vals.length {xs : List V} {us : List Value} (r : Vals xs us) : xs.length = us.length := Paired.length r
theorem Vals.get : ∀ {xs : List V} {us : List Value} {i : Nat} {x : V}, Vals xs us → xs[i]? = some x → ∃ u, us[i]? = some u ∧ RelV x u
  | _, _, _, _, .nil, e => by simp at e
  | _, _, 0, _, .cons r _, e => by simp at e; subst e; exact ⟨_, rfl, r⟩
  | _, _, i + 1, x, .cons _ t, e => by
    obtain ⟨u, h1, h2⟩ := Vals.get (i := i) (x := x) t (by simpa using e)
    exact ⟨u, by simpa using h1, h2⟩
theorem Vals.set {x : V} {u : Value} (r : RelV x u) : ∀ {xs : List V} {us : List Value} (i : Nat), Vals xs us → Vals (xs.set i x) (us.set i u)
  | _, _, _, .nil => .nil
  | _, _, 0, .cons _ t => .cons r t
  | _, _, i + 1, .cons q t => .cons q (Vals.set r i t)
theorem Vals.append : ∀ {xs ys : List V} {us ws : List Value}, Vals xs us → Vals ys ws → Vals (xs ++ ys) (us ++ ws)
  | _, _, _, _, .nil, s => s
  | _, _, _, _, .cons r t, s => .cons r (Vals.append t s)
theorem Vals.take : ∀ {xs : List V} {us : List Value} (n : Nat), Vals xs us → Vals (xs.take n) (us.take n)
  | _, _, 0, _ => .nil
  | _, _, _ + 1, .nil => .nil
  | _, _, n + 1, .cons r t => .cons r (Vals.take n t)
theorem Vals.drop : ∀ {xs : List V} {us : List Value} (n : Nat), Vals xs us → Vals (xs.drop n) (us.drop n)
  | _, _, 0, r => r
  | _, _, _ + 1, .nil => .nil
  | _, _, n + 1, .cons _ t => Vals.drop n t
def RelO : Option V → Option Value → Prop
  | some v, some u => RelV v u
  | none, none => True
  | _, _ => False
def KV {κ : Type} : List (κ × V) → List (κ × Value) → Prop := Paired fun (p : κ × V) (q : κ × Value) => p.1 = q.1 ∧ RelV p.2 q.2
def kV : Key → V
  | .inl i => .int i
  | .inr x => .str x
inductive HO where
  | lst (xs : List V)
  | tup (xs : List V)
  | dK (kvs : List (Key × V)) | dT (kvs : List (List Key × V))
  | set (S : Int → Bool) (n : Nat)
  | ins (C dx : Addr) (fs : List (Str × V))
  | own (x : Addr)
  | xd (fs : List (Str × V))
  | met (f x : Addr)
  | rng (lo hi : Int)
  | frz (o : Obj) (u : HO)
  | tbl (ps : Array Value)
  | ext (φ : Heap → Prop)
abbrev Hp := Addr → Option HO
def upd (H : Hp) (a : Addr) (o : HO) : Hp := fun b => if b = a then some o else H b
theorem upd_same {H : Hp} {a : Addr} {o : HO} : upd H a o a = some o := by unfold upd; rw [if_pos rfl]
theorem upd_ne {H : Hp} {a b : Addr} {o : HO} (h : b ≠ a) : upd H a o b = H b := by unfold upd; rw [if_neg h]
theorem ne_of {H : Hp} {a b : Addr} {o u : HO} (h : H a = some o) (h' : H b = some u) (d : o ≠ u) : a ≠ b := by
  intro e; subst e; rw [h] at h'; exact d (Option.some.inj h')
theorem ne_of_none {H : Hp} {a b : Addr} {o : HO} (h : H a = some o) (h' : H b = none) : a ≠ b := by
  intro e; subst e; rw [h] at h'; cases h'
section
variable (P : Program) (w : World)
def ObjOk (H : Hp) (h : Heap) (a : Addr) : HO → Prop
  | .lst xs => xs.length ≤ sizeLine ∧ ∃ (its : List Value) (n : Nat), Vals xs its ∧ h.get? a = some { cls := .type "list", data := .seq its.toArray n }
  | .tup xs => xs.length ≤ sizeLine ∧ ∃ its : List Value, Vals xs its ∧ IsTup h a its.toArray
  | .dK kvs => kvs.length ≤ sizeLine ∧ (a == sysModules) = false ∧ ∃ vs, KV kvs vs ∧ h.DictOf (mixKind P w) a vs
  | .dT kvs => kvs.length ≤ sizeLine ∧ (a == sysModules) = false ∧ ∃ xs : List (List Key × Addr × Value),
      Paired (fun (p : List Key × V) (q : List Key × Addr × Value) => p.1 = q.1 ∧ H q.2.1 = some (.tup (p.1.map kV)) ∧ RelV p.2 q.2.2) kvs xs ∧
      ∃ o es ep, h.get? a = some o ∧ o.ExactDict ∧ o.data = .dict es ep ∧ es.toList = xs.map (entryOfKey (tupleKind (mixKind P w))) ∧ (xs.map (·.1)).Nodup
  | .set S n => h.SetOf (intKind P w) a S n
  | .ins C dx fs => H dx = some (.own a) ∧ fs.length ≤ 1000 ∧ dx ≠ a ∧ h.get? a = some (PySem.W.instObj C dx) ∧
      ∃ mA, h.Ns1 dx mA ∧ (∀ f, RelO (fs.lookup f) (mA f)) ∧ PySem.Within mA (fs.map (·.1))
  | .own _ => ∃ o, h.get? a = some o
  | .xd fs => ∃ mA, h.Ns1 a mA ∧ ∀ f, RelO (fs.lookup f) (mA f)
  | .rng lo hi => ∃ t u v, h.get? a = some { cls := .type "range", data := .fields #[.int lo t, .int hi u, .int 1 v] }
  | .frz o u => h.get? a = some o ∧ ObjOk H h a u
  | .tbl ps => h.get? a = some { cls := .none, data := .fields ps }
  | .met f x => h.get? a = some (PySem.W.methodObj (.ref f) (.ref x))
  | .ext φ => φ h ∧ (∃ o, h.get? a = some o) ∧ ∀ h1 h2 : Heap, φ h1 → (∀ o, h1.get? a = some o → h2.get? a = some o) → φ h2
def HOk (H : Hp) (h : Heap) : Prop := ∀ a o, H a = some o → ObjOk P w H h a o
end
section
variable {P : Program} {w : World} {H H' : Hp} {h h' : Heap} {a : Addr} {o : HO}
theorem ObjOk.lt (x : ObjOk P w H h a o) : a < h.objs.size := by
  cases o with
  | lst xs => obtain ⟨_, _, _, _, e⟩ := x; exact Heap.lt_size e
  | tup xs => obtain ⟨_, _, _, p⟩ := x; exact p.lt
  | dK kvs => obtain ⟨_, _, _, _, o, _, _, e, _⟩ := x; exact Heap.lt_size e
  | dT kvs => obtain ⟨_, _, _, _, o, _, _, e, _⟩ := x; exact Heap.lt_size e
  | set S n => obtain ⟨o, _, _, _, e, _⟩ := x; exact Heap.lt_size e
  | ins C dx fs => obtain ⟨_, _, _, e, _⟩ := x; exact Heap.lt_size e
  | own y => obtain ⟨_, e⟩ := x; exact Heap.lt_size e
  | xd fs => obtain ⟨_, ⟨_, _, _, e, _⟩, _⟩ := x; exact Heap.lt_size e
  | rng lo hi => obtain ⟨_, _, _, e⟩ := x; exact Heap.lt_size e
  | frz ob u => obtain ⟨e, _⟩ := x; exact Heap.lt_size e
  | tbl ps => exact Heap.lt_size (show h.get? a = some _ from x)
  | met f y => exact Heap.lt_size (show h.get? a = some _ from x)
  | ext φ => obtain ⟨_, ⟨_, e⟩, _⟩ := x; exact Heap.lt_size e
theorem Paired.mapP {α β : Type} {F G : α → β → Prop} : ∀ {l₁ : List α} {l₂ : List β}, Paired F l₁ l₂ → (∀ a b, F a b → G a b) → Paired G l₁ l₂
  | _, _, .nil, _ => .nil
  | _, _, .cons r t, f => .cons (f _ _ r) (Paired.mapP t f)
theorem ObjOk.stay (x : ObjOk P w H h a o) (k : ∀ b u, (b = a ∨ H b = some (.own a)) → h.get? b = some u → h'.get? b = some u)
    (ho : ∀ b, H b = some (.own a) → H' b = some (.own a)) (ht : ∀ b xs, H b = some (.tup xs) → H' b = some (.tup xs)) : ObjOk P w H' h' a o := by
  induction o with
  | lst xs => obtain ⟨z, its, n, r, e⟩ := x; exact ⟨z, its, n, r, k _ _ (.inl rfl) e⟩
  | tup xs => obtain ⟨z, its, r, ob, e, c⟩ := x; exact ⟨z, its, r, ob, k _ _ (.inl rfl) e, c⟩
  | dK kvs => obtain ⟨z, y, vs, r, ob, es, ep, e, c⟩ := x; exact ⟨z, y, vs, r, ob, es, ep, k _ _ (.inl rfl) e, c⟩
  | dT kvs =>
    obtain ⟨z, y, xs, r, ob, es, ep, e, c⟩ := x
    exact ⟨z, y, xs, Paired.mapP r fun p q z => ⟨z.1, ht _ _ z.2.1, z.2.2⟩, ob, es, ep, k _ _ (.inl rfl) e, c⟩
  | set S n => obtain ⟨ob, es, ep, t, e, c⟩ := x; exact ⟨ob, es, ep, t, k _ _ (.inl rfl) e, c⟩
  | ins C dx fs =>
    obtain ⟨d, z, ne, e, mA, ⟨od, es, ep, e2, c⟩, r⟩ := x
    exact ⟨ho _ d, z, ne, k _ _ (.inl rfl) e, mA, ⟨od, es, ep, k _ _ (.inr d) e2, c⟩, r⟩
  | own y => obtain ⟨ob, e⟩ := x; exact ⟨ob, k _ _ (.inl rfl) e⟩
  | xd fs => obtain ⟨mA, ⟨od, es, ep, e, c⟩, r⟩ := x; exact ⟨mA, ⟨od, es, ep, k _ _ (.inl rfl) e, c⟩, r⟩
  | rng lo hi => obtain ⟨t, u, v, e⟩ := x; exact ⟨t, u, v, k _ _ (.inl rfl) e⟩
  | frz ob u ih => obtain ⟨e, q⟩ := x; exact ⟨k _ _ (.inl rfl) e, ih q⟩
  | tbl ps =>
    have e : h.get? a = some { cls := .none, data := .fields ps } := x
    show h'.get? a = some { cls := .none, data := .fields ps }
    exact k a _ (.inl rfl) e
  | met f y =>
    have e : h.get? a = some (PySem.W.methodObj (.ref f) (.ref y)) := x
    show h'.get? a = some (PySem.W.methodObj (.ref f) (.ref y))
    exact k a _ (.inl rfl) e
  | ext φ => obtain ⟨p, ⟨o, e⟩, st⟩ := x; exact ⟨st _ _ p fun o q => k _ _ (.inl rfl) q, ⟨o, k _ _ (.inl rfl) e⟩, st⟩
theorem HOk.lt (x : HOk P w H h) (e : H a = some o) : a < h.objs.size := (x a o e).lt
theorem HOk.fresh (x : HOk P w H h) (e : h.objs.size ≤ a) : H a = none := by
  cases q : H a with
  | none => rfl
  | some u => exact absurd (Nat.lt_of_lt_of_le (x.lt q) e) (Nat.lt_irrefl _)
theorem HOk.kept (x : HOk P w H h) (k : ∀ b u, h.get? b = some u → h'.get? b = some u) : HOk P w H h' := fun a o e =>
  (x a o e).stay (fun b u _ q => k b u q) (fun _ q => q) fun _ _ q => q
theorem HOk.laid (x : HOk P w H h) (k : ∀ b u, h.get? b = some u → h'.get? b = some u) (hp : h.objs.size ≤ a) (new : ObjOk P w (upd H a o) h' a o) : HOk P w (upd H a o) h' := fun b u e => by
  have hn := x.fresh hp
  by_cases hb : b = a
  · subst hb; rw [upd_same] at e; cases e; exact new
  · rw [upd_ne hb] at e
    exact (x b u e).stay (fun c v _ q => k c v q) (fun c q => by rw [upd_ne (ne_of_none q hn)]; exact q) fun c xs q => by rw [upd_ne (ne_of_none q hn)]; exact q
end
def Rd (H : Hp) (a : Addr) (u : HO) : Prop := H a = some u ∨ ∃ o, H a = some (.frz o u)
theorem Rd.ok {P : Program} {w : World} {H : Hp} {h : Heap} {a : Addr} {u : HO} (r : Rd H a u) (x : HOk P w H h) : ObjOk P w H h a u := by
  rcases r with r | ⟨o, r⟩
  · exact x a u r
  · obtain ⟨_, q⟩ := x a _ r
    exact q
def Mut : Option HO → Prop
  | some (.lst _) => True
  | some (.dK _) => True
  | some (.dT _) => True
  | some (.set _ _) => True
  | some (.ins _ _ _) => True
  | some (.ext _) => True
  | _ => False
section
variable {P : Program} {w : World} {H : Hp} {h h' : Heap} {x e : Addr} {o' : HO}
theorem HOk.write (ok : HOk P w H h) (mu : Mut (H x)) (he : e = x ∨ H e = some (.own x)) (k : ∀ b u, b ≠ e → h.get? b = some u → h'.get? b = some u) (heo : ∃ u, h'.get? e = some u)
    (new : ObjOk P w (upd H x o') h' x o') : HOk P w (upd H x o') h' := fun b u q => by
  have nown : ∀ c y, H c = some (.own y) → c ≠ x := fun c y r z => by subst z; rw [r] at mu; exact mu
  have ntup : ∀ c xs, H c = some (.tup xs) → c ≠ x := fun c xs r z => by subst z; rw [r] at mu; exact mu
  by_cases hb : b = x
  · subst hb; rw [upd_same] at q; cases q; exact new
  · rw [upd_ne hb] at q
    by_cases hbe : b = e
    · have q' : H b = some (.own x) := by
        rcases he with z | z
        · exact absurd (hbe.trans z) hb
        · rw [hbe]; exact z
      rw [q] at q'; cases q'
      obtain ⟨v, hv⟩ := heo
      exact ⟨v, by rw [hbe]; exact hv⟩
    · refine (ok b u q).stay (fun c v hc r => k c v ?_ r) (fun c r => by rw [upd_ne (nown c b r)]; exact r) fun c xs r => by rw [upd_ne (ntup c xs r)]; exact r
      rcases hc with rfl | hc
      · exact hbe
      · rintro rfl
        rcases he with z | z
        · exact nown c b hc z
        · rw [hc] at z; cases z; exact hb rfl
end
structure Un (fs ex : List Addr) (H H' : Hp) (h h' : Heap) : Prop where
  keep : ∀ b o, h.get? b = some o → H b = none → b ∉ fs → b ∉ ex → h'.get? b = some o
  slot : ∀ b o, h.get? b = some o → H b = none → b ∈ fs → b ∉ ex → ∃ sl, h'.get? b = some { o with slots := sl }
  free : ∀ b o, h.get? b = some o → H b = none → b ∉ ex → H' b = none
  there : ∀ b o, h.get? b = some o → b ∉ ex → ∃ o', h'.get? b = some o'
  tups : ∀ b xs, H b = some (.tup xs) → H' b = some (.tup xs)
  frzs : ∀ b o u, H b = some (.frz o u) → H' b = some (.frz o u)
  tbls : ∀ b ps, H b = some (.tbl ps) → ∃ more, H' b = some (.tbl (ps ++ more))
section
variable {fs fs' ex ex' : List Addr} {H H1 H2 : Hp} {h h1 h2 h' : Heap} {a x e : Addr} {o : HO}
theorem Un.any (u : Un fs ex H H1 h h1) {b : Addr} {ob : Obj} (q : h.get? b = some ob) (n : H b = none) (hx : b ∉ ex) : ∃ sl, h1.get? b = some { ob with slots := sl } := by
  by_cases hb : b ∈ fs
  · exact u.slot b ob q n hb hx
  · exact ⟨ob.slots, u.keep b ob q n hb hx⟩
theorem Un.kept (k : ∀ b u, h.get? b = some u → h'.get? b = some u) : Un fs ex H H h h' :=
  ⟨fun b ob q _ _ _ => k b ob q, fun b ob q _ _ _ => ⟨ob.slots, k b ob q⟩, fun _ _ _ n _ => n, fun b ob q _ => ⟨ob, k b ob q⟩, fun _ _ q => q, fun _ _ _ q => q, fun _ ps q => ⟨#[], by rw [q]; simp⟩⟩
theorem Un.refl : Un fs ex H H h h := Un.kept fun _ _ q => q
theorem Un.laid (k : ∀ b u, h.get? b = some u → h'.get? b = some u) (hp : h.objs.size ≤ a) (hn : H a = none) : Un fs ex H (upd H a o) h h' where
  keep := fun b u q _ _ _ => k b u q
  slot := fun b u q _ _ _ => ⟨u.slots, k b u q⟩
  free := fun b u q n _ => by rw [upd_ne (Nat.ne_of_lt (Nat.lt_of_lt_of_le (Heap.lt_size q) hp))]; exact n
  there := fun b u q _ => ⟨u, k b u q⟩
  tups := fun b xs q => by rw [upd_ne (ne_of_none q hn)]; exact q
  frzs := fun b u xs q => by rw [upd_ne (ne_of_none q hn)]; exact q
  tbls := fun b ps q => ⟨#[], by rw [upd_ne (ne_of_none q hn), q]; simp⟩
theorem Un.write (mu : Mut (H x)) (he : e = x ∨ H e = some (.own x)) (k : ∀ b u, b ≠ e → h.get? b = some u → h'.get? b = some u) (heo : ∃ u, h'.get? e = some u) : Un fs ex H (upd H x o) h h' := by
  have hx : ∀ b, H b = none → b ≠ x := fun b n z => by subst z; rw [n] at mu; exact mu
  have hb : ∀ b, H b = none → b ≠ e := fun b n z => by
    subst z
    rcases he with r | r
    · exact hx b n r
    · rw [n] at r; cases r
  have hm : ∀ b u, H b = some u → ¬ Mut (some u) → b ≠ x := fun b u q nm z => by subst z; rw [q] at mu; exact nm mu
  refine ⟨fun b u q n _ _ => k b u (hb b n) q, fun b u q n _ _ => ⟨u.slots, k b u (hb b n) q⟩, fun b u q n _ => by rw [upd_ne (hx b n)]; exact n, fun b u q _ => ?_,
    fun b xs q => by rw [upd_ne (hm b _ q fun z => z)]; exact q, fun b u xs q => by rw [upd_ne (hm b _ q fun z => z)]; exact q, fun b ps q => ⟨#[], by rw [upd_ne (hm b _ q fun z => z), q]; simp⟩⟩
  by_cases hbe : b = e
  · subst hbe; exact heo
  · exact ⟨u, k b u hbe q⟩
end
def trk (h : Heap) (H : Hp) : List Addr := (List.range h.objs.size).filter fun a => (H a).isSome
def hidT (h : Heap) (H : Hp) : Heap := PySem.W.hideAll h (trk h H)
theorem hidT_size (h : Heap) (H : Hp) : (hidT h H).objs.size = h.objs.size := PySem.W.hideAll_size _ _
theorem hidT_get {h : Heap} {H : Hp} {b : Addr} {o : Obj} (e : h.get? b = some o) (n : H b = none) : (hidT h H).get? b = some o :=
  PySem.W.hideAll_get _ e fun hm => by
    have q : (H b).isSome = true := (List.mem_filter.mp hm).2
    rw [n] at q; simp at q
theorem of_hidT {h : Heap} {H : Hp} {b : Addr} {o : Obj} (e : (hidT h H).get? b = some o) : h.get? b = some o ∧ H b = none := by
  have e' : h.get? b = some o := PySem.W.of_hideAll (trk h H) e
  refine ⟨e', ?_⟩
  cases q : H b with
  | none => rfl
  | some x =>
    have hm : b ∈ trk h H := List.mem_filter.mpr ⟨List.mem_range.mpr (Heap.lt_size e'), by simp [q]⟩
    have z : (hidT h H).get? b = none := PySem.W.hideAll_none (trk h H) hm
    rw [z] at e; cases e
end L2
namespace L2
open PySem PySem.Spec PyProof.Rows
structure Mod (K : PySem.W.Frag) (mg : Str → Option Value) (base : Heap) : Prop where
  kin : K.In base
  glob : base.Ns mainGlobals mg
  blt : ∃ mb, base.Ns builtinsNs mb ∧ ∀ x : Str, x ≠ "__name__" → mb x = bootBuiltins x
  nolimit : base.NoLimit
structure Cx where
  prog : Program
  w : World
  K : PySem.W.Frag
  mg : Str → Option Value
  base : Heap
  A : Around
  N : List Str
  s₀ : Shared
  H₀ : Hp
  env : Env
  outer : List Env
  stack : List Env
  ex : List Addr
  fn : Str → Bool
  calm : Bool
  pn : List (Addr × Obj)
  xe : Value → Shared → Prop
def frs (l : List Env) : List Addr := l.filterMap (·.frame)
abbrev Cx.fs (X : Cx) : List Addr := frs X.outer
def Vis (sc : Scope) (x : Str) : Prop := sc.names.lookup x = some .local ∨ sc.names.lookup x = some .cell ∨ sc.names.lookup x = some .free
def Loc (sc : Scope) (x : Str) : Prop := sc.names.lookup x = some .local ∨ sc.names.lookup x = some .cell
def Look (env : Env) (h : Heap) (m : Str → Option Value) (x : Str) (u : Value) : Prop :=
  (env.kindOf x = some .local ∧ m x = some u) ∨ ((env.kindOf x = some .cell ∨ env.kindOf x = some .free) ∧ ∃ c, env.cells.lookup x = some c ∧ h.IsCell c (some u))
structure Cx.Ok (X : Cx) : Prop where
  mod : Mod X.K X.mg X.base
  kind : X.env.scope.kind = .function
  glob : X.env.globals = mainGlobals
  blt : X.env.builtins = builtinsNs
  above : X.s₀.heap.objs.size ≤ X.env.locals
  inj : ∀ x y c, X.env.cells.lookup x = some c → X.env.cells.lookup y = some c → x = y
  has : ∀ x, (X.env.kindOf x = some .cell ∨ X.env.kindOf x = some .free) → ∃ c, X.env.cells.lookup x = some c
  cab : ∀ x c, X.fn x = true → X.env.cells.lookup x = some c → X.s₀.heap.objs.size ≤ c
  hd : X.calm = true → X.A.handled = none
  frames : X.A.frames = some X.stack
  stk : X.stack = X.outer ∨ (X.stack = X.env :: X.outer ∧ X.env.frame = some X.env.locals)
  exf : ∀ b ∈ X.ex, b ≠ X.env.locals ∧ ∀ x c, X.env.cells.lookup x = some c → c ≠ b
  bs : ∀ b o, X.base.get? b = some o → X.s₀.heap.get? b = some o ∧ X.H₀ b = none
  bsz : X.base.objs.size ≤ X.s₀.heap.objs.size
  noex : ∀ b o, X.base.get? b = some o → b ∉ X.ex
  exfs : ∀ b ∈ X.ex, b ∉ X.fs
  funs : X.s₀.heap.FunFrames X.base X.outer
  frf : ∀ b ∈ X.fs, X.H₀ b = none
structure Inv (X : Cx) (pins : List (Addr × Obj)) (σ : List (Option V)) (H : Hp) (s : Shared) : Prop where
  ok : X.Ok
  os : s.os = X.s₀.os
  bare : AllBare s.gens
  base : Un X.fs X.ex X.H₀ H X.s₀.heap s.heap
  loc : ∃ m, s.heap.Ns X.env.locals m ∧ ∀ (i : Nat) (x : Str) (v : V), X.N[i]? = some x → σ[i]? = some (some v) → Vis X.env.scope x → ∃ u, RelV v u ∧ Look X.env s.heap m x u
  cell : ∀ x c, X.env.cells.lookup x = some c → ∃ v, s.heap.IsCell c v
  free : H X.env.locals = none
  freeC : ∀ x c, X.env.cells.lookup x = some c → H c = none
  pin : ∀ p ∈ X.pn ++ pins, s.heap.get? p.1 = some p.2 ∧ H p.1 = none ∧ p.1 ≠ X.env.locals ∧ p.1 ∉ X.fs ∧ ∀ v, p.2.data ≠ .cell v
  hok : HOk X.prog X.w H s.heap
  len : σ.length = X.N.length
section
variable {X : Cx} {pins : List (Addr × Obj)} {σ : List (Option V)} {H H' : Hp} {s : Shared} {h' : Heap}
theorem Cx.Ok.nofr (ok : X.Ok) {b : Addr} {o : Obj} (e : X.base.get? b = some o) : b ∉ X.fs := fun hb => by
  have := (ok.funs.mem hb).1
  rw [e] at this; cases this
theorem Inv.bs (I : Inv X pins σ H s) : ∀ b o, X.base.get? b = some o → s.heap.get? b = some o ∧ H b = none := fun b o e =>
  ⟨I.base.keep b o (I.ok.bs b o e).1 (I.ok.bs b o e).2 (I.ok.nofr e) (I.ok.noex b o e), I.base.free b o (I.ok.bs b o e).1 (I.ok.bs b o e).2 (I.ok.noex b o e)⟩
theorem Inv.bk (I : Inv X pins σ H s) : ∀ b o, X.base.get? b = some o → s.heap.get? b = some o := fun b o e => (I.bs b o e).1
theorem Inv.mod (I : Inv X pins σ H s) : Mod X.K X.mg X.base := I.ok.mod
theorem Inv.kIn (I : Inv X pins σ H s) : X.K.In s.heap := I.ok.mod.kin.keeps I.bk
theorem Inv.lt (I : Inv X pins σ H s) : X.env.locals < s.heap.objs.size := let ⟨_, hn, _⟩ := I.loc; hn.lt
theorem Inv.sz (I : Inv X pins σ H s) : X.s₀.heap.objs.size ≤ s.heap.objs.size := Nat.le_trans I.ok.above (Nat.le_of_lt I.lt)
theorem Inv.nofs (I : Inv X pins σ H s) {a : Addr} (h : s.heap.objs.size ≤ a) : a ∉ X.fs := fun hb => by
  obtain ⟨_, o, ho, _⟩ := I.ok.funs.mem hb
  exact absurd (Nat.lt_of_lt_of_le (Heap.lt_size ho) (Nat.le_trans I.sz h)) (Nat.lt_irrefl _)
theorem Inv.cne (I : Inv X pins σ H s) : ∀ x c, X.env.cells.lookup x = some c → c ≠ X.env.locals := fun x c e z => by
  obtain ⟨v, o, ho, hd⟩ := I.cell x c e
  obtain ⟨m, ⟨o', es, ep, ho', hd', _⟩, _⟩ := I.loc
  rw [z, ho'] at ho; cases ho; rw [hd'] at hd; cases hd
theorem Inv.funs (I : Inv X pins σ H s) : s.heap.FunFrames X.base X.outer := by
  have all : ∀ (l : List Env), (∀ b ∈ frs l, b ∈ X.fs) → X.s₀.heap.FunFrames X.base l → s.heap.FunFrames X.base l := by
    intro l
    induction l with
    | nil => intro _ _; trivial
    | cons env r ih =>
      intro hs hl
      obtain ⟨hk, ⟨L, o, hf, hn, ho, hd⟩, hr⟩ := hl
      have hL : L ∈ X.fs := hs L (by unfold frs; rw [List.filterMap_cons, hf]; exact List.mem_cons_self)
      obtain ⟨sl, e⟩ := I.base.slot L o ho (I.ok.frf L hL) hL fun z => I.ok.exfs L z hL
      exact ⟨hk, ⟨L, _, hf, hn, e, hd⟩, ih (fun b hb => hs b (by unfold frs; rw [List.filterMap_cons, hf]; exact List.mem_cons_of_mem _ hb)) hr⟩
  exact all X.outer (fun _ hb => hb) I.ok.funs
theorem Inv.stack (I : Inv X pins σ H s) : s.heap.FunFrames X.base X.stack := by
  rcases I.ok.stk with e | ⟨e, hf⟩
  · rw [e]; exact I.funs
  · rw [e]
    obtain ⟨m, hn, _⟩ := I.loc
    refine .cons (by rw [I.ok.kind]; decide) hf hn ?_ I.funs
    exact Heap.get?_none_of_le (Nat.le_trans I.ok.bsz I.ok.above)
theorem Inv.stkSub (I : Inv X pins σ H s) : ∀ b ∈ frs X.stack, b ∈ X.env.locals :: X.fs := fun b hb => by
  rcases I.ok.stk with e | ⟨e, hf⟩
  · rw [e] at hb; exact List.mem_cons_of_mem _ hb
  · rw [e] at hb
    unfold frs at hb
    rw [List.filterMap_cons, hf] at hb
    exact hb
theorem Inv.stkFree (I : Inv X pins σ H s) : ∀ b ∈ frs X.stack, H b = none := fun b hb => by
  rcases List.mem_cons.mp (I.stkSub b hb) with e | hb
  · rw [e]; exact I.free
  · obtain ⟨_, o, ho, _⟩ := I.ok.funs.mem hb
    exact I.base.free b o ho (I.ok.frf b hb) fun z => I.ok.exfs b z hb
theorem Inv.step {g' : Array GenState} {t' : Nat} {d' : Drawn} {ch : List Addr} (I : Inv X pins σ H s)
    (hch : ∀ b ∈ ch, (b ∈ X.ex ∨ X.s₀.heap.objs.size ≤ b) ∧ b ≠ X.env.locals ∧ (∀ x c, X.env.cells.lookup x = some c → c ≠ b) ∧ ∀ p ∈ X.pn ++ pins, p.1 ≠ b)
    (keep : ∀ b o, b ≠ X.env.locals → b ∉ X.fs → b ∉ ch → s.heap.get? b = some o → H b = none → h'.get? b = some o)
    (slot : ∀ b o, b ≠ X.env.locals → b ∈ X.fs → b ∉ ch → s.heap.get? b = some o → H b = none → ∃ sl, h'.get? b = some { o with slots := sl }) (free : ∀ b o, b ∉ ch → s.heap.get? b = some o → H b = none → H' b = none)
    (there : ∀ b o, b ∉ ch → s.heap.get? b = some o → ∃ o', h'.get? b = some o')
    (tups : ∀ b xs, H b = some (.tup xs) → H' b = some (.tup xs)) (frzs : ∀ b o u, H b = some (.frz o u) → H' b = some (.frz o u)) (tbls : ∀ b ps, H b = some (.tbl ps) → ∃ more, H' b = some (.tbl (ps ++ more)))
    (ns : ∀ m, s.heap.Ns X.env.locals m → h'.Ns X.env.locals m) (hok : HOk X.prog X.w H' h') (hg : AllBare g') :
    Inv X pins σ H' { s with heap := h', gens := g', drawn := d', toks := t' } := by
  have neL : ∀ b o, X.s₀.heap.get? b = some o → b ≠ X.env.locals := fun b o e => Nat.ne_of_lt (Nat.lt_of_lt_of_le (Heap.lt_size e) I.ok.above)
  have neC : ∀ b o, X.s₀.heap.get? b = some o → b ∉ X.ex → b ∉ ch := fun b o e hx hb => by
    rcases (hch b hb).1 with z | z
    · exact hx z
    · exact absurd (Nat.lt_of_lt_of_le (Heap.lt_size e) z) (Nat.lt_irrefl _)
  have cellK : ∀ x c, X.env.cells.lookup x = some c → ∀ v, s.heap.IsCell c v → h'.IsCell c v := fun x c e v ⟨o, ho, hd⟩ => by
    have nch : c ∉ ch := fun z => (hch c z).2.2.1 x c e rfl
    by_cases hc : c ∈ X.fs
    · obtain ⟨sl, q⟩ := slot c o (I.cne x c e) hc nch ho (I.freeC x c e)
      exact ⟨_, q, hd⟩
    · exact ⟨o, keep c o (I.cne x c e) hc nch ho (I.freeC x c e), hd⟩
  refine ⟨I.ok, I.os, hg, ⟨fun b o e n hb hx => ?_, fun b o e n hb hx => ?_, fun b o e n hx => ?_, fun b o e hx => ?_, fun b xs e => tups b xs (I.base.tups b xs e), fun b o xs e => frzs b o xs (I.base.frzs b o xs e), fun b ps e => ?_⟩, ?_, fun x c e => ?_, ?_, fun x c e => ?_, fun p hp => ?_, hok, I.len⟩
  · exact keep b o (neL b o e) hb (neC b o e hx) (I.base.keep b o e n hb hx) (I.base.free b o e n hx)
  · obtain ⟨sl, e1⟩ := I.base.slot b o e n hb hx
    obtain ⟨sl', e2⟩ := slot b _ (neL b o e) hb (neC b o e hx) e1 (I.base.free b o e n hx)
    exact ⟨sl', e2⟩
  · obtain ⟨o', e1⟩ := I.base.there b o e hx
    exact free b o' (neC b o e hx) e1 (I.base.free b o e n hx)
  · obtain ⟨o', e1⟩ := I.base.there b o e hx
    exact there b o' (neC b o e hx) e1
  · obtain ⟨m1, e1⟩ := I.base.tbls b ps e
    obtain ⟨m2, e2⟩ := tbls b _ e1
    exact ⟨m1 ++ m2, by rw [e2, Array.append_assoc]⟩
  · obtain ⟨m, hn, hl⟩ := I.loc
    refine ⟨m, ns m hn, fun i x v e1 e2 e3 => ?_⟩
    obtain ⟨u, r, l⟩ := hl i x v e1 e2 e3
    refine ⟨u, r, ?_⟩
    rcases l with l | ⟨k, c, e, z⟩
    · exact .inl l
    · exact .inr ⟨k, c, e, cellK x c e _ z⟩
  · obtain ⟨v, z⟩ := I.cell x c e
    exact ⟨v, cellK x c e v z⟩
  · obtain ⟨m, ⟨o, _, _, ho, _⟩, _⟩ := I.loc
    exact free _ o (fun z => (hch _ z).2.1 rfl) ho I.free
  · obtain ⟨v, o, ho, hd⟩ := I.cell x c e
    exact free c o (fun z => (hch c z).2.2.1 x c e rfl) ho (I.freeC x c e)
  · obtain ⟨e, n, ne, nf, d⟩ := I.pin p hp
    have nch : p.1 ∉ ch := fun z => (hch p.1 z).2.2.2 p hp rfl
    exact ⟨keep p.1 p.2 ne nf nch e n, free p.1 p.2 nch e n, ne, nf, d⟩
theorem Inv.un {t' : Nat} (I : Inv X pins σ H s) (u : Un X.fs [] H H' s.heap h') (hok : HOk X.prog X.w H' h') : Inv X pins σ H' { s with heap := h', toks := t' } := by
  obtain ⟨m, ⟨o, es, ep, ho, r⟩, _⟩ := id I.loc
  obtain ⟨sl, hL⟩ := u.any ho I.free (by simp)
  exact I.step (g' := s.gens) (d' := s.drawn) (ch := []) (fun _ z => nomatch z) (fun b o _ hb _ e n => u.keep b o e n hb (by simp)) (fun b o _ hb _ e n => u.slot b o e n hb (by simp)) (fun b o _ e n => u.free b o e n (by simp)) (fun b o _ e => u.there b o e (by simp)) u.tups u.frzs u.tbls (fun m' hm => by
    obtain ⟨o', es', ep', ho', r'⟩ := hm
    rw [ho] at ho'; cases ho'
    exact ⟨_, es', ep', hL, r'⟩) hok I.bare
theorem Inv.call {g' : Array GenState} {t' : Nat} {d' : Drawn} {ch : List Addr} (I : Inv X pins σ H s) (u : Un (frs X.stack) ch H H' s.heap h') (hok : HOk X.prog X.w H' h') (hg : AllBare g')
    (hch : ∀ b ∈ ch, (b ∈ X.ex ∨ X.s₀.heap.objs.size ≤ b) ∧ b ≠ X.env.locals ∧ (∀ x c, X.env.cells.lookup x = some c → c ≠ b) ∧ ∀ p ∈ X.pn ++ pins, p.1 ≠ b) :
    Inv X pins σ H' { s with heap := h', gens := g', drawn := d', toks := t' } := by
  obtain ⟨m, ⟨o, es, ep, ho, r⟩, _⟩ := id I.loc
  obtain ⟨sl, hL⟩ := u.any ho I.free fun z => (hch _ z).2.1 rfl
  exact I.step (ch := ch) hch (fun b o hL hb hc e n => u.keep b o e n (fun z => (List.mem_cons.mp (I.stkSub b z)).elim hL hb) hc) (fun b o _ _ hc e n => u.any e n hc) (fun b o hc e n => u.free b o e n hc) (fun b o hc e => u.there b o e hc) u.tups u.frzs u.tbls (fun m' hm => by
    obtain ⟨o', es', ep', ho', r'⟩ := hm
    rw [ho] at ho'; cases ho'
    exact ⟨_, es', ep', hL, r'⟩) hok hg
theorem Inv.turned {t' : Nat} {it : Addr} (I : Inv X pins σ H s) (k : ∀ b o, b ≠ it → s.heap.get? b = some o → h'.get? b = some o) (hn : H it = none) (hL : it ≠ X.env.locals)
    (h1 : it ∈ X.ex ∨ X.s₀.heap.objs.size ≤ it) (h2 : ∀ x c, X.env.cells.lookup x = some c → c ≠ it) (h3 : ∀ p ∈ X.pn ++ pins, p.1 ≠ it) : Inv X pins σ H { s with heap := h', toks := t' } := by
  have nit : ∀ b u, H b = some u → b ≠ it := fun b u e z => by rw [z, hn] at e; cases e
  refine I.step (g' := s.gens) (d' := s.drawn) (ch := [it]) (fun b hb => ?_) (fun b o _ _ hc e _ => k b o (fun z => hc (by simp [z])) e) (fun b o _ _ hc e _ => ⟨o.slots, k b o (fun z => hc (by simp [z])) e⟩) (fun _ _ _ _ n => n)
    (fun b o hc e => ⟨o, k b o (fun z => hc (by simp [z])) e⟩) (fun _ _ e => e) (fun _ _ _ e => e) (fun b ps e => ⟨#[], by rw [e]; simp⟩) (fun m hm => ?_) (fun b u e => ?_) I.bare
  · have e : b = it := by simpa using hb
    subst e
    exact ⟨h1, hL, h2, h3⟩
  · obtain ⟨o, es, ep, ho, r⟩ := hm
    exact ⟨o, es, ep, k _ o (Ne.symm hL) ho, r⟩
  · refine (I.hok b u e).stay (fun c v hc q => k c v ?_ q) (fun _ q => q) fun _ _ q => q
    rcases hc with z | z
    · rw [z]; exact nit b u e
    · exact nit c _ z
theorem Inv.tok (I : Inv X pins σ H s) (t : Nat) : Inv X pins σ H { s with toks := t } := I.un (h' := s.heap) (t' := t) Un.refl I.hok
theorem Inv.kept {t' : Nat} (I : Inv X pins σ H s) (k : ∀ b u, s.heap.get? b = some u → h'.get? b = some u) : Inv X pins σ H { s with heap := h', toks := t' } := I.un (Un.kept k) (I.hok.kept k)
theorem Inv.laid {a : Addr} {o : HO} {t' : Nat} (I : Inv X pins σ H s) (k : ∀ b u, s.heap.get? b = some u → h'.get? b = some u) (hp : s.heap.objs.size ≤ a) (new : ObjOk X.prog X.w (upd H a o) h' a o) :
    Inv X pins σ (upd H a o) { s with heap := h', toks := t' } := I.un (Un.laid k hp (I.hok.fresh hp)) (I.hok.laid k hp new)
theorem Inv.write {x e : Addr} {o : HO} {t' : Nat} (I : Inv X pins σ H s) (mu : Mut (H x)) (he : e = x ∨ H e = some (.own x)) (k : ∀ b u, b ≠ e → s.heap.get? b = some u → h'.get? b = some u) (heo : ∃ u, h'.get? e = some u)
    (new : ObjOk X.prog X.w (upd H x o) h' x o) : Inv X pins σ (upd H x o) { s with heap := h', toks := t' } := I.un (Un.write mu he k heo) (I.hok.write mu he k heo new)
theorem Inv.pins_of {pins' : List (Addr × Obj)} (I : Inv X pins σ H s) (h : ∀ p ∈ pins', s.heap.get? p.1 = some p.2 ∧ H p.1 = none ∧ p.1 ≠ X.env.locals ∧ p.1 ∉ X.fs ∧ ∀ v, p.2.data ≠ .cell v) : Inv X pins' σ H s :=
  ⟨I.ok, I.os, I.bare, I.base, I.loc, I.cell, I.free, I.freeC, fun p hp => (List.mem_append.mp hp).elim (fun z => I.pin p (List.mem_append_left _ z)) (h p), I.hok, I.len⟩
theorem nodup_ix {N : List Str} (hN : N.Nodup) {i j : Nat} {x : Str} (a : N[i]? = some x) (b : N[j]? = some x) : i = j := by
  obtain ⟨h1, e1⟩ := List.getElem?_eq_some_iff.mp a
  obtain ⟨h2, e2⟩ := List.getElem?_eq_some_iff.mp b
  exact (List.getElem_inj hN).mp (e1.trans e2.symm)
theorem store_ok2 {M : Model} {A : Around} {E : Value → Shared → Prop} {i : Nat} {x : Str} {v : V} {u : Value} {Q : Unit → Shared → Prop} (I : Inv X pins σ H s) (hN : X.N.Nodup) (hi : X.N[i]? = some x) (hx : Loc X.env.scope x) (r : RelV v u)
    (h : ∀ s', Inv X pins (σ.set i (some v)) H s' → (∃ a, Heap.SameBut a s.heap s'.heap ∧ (a = X.env.locals ∨ X.env.cells.lookup x = some a)) → Q () s') (hf : X.fn x = true ∨ X.env.scope.names.lookup x = some .local := by first | exact .inl rfl | exact .inr rfl | assumption) : wpAny M A (storeName X.env x u) Q E s := by
  obtain ⟨m, hn, hl⟩ := id I.loc
  have hcls : (X.env.scope.kind == .class || (X.env.scope.kind == .module && X.env.locals != X.env.globals)) = false := by rw [I.ok.kind]; rfl
  have hiσ : i < σ.length := by rw [I.len]; exact (List.getElem?_eq_some_iff.mp hi).1
  have cne := I.cne
  have tracked : ∀ {a : Addr} {h' : Heap}, (∃ o, s.heap.get? a = some o ∧ H a = none) → Heap.SameBut a s.heap h' → HOk X.prog X.w H h' := fun {a h'} ha hs b ob e => by
    obtain ⟨_, _, hfree⟩ := ha
    refine (I.hok b ob e).stay (fun c w' hc q => (hs.2 c ?_).trans q) (fun _ q => q) fun _ _ q => q
    rintro rfl
    rcases hc with rfl | hc
    · rw [hfree] at e; cases e
    · rw [hfree] at hc; cases hc
  rcases hx with hk | hk
  · refine wpAny_storeName_local hk hn (fun h' hn' hs => ?_) hcls
    obtain ⟨oL, _, _, hoL, _⟩ := id hn
    refine h _ ⟨I.ok, I.os, I.bare, ⟨fun b o e n hb hx => ?_, fun b o e n hb hx => ?_, I.base.free, fun b o e hx => ?_, I.base.tups, I.base.frzs, I.base.tbls⟩, ⟨_, hn', fun j y v' e1 e2 e3 => ?_⟩, fun y c e => ?_, I.free, I.freeC, fun p hp => ?_, tracked ⟨oL, hoL, I.free⟩ hs, by simpa using I.len⟩ ⟨_, hs, .inl rfl⟩
    · exact (hs.2 b (Nat.ne_of_lt (Nat.lt_of_lt_of_le (Heap.lt_size e) I.ok.above))).trans (I.base.keep b o e n hb hx)
    · obtain ⟨sl, e1⟩ := I.base.slot b o e n hb hx
      exact ⟨sl, (hs.2 b (Nat.ne_of_lt (Nat.lt_of_lt_of_le (Heap.lt_size e) I.ok.above))).trans e1⟩
    · obtain ⟨o', e1⟩ := I.base.there b o e hx
      exact ⟨o', (hs.2 b (Nat.ne_of_lt (Nat.lt_of_lt_of_le (Heap.lt_size e) I.ok.above))).trans e1⟩
    · by_cases hj : j = i
      · subst hj
        rw [hi] at e1; cases e1
        rw [List.getElem?_set_self hiσ] at e2
        cases e2
        exact ⟨u, r, .inl ⟨hk, by simp⟩⟩
      · rw [List.getElem?_set_ne (Ne.symm hj)] at e2
        obtain ⟨u', r', q⟩ := hl j y v' e1 e2 e3
        refine ⟨u', r', ?_⟩
        rcases q with ⟨k, e⟩ | ⟨k, c, e, z⟩
        · refine .inl ⟨k, ?_⟩
          have : y ≠ x := fun e => hj (nodup_ix hN e1 (e ▸ hi))
          simp [this, e]
        · exact .inr ⟨k, c, e, z.sameBut hs (cne y c e)⟩
    · obtain ⟨w', z⟩ := I.cell y c e
      exact ⟨w', z.sameBut hs (cne y c e)⟩
    · obtain ⟨e, n, ne, nf, d⟩ := I.pin p hp
      exact ⟨(hs.2 p.1 ne).trans e, n, ne, nf, d⟩
  · have hfn : X.fn x = true := by
      rcases hf with z | z
      · exact z
      · rw [z] at hk; cases hk
    obtain ⟨c, hc⟩ := I.ok.has x (.inl hk)
    obtain ⟨w', z⟩ := I.cell x c hc
    refine wpAny_storeName_cell I.ok.kind hk hc z (fun h' hc' hs => ?_)
    obtain ⟨oc, hoc, hocd⟩ := id z
    refine h { s with heap := h' } ⟨I.ok, I.os, I.bare, ⟨fun b o e n hb hx => ?_, fun b o e n hb hx => ?_, I.base.free, fun b o e hx => ?_, I.base.tups, I.base.frzs, I.base.tbls⟩, ⟨m, hn.sameBut hs (Ne.symm (cne x c hc)), fun j y v' e1 e2 e3 => ?_⟩, fun y c' e => ?_, I.free, I.freeC, fun p hp => ?_, tracked ⟨oc, hoc, I.freeC x c hc⟩ hs, by simpa using I.len⟩ ⟨c, hs, .inr hc⟩
    · exact (hs.2 b (Nat.ne_of_lt (Nat.lt_of_lt_of_le (Heap.lt_size e) (I.ok.cab x c hfn hc)))).trans (I.base.keep b o e n hb hx)
    · obtain ⟨sl, e1⟩ := I.base.slot b o e n hb hx
      exact ⟨sl, (hs.2 b (Nat.ne_of_lt (Nat.lt_of_lt_of_le (Heap.lt_size e) (I.ok.cab x c hfn hc)))).trans e1⟩
    · obtain ⟨o', e1⟩ := I.base.there b o e hx
      exact ⟨o', (hs.2 b (Nat.ne_of_lt (Nat.lt_of_lt_of_le (Heap.lt_size e) (I.ok.cab x c hfn hc)))).trans e1⟩
    · by_cases hj : j = i
      · subst hj
        rw [hi] at e1; cases e1
        rw [List.getElem?_set_self hiσ] at e2
        cases e2
        exact ⟨u, r, .inr ⟨.inl hk, c, hc, hc'⟩⟩
      · rw [List.getElem?_set_ne (Ne.symm hj)] at e2
        obtain ⟨u', r', q⟩ := hl j y v' e1 e2 e3
        refine ⟨u', r', ?_⟩
        rcases q with q | ⟨k, c', e, z'⟩
        · exact .inl q
        · refine .inr ⟨k, c', e, z'.sameBut hs ?_⟩
          rintro rfl
          exact hj (nodup_ix hN e1 (I.ok.inj _ _ _ e hc ▸ hi))
    · by_cases hcc : c' = c
      · subst hcc; exact ⟨_, hc'⟩
      · obtain ⟨w2, z2⟩ := I.cell y c' e
        exact ⟨w2, z2.sameBut hs hcc⟩
    · obtain ⟨e, n, ne, nf, d⟩ := I.pin p hp
      refine ⟨(hs.2 p.1 ?_).trans e, n, ne, nf, d⟩
      intro q
      rw [q, hoc] at e
      have q' : oc = p.2 := Option.some.inj e
      exact d w' (by rw [← q']; exact hocd)
theorem store_ok {M : Model} {A : Around} {E : Value → Shared → Prop} {i : Nat} {x : Str} {v : V} {u : Value} {Q : Unit → Shared → Prop} (I : Inv X pins σ H s) (hN : X.N.Nodup) (hi : X.N[i]? = some x) (hx : Loc X.env.scope x) (r : RelV v u)
    (h : ∀ s', Inv X pins (σ.set i (some v)) H s' → Q () s') (hf : X.fn x = true ∨ X.env.scope.names.lookup x = some .local := by first | exact .inl rfl | exact .inr rfl | assumption) : wpAny M A (storeName X.env x u) Q E s :=
  store_ok2 I hN hi hx r (fun s' I' _ => h s' I') hf
theorem Inv.call' {s' : Shared} {ch : List Addr} (I : Inv X pins σ H s) (ho : s'.os = s.os) (u : Un (frs X.stack) ch H H' s.heap s'.heap) (hok : HOk X.prog X.w H' s'.heap) (hg : AllBare s'.gens)
    (hch : ∀ b ∈ ch, (b ∈ X.ex ∨ X.s₀.heap.objs.size ≤ b) ∧ b ≠ X.env.locals ∧ (∀ x c, X.env.cells.lookup x = some c → c ≠ b) ∧ ∀ p ∈ X.pn ++ pins, p.1 ≠ b) : Inv X pins σ H' s' := by
  obtain ⟨h', g', d', t', o'⟩ := s'
  have e : o' = s.os := ho
  subst e
  exact I.call (g' := g') (t' := t') (d' := d') u hok hg hch
end
abbrev XK := Value → Option Addr → Hp → Prop
abbrev St := List (Option V)
abbrev VK := V → Hp → Prop
abbrev TE := St → Hp → VK → Prop
abbrev TT := St → Hp → (Bool → Hp → Prop) → Prop
abbrev TA := St → Hp → (List V → Hp → Prop) → Prop
structure Ends where
  nx : St → Hp → Prop
  rt : VK
  bk : St → Hp → Prop := fun _ _ => False
  ct : St → Hp → Prop := fun _ _ => False
abbrev TS := Ends → St → Hp → Prop
def EP (X : Cx) (pins : List (Addr × Obj)) (σ : St) (Q : VK) (u : Value) (s' : Shared) : Prop := ∃ v H', Inv X pins σ H' s' ∧ RelV v u ∧ Q v H'
def TP (X : Cx) (pins : List (Addr × Obj)) (σ : St) (Q : Bool → Hp → Prop) (b : Bool) (s' : Shared) : Prop := ∃ H', Inv X pins σ H' s' ∧ Q b H'
def AP (X : Cx) (pins : List (Addr × Obj)) (σ : St) (Q : List V → Hp → Prop) (us : List Value) (s' : Shared) : Prop := ∃ vs H', Inv X pins σ H' s' ∧ Vals vs us ∧ Q vs H'
def SP (X : Cx) (pins : List (Addr × Obj)) (D : Ends) (f : Flow) (s' : Shared) : Prop :=
  match f with
  | .next => ∃ σ' H', Inv X pins σ' H' s' ∧ D.nx σ' H'
  | .brk => ∃ σ' H', Inv X pins σ' H' s' ∧ D.bk σ' H'
  | .cont => ∃ σ' H', Inv X pins σ' H' s' ∧ D.ct σ' H'
  | .ret u => ∃ v σ' H', Inv X pins σ' H' s' ∧ RelV v u ∧ D.rt v H'
def PE (X : Cx) (e : Expr) (t : TE) : Prop :=
  ∀ (pins : List (Addr × Obj)) (s : Shared) (σ : St) (H : Hp) (Q : VK), Inv X pins σ H s → t σ H Q → wpAny (model X.prog X.w) X.A (eval e X.env) (EP X pins σ Q) X.xe s
def PT (X : Cx) (e : Expr) (t : TT) : Prop :=
  ∀ (pins : List (Addr × Obj)) (s : Shared) (σ : St) (H : Hp) (Q : Bool → Hp → Prop), Inv X pins σ H s → t σ H Q → wpAny (model X.prog X.w) X.A (isTrue e X.env (eval e X.env)) (TP X pins σ Q) X.xe s
def PW (X : Cx) (e : Expr) (t : TT) : Prop :=
  ∀ (whole : Sem Value) (pins : List (Addr × Obj)) (s : Shared) (σ : St) (H : Hp) (Q : Bool → Hp → Prop), Inv X pins σ H s → t σ H Q → wpAny (model X.prog X.w) X.A (isTrue e X.env whole) (TP X pins σ Q) X.xe s
theorem PW.pt {X : Cx} {e : Expr} {t : TT} (h : PW X e t) : PT X e t := h _
def PA (X : Cx) (es : List Expr) (t : TA) : Prop :=
  ∀ (pos : Pos) (pins : List (Addr × Obj)) (s : Shared) (σ : St) (H : Hp) (Q : List V → Hp → Prop), Inv X pins σ H s → t σ H Q → wpAny (model X.prog X.w) X.A (spliced (backTo pos (starEach es X.env))) (AP X pins σ Q) X.xe s
def PS (X : Cx) (st : Stmt) (t : TS) : Prop :=
  ∀ (pins : List (Addr × Obj)) (s : Shared) (σ : St) (H : Hp) (D : Ends), Inv X pins σ H s → t D σ H → wpAny (model X.prog X.w) X.A (exec st X.env) (SP X pins D) X.xe s
def PSs (X : Cx) (st : List Stmt) (t : TS) : Prop :=
  ∀ (pins : List (Addr × Obj)) (s : Shared) (σ : St) (H : Hp) (D : Ends), Inv X pins σ H s → t D σ H → wpAny (model X.prog X.w) X.A (execs st X.env) (SP X pins D) X.xe s
theorem thn {α : Type} {t : Sem α} {Q Q' : α → Shared → Prop} {M : Model} {A : Around} {E : Value → Shared → Prop} {s : Shared} (h : wpAny M A t Q E s) (hQ : ∀ a s, Q a s → Q' a s) : wpAny M A t Q' E s := wpAny_mono h hQ fun _ _ x => x
end L2
namespace L2
open PySem PySem.Spec PyProof.Rows
section
variable {X : Cx}
def tVar (i : Nat) : TE := fun σ H Q => ∃ v, σ[i]? = some (some v) ∧ Q v H
def tC (v : V) : TE := fun _ H Q => Q v H
theorem pe_var {i : Nat} {x : Str} {pos : Pos} (hN : X.N[i]? = some x) (hv : Vis X.env.scope x) (hd : (x == ("__debug__" : Str)) = false := by decide) (hcd : (x == ("__classdict__" : Str)) = false := by decide) : PE X (.Name x pos) (tVar i) := by
  intro pins s σ H Q I h
  obtain ⟨v, e, h⟩ := h
  obtain ⟨m, hn, hl⟩ := I.loc
  obtain ⟨u, r, l⟩ := hl i x v hN e hv
  have fin : EP X pins σ Q u s := ⟨v, H, I, r, h⟩
  rcases l with ⟨hk, hm⟩ | ⟨hk, c, hc, hcell⟩
  · exact wpAny_Name (wpAny_loadName_local I.ok.kind hk hn hm fin) hd
  · rcases hk with hk | hk
    · exact wpAny_Name (wpAny_loadName_cell I.ok.kind hk hc hcell fin) hd
    · exact wpAny_Name (wpAny_loadName_free I.ok.kind hk hc hcell fin hcd) hd
theorem pe_int {i j pos} : PE X (.Constant (.int i) j pos) (tC (.int i)) := fun _ _ _ H _ I h => wpAny_Constant_int ⟨.int i, H, I.tok _, ⟨_, rfl⟩, h⟩
theorem pe_bl {b j pos} : PE X (.Constant (.bool b) j pos) (tC (.bl b)) := fun _ _ _ H _ I h => Constant_bool ⟨.bl b, H, I, rfl, h⟩
theorem pe_non {j pos} : PE X (.Constant .none j pos) (tC .non) := fun _ _ _ H _ I h => Constant_none ⟨.non, H, I, rfl, h⟩
theorem pe_str {x j pos} : PE X (.Constant (.str x) j pos) (tC (.str x)) := fun _ _ _ H _ I h => Calls.Constant_str ⟨.str x, H, I.tok _, ⟨_, rfl⟩, h⟩
def Gl (X : Cx) (x : Str) : Prop := X.env.kindOf x = some .globalImplicit
theorem ld_glob {E : Value → Shared → Prop} {pins : List (Addr × Obj)} {s : Shared} {σ : St} {H : Hp} {x : Str} {u : Value} {pos : Pos} {Q : Value → Shared → Prop} (I : Inv X pins σ H s) (hg : Gl X x) (hm : X.mg x = some u) (h : Q u s)
    (hd : (x == ("__debug__" : Str)) = false := by decide) : wpAny (model X.prog X.w) X.A (eval (.Name x pos) X.env) Q E s :=
  Calls.Name_function_global I.ok.kind hg (Calls.loadGlobal_global (by rw [I.ok.glob]; exact I.mod.glob.keeps I.bk) hm h) hd
theorem ld_blt {E : Value → Shared → Prop} {pins : List (Addr × Obj)} {s : Shared} {σ : St} {H : Hp} {x : Str} {u : Value} {pos : Pos} {Q : Value → Shared → Prop} (I : Inv X pins σ H s) (hg : Gl X x) (hm : X.mg x = none) (hv : bootBuiltins x = some u) (h : Q u s)
    (hn : x ≠ "__name__" := by decide) (hd : (x == ("__debug__" : Str)) = false := by decide) : wpAny (model X.prog X.w) X.A (eval (.Name x pos) X.env) Q E s := by
  obtain ⟨mb, h1, h2⟩ := I.mod.blt
  exact Calls.Name_function_global I.ok.kind hg (Calls.loadGlobal_builtin (by rw [I.ok.glob]; exact I.mod.glob.keeps I.bk) hm (by rw [I.ok.blt]; exact h1.keeps I.bk) ((h2 x hn).trans hv) h) hd
theorem pe_bltn {x : Str} {v : V} {u : Value} {pos : Pos} (hg : Gl X x) (hm : X.mg x = none) (hv : bootBuiltins x = some u) (r : RelV v u) (hn : x ≠ "__name__" := by decide) (hd : (x == ("__debug__" : Str)) = false := by decide) : PE X (.Name x pos) (tC v) :=
  fun _ _ _ H _ I h => ld_blt I hg hm hv ⟨v, H, I, r, h⟩ hn hd
variable {a b : Expr} {ta tb : TE} {pos : Pos}
def PC (X : Cx) (op : CmpOp) (a b : Expr) (t : TE) : Prop :=
  ∀ (pins : List (Addr × Obj)) (s : Shared) (σ : St) (H : Hp) (Q : VK), Inv X pins σ H s → t σ H Q →
    wpAny (model X.prog X.w) X.A (eval a X.env) (fun v s₁ => wpAny (model X.prog X.w) X.A (eval b X.env) (fun u s₂ => wpAny (model X.prog X.w) X.A (compareOp op v u) (EP X pins σ Q) X.xe s₂) X.xe s₁) X.xe s
def tIsN (ta : TE) : TE := fun σ H Q => ta σ H fun x H1 => Q (.bl (decide (x = .non))) H1
theorem RelV.none_iff {x : V} {v : Value} (r : RelV x v) : (v == Value.none) = decide (x = .non) := by
  cases x with
  | non => cases r; rfl
  | bl _ => cases r; rfl
  | int _ => obtain ⟨t, rfl⟩ := r; rfl
  | str _ => obtain ⟨t, rfl⟩ := r; rfl
  | byt _ => obtain ⟨t, rfl⟩ := r; rfl
  | flt _ => obtain ⟨t, rfl⟩ := r; rfl
  | ref _ => cases r; rfl
  | ty _ => cases r; rfl
theorem pc_isN {j pos'} (ha : PE X a ta) : PC X .Is a (.Constant .none j pos') (tIsN ta) := by
  intro pins s σ H Q I h
  refine thn (ha pins s σ H _ I h) fun v s1 ⟨x, H1, I1, r1, q1⟩ => ?_
  exact Constant_none (is_none_gen ⟨.bl _, H1, I1, by rw [r1.none_iff]; rfl, q1⟩)
def tB (t : TE) : TT := fun σ H Q => t σ H fun x H1 => ∃ c, x = .bl c ∧ Q c H1
theorem pt_cmp {op : CmpOp} {t : TE} (h : PC X op a b t) (h1 : behindInMarks op b = false := by first | exact nobehind _ (by decide) (by decide) | rfl) : PT X (.Compare a [op] [b] pos) (tB t) := by
  intro pins s σ H Q I hw
  refine wpAny_isTrue_Compare1 (thn (h pins s σ H _ I hw) fun v s1 h1 => thn h1 fun u s2 h2 => thn h2 fun c s3 ⟨x, H1, I1, r1, q1⟩ => ?_) h1
  obtain ⟨d, rfl, q⟩ := q1
  cases r1
  exact wpAny_truthy_bool ⟨H1, I1, q⟩
theorem pt_val {e : Expr} {t : TE} (h : PE X e t) (he : ∀ whole, isTrue e X.env whole = (do let v ← whole; standAt e.pos; holding [v] (truthy v)) := by intro _; rfl) : PT X e (tB t) := by
  intro pins s σ H Q I hw
  refine isTrue_plain (thn (h pins s σ H _ I hw) fun v s1 ⟨x, H1, I1, r1, q1⟩ => ?_) (he _)
  obtain ⟨d, rfl, q⟩ := q1
  cases r1
  exact wpAny_truthy_bool ⟨H1, I1, q⟩
variable {tA tB' : TT} {rest : List Expr}
def tAnd (t u : TT) : TT := fun σ H Q => t σ H fun c H1 => if c = true then u σ H1 Q else Q false H1
def tOr (t u : TT) : TT := fun σ H Q => t σ H fun c H1 => if c = true then Q true H1 else u σ H1 Q
def tNot (t : TT) : TT := fun σ H Q => t σ H fun c H1 => Q (!c) H1
theorem pw_and1 (ha : PT X a tA) : PW X (.BoolOp .And [a] pos) tA := by
  intro wh pins s σ H Q I h
  refine isTrue_and (thn (ha pins s σ H Q I h) fun c s1 e => ?_)
  cases c with
  | true => exact isTrue_and_nil e
  | false => exact e
theorem pw_or1 (ha : PT X a tA) : PW X (.BoolOp .Or [a] pos) tA := by
  intro wh pins s σ H Q I h
  refine isTrue_or (thn (ha pins s σ H Q I h) fun c s1 e => ?_)
  cases c with
  | false => exact isTrue_or_nil e
  | true => exact e
theorem pw_and (ha : PT X a tA) (hb : PW X (.BoolOp .And (b :: rest) pos) tB') : PW X (.BoolOp .And (a :: b :: rest) pos) (tAnd tA tB') := by
  intro wh pins s σ H Q I h
  refine isTrue_and (thn (ha pins s σ H _ I h) fun c s1 ⟨H1, I1, q1⟩ => ?_)
  cases c with
  | true => exact hb wh pins s1 σ H1 Q I1 q1
  | false => exact ⟨H1, I1, q1⟩
theorem pw_or (ha : PT X a tA) (hb : PW X (.BoolOp .Or (b :: rest) pos) tB') : PW X (.BoolOp .Or (a :: b :: rest) pos) (tOr tA tB') := by
  intro wh pins s σ H Q I h
  refine isTrue_or (thn (ha pins s σ H _ I h) fun c s1 ⟨H1, I1, q1⟩ => ?_)
  cases c with
  | true => exact ⟨H1, I1, q1⟩
  | false => exact hb wh pins s1 σ H1 Q I1 q1
theorem pt_not (ha : PT X a tA) : PT X (.UnaryOp .Not a pos) (tNot tA) := by
  intro pins s σ H Q I h
  exact isTrue_not (ha pins s σ H (fun c H1 => Q (!c) H1) I h)
def tAndV (ta tb : TE) : TE := fun σ H Q => ta σ H fun x H1 => ∃ c, x = .bl c ∧ if c = true then tb σ H1 Q else Q (.bl false) H1
theorem pe_one {op} {t : TE} (h : PE X a t) : PE X (.BoolOp op [a] pos) t := fun pins s σ H Q I hw => BoolOp_one (h pins s σ H Q I hw)
theorem pe_and (ha : PE X a ta) (hb : PE X (.BoolOp .And (b :: rest) pos) tb) : PE X (.BoolOp .And (a :: b :: rest) pos) (tAndV ta tb) := by
  intro pins s σ H Q I h
  refine BoolOp_and (thn (ha pins s σ H _ I h) fun v s1 ⟨x, H1, I1, r1, q1⟩ => ?_)
  obtain ⟨c, rfl, q1⟩ := q1
  cases r1
  refine wpAny_truthy_bool ?_
  cases c with
  | true => exact hb pins s1 σ H1 Q I1 q1
  | false => exact ⟨.bl false, H1, I1, rfl, q1⟩
def tIf (t : TT) (ta tb : TE) : TE := fun σ H Q => t σ H fun c H1 => if c = true then ta σ H1 Q else tb σ H1 Q
theorem pe_ifExp {c : Expr} (hc : PT X c tA) (ha : PE X a ta) (hb : PE X b tb) : PE X (.IfExp c a b pos) (tIf tA ta tb) := by
  intro pins s σ H Q I h
  refine wpAny_IfExp (thn (hc pins s σ H _ I h) fun d s1 ⟨H1, I1, q1⟩ => ?_)
  cases d with
  | true => exact ha pins s1 σ H1 Q I1 q1
  | false => exact hb pins s1 σ H1 Q I1 q1
end
end L2
namespace L2
open PySem PySem.Spec PyProof.Rows
def SqL (K : PySem.W.Frag) (H : Hp) (a : Addr) (xs : List V) : Prop :=
  Rd H a (.lst xs) ∨
    ∃ (o : Obj) (its : Array Value) (n : Nat), K.lookup a = some o ∧ o.cls = .type "list" ∧ o.dict = none ∧ o.data = .seq its n ∧ its.size ≤ sizeLine ∧ Vals xs its.toList
def SqT (K : PySem.W.Frag) (H : Hp) (a : Addr) (xs : List V) : Prop :=
  Rd H a (.tup xs) ∨
    ∃ (o : Obj) (its : Array Value) (n : Nat), K.lookup a = some o ∧ o.cls = .type "tuple" ∧ o.data = .seq its n ∧ its.size ≤ sizeLine ∧ Vals xs its.toList
def absV : Value → Option V
  | .none => some .non
  | .bool b => some (.bl b)
  | .int i _ => some (.int i)
  | .str x _ => some (.str x)
  | .bytes b _ => some (.byt b)
  | .float b _ => some (.flt b)
  | .ref a => some (.ref a)
  | .type n => some (.ty n)
  | _ => none
theorem RelV.abs {x : V} {u : Value} (r : RelV x u) : absV u = some x := by
  cases x with
  | non => cases r; rfl
  | bl _ => cases r; rfl
  | int _ => obtain ⟨t, rfl⟩ := r; rfl
  | str _ => obtain ⟨t, rfl⟩ := r; rfl
  | byt _ => obtain ⟨t, rfl⟩ := r; rfl
  | flt _ => obtain ⟨t, rfl⟩ := r; rfl
  | ref _ => cases r; rfl
  | ty _ => cases r; rfl
theorem RelV.inj {x y : V} {u : Value} (r : RelV x u) (q : RelV y u) : x = y := Option.some.inj (r.abs.symm.trans q.abs)
theorem Vals.inj : ∀ {xs ys : List V} {us : List Value}, Vals xs us → Vals ys us → xs = ys
  | _, _, _, .nil, .nil => rfl
  | _, _, _, .cons r t, .cons r' t' => by rw [r.inj r', Vals.inj t t']
section
variable {X : Cx} {pins : List (Addr × Obj)} {σ : St} {H : Hp} {s : Shared} {a : Addr} {xs ys : List V}
theorem SqL.of {K : PySem.W.Frag} (h : H a = some (.lst xs)) : SqL K H a xs := .inl (.inl h)
theorem SqT.of {K : PySem.W.Frag} (h : H a = some (.tup xs)) : SqT K H a xs := .inl (.inl h)
theorem Inv.list (I : Inv X pins σ H s) (h : SqL X.K H a xs) : ∃ its : List Value, Vals xs its ∧ PlainL s.heap a its.toArray ∧ xs.length ≤ sizeLine := by
  rcases h with h | ⟨o, its, n, hk, hc, hd, hs, hz, r⟩
  · obtain ⟨z, its, n, r, e⟩ := h.ok I.hok
    exact ⟨its, r, ⟨_, n, e, rfl, rfl, rfl⟩, z⟩
  · refine ⟨its.toList, r, ⟨o, n, I.kIn a o hk, hc, hd, by simpa using hs⟩, ?_⟩
    have e := r.length
    simp only [Array.length_toList] at e
    omega
theorem Inv.tuple (I : Inv X pins σ H s) (h : SqT X.K H a xs) : ∃ its : List Value, Vals xs its ∧ IsTup s.heap a its.toArray ∧ xs.length ≤ sizeLine := by
  rcases h with h | ⟨o, its, n, hk, hc, hs, hz, r⟩
  · obtain ⟨z, its, r, p⟩ := h.ok I.hok
    exact ⟨its, r, p, z⟩
  · refine ⟨its.toList, r, ⟨o, I.kIn a o hk, hc, n, by simpa using hs⟩, ?_⟩
    have e := r.length
    simp only [Array.length_toList] at e
    omega
theorem Inv.list_inj (I : Inv X pins σ H s) (h : SqL X.K H a xs) (h' : SqL X.K H a ys) : xs = ys := by
  obtain ⟨its, r, ⟨o, n, e, _, _, d⟩, _⟩ := I.list h
  obtain ⟨its', r', ⟨o', n', e', _, _, d'⟩, _⟩ := I.list h'
  rw [e] at e'; cases e'
  rw [d] at d'
  injection d' with d1 _
  have : its = its' := by simpa using congrArg Array.toList d1
  subst this
  exact r.inj r'
theorem Inv.tuple_inj (I : Inv X pins σ H s) (h : SqT X.K H a xs) (h' : SqT X.K H a ys) : xs = ys := by
  obtain ⟨its, r, ⟨o, e, _, n, d⟩, _⟩ := I.tuple h
  obtain ⟨its', r', ⟨o', e', _, n', d'⟩, _⟩ := I.tuple h'
  rw [e] at e'; cases e'
  rw [d] at d'
  injection d' with d1 _
  have : its = its' := by simpa using congrArg Array.toList d1
  subst this
  exact r.inj r'
end
abbrev Cx.wish (X : Cx) (E : Value → Shared → Prop) : Cx := { X with xe := E }
abbrev Cx.nox (X : Cx) : Cx := X.wish fun _ _ => False
theorem Cx.Ok.wish {X : Cx} (ok : X.Ok) (E : Value → Shared → Prop) : (X.wish E).Ok :=
  ⟨ok.mod, ok.kind, ok.glob, ok.blt, ok.above, ok.inj, ok.has, ok.cab, ok.hd, ok.frames, ok.stk, ok.exf, ok.bs, ok.bsz, ok.noex, ok.exfs, ok.funs, ok.frf⟩
theorem Cx.Ok.unwish {X : Cx} {E : Value → Shared → Prop} (ok : (X.wish E).Ok) : X.Ok :=
  ⟨ok.mod, ok.kind, ok.glob, ok.blt, ok.above, ok.inj, ok.has, ok.cab, ok.hd, ok.frames, ok.stk, ok.exf, ok.bs, ok.bsz, ok.noex, ok.exfs, ok.funs, ok.frf⟩
section
variable {X : Cx} {pins : List (Addr × Obj)} {σ : St} {H : Hp} {s : Shared} {E : Value → Shared → Prop}
theorem Inv.wish (I : Inv X pins σ H s) (E : Value → Shared → Prop) : Inv (X.wish E) pins σ H s := ⟨I.ok.wish E, I.os, I.bare, I.base, I.loc, I.cell, I.free, I.freeC, I.pin, I.hok, I.len⟩
theorem Inv.unwish (I : Inv (X.wish E) pins σ H s) : Inv X pins σ H s := ⟨I.ok.unwish, I.os, I.bare, I.base, I.loc, I.cell, I.free, I.freeC, I.pin, I.hok, I.len⟩
theorem SP.unwish {D : Ends} {f : Flow} {s' : Shared} (h : SP (X.wish E) pins D f s') : SP X pins D f s' := by
  cases f with
  | next => obtain ⟨σ', H', I, q⟩ := h; exact ⟨σ', H', I.unwish, q⟩
  | brk => obtain ⟨σ', H', I, q⟩ := h; exact ⟨σ', H', I.unwish, q⟩
  | cont => obtain ⟨σ', H', I, q⟩ := h; exact ⟨σ', H', I.unwish, q⟩
  | ret u => obtain ⟨v, σ', H', I, r, q⟩ := h; exact ⟨v, σ', H', I.unwish, r, q⟩
theorem PSs.nox {st : List Stmt} {t : TS} (h : PSs X.nox st t) : PSs X st t := fun pins s σ H D I hw =>
  wpAny_mono (h pins s σ H D (I.wish _) hw) (fun _ _ q => q.unwish) fun _ _ z => False.elim z
end
section
variable {X : Cx} {st : Stmt} {rest : List Stmt} {t u : TS} {e : Expr} {te : TE} {pos : Pos}
def tNext : TS := fun D σ H => D.nx σ H
def tSeq (t u : TS) : TS := fun D σ H => t { D with nx := u D } σ H
theorem pss_nil : PSs X [] tNext := fun _ _ σ H _ I h => wpAny_execs_nil ⟨σ, H, I, h⟩
theorem pss_cons (h1 : PS X st t) (h2 : PSs X rest u) : PSs X (st :: rest) (tSeq t u) := by
  intro pins s σ H D I h
  refine wpAny_execs_cons (thn (h1 pins s σ H { D with nx := u D } I h) fun f s1 q => ?_)
  cases f with
  | next =>
    obtain ⟨σ', H', I', q⟩ := q
    exact h2 pins s1 σ' H' D I' q
  | ret v => exact q
  | brk => exact q
  | cont => exact q
theorem pss_one (h1 : PS X st t) : PSs X [st] t := by
  intro pins s σ H D I h
  refine wpAny_execs_cons (thn (h1 pins s σ H D I h) fun f s1 q => ?_)
  cases f with
  | next => exact wpAny_execs_nil q
  | ret v => exact q
  | brk => exact q
  | cont => exact q
theorem Inv.quiet {pins : List (Addr × Obj)} {σ : St} {H : Hp} {s : Shared} (I : Inv X pins σ H s) : interactive X.env = false := by simp [interactive, I.ok.kind]
def tDrop (te : TE) : TS := fun D σ H => te σ H fun _ H1 => D.nx σ H1
theorem ps_expr (he : PE X e te) (hs : swapsWith e none pos.line X.env = pure false := by rfl) : PS X (.Expr e pos) (tDrop te) := by
  intro pins s σ H D I h
  exact wpAny_Expr_any (thn (he pins s σ H _ I h) fun v s1 ⟨x, H1, I1, r1, q1⟩ => ⟨σ, H1, I1, q1⟩) I.quiet hs
def tRet (te : TE) : TS := fun D σ H => te σ H D.rt
theorem ps_ret (he : PE X e te) : PS X (.Return (some e) pos) (tRet te) := by
  intro pins s σ H D I h
  exact wpAny_Return_some (thn (he pins s σ H _ I h) fun v s1 ⟨x, H1, I1, r1, q1⟩ => ⟨x, σ, H1, I1, r1, q1⟩)
def tIfS (c : TT) (t u : TS) : TS := fun D σ H => c σ H fun b H1 => if b = true then t D σ H1 else u D σ H1
theorem ps_if {c : Expr} {a b : List Stmt} {tc : TT} (hc : PT X c tc) (ha : PSs X a t) (hb : PSs X b u) : PS X (.If c a b pos) (tIfS tc t u) := by
  intro pins s σ H D I h
  refine wpAny_If (thn (hc pins s σ H _ I h) fun d s1 ⟨H1, I1, q1⟩ => ?_)
  cases d with
  | true => exact ha pins s1 σ H1 D I1 q1
  | false => exact hb pins s1 σ H1 D I1 q1
def tNever : TS := fun _ _ _ => False
theorem pss_never {sts : List Stmt} : PSs X sts tNever := fun _ _ _ _ _ _ h => h.elim
end
abbrev TG := V → St → Hp → (St → Hp → Prop) → Prop
abbrev TGs := List V → St → Hp → (St → Hp → Prop) → Prop
def PG (X : Cx) (target : Expr) (t : TG) : Prop :=
  ∀ (pins : List (Addr × Obj)) (s : Shared) (σ : St) (H : Hp) (v : V) (u : Value) (Q : St → Hp → Prop), Inv X pins σ H s → RelV v u → t v σ H Q →
    wpAny (model X.prog X.w) X.A (assign target X.env u) (fun _ s' => ∃ σ' H', Inv X pins σ' H' s' ∧ Q σ' H') X.xe s
def PGs (X : Cx) (ts : List Expr) (t : TGs) : Prop :=
  ∀ (pins : List (Addr × Obj)) (s : Shared) (σ : St) (H : Hp) (vs : List V) (us : List Value) (Q : St → Hp → Prop), Inv X pins σ H s → Vals vs us → t vs σ H Q →
    wpAny (model X.prog X.w) X.A (assignInOrder ((assignEach ts X.env).map (·.2)) us) (fun _ s' => ∃ σ' H', Inv X pins σ' H' s' ∧ Q σ' H') X.xe s
abbrev TSet := V → V → V → Hp → (Hp → Prop) → Prop
def PSet (X : Cx) (t : TSet) : Prop :=
  ∀ (pins : List (Addr × Obj)) (s : Shared) (σ : St) (H : Hp) (o i v : V) (ov iv u : Value) (Q : Hp → Prop), Inv X pins σ H s → RelV o ov → RelV i iv → RelV v u → t o i v H Q →
    wpAny (model X.prog X.w) X.A (setItem ov iv u) (fun _ s' => ∃ H', Inv X pins σ H' s' ∧ Q H') X.xe s
section
variable {X : Cx} {pos : Pos}
def gName (i : Nat) : TG := fun v σ H Q => Q (σ.set i (some v)) H
theorem pg_name {i : Nat} {x : Str} (hN : X.N.Nodup) (hi : X.N[i]? = some x) (hx : Loc X.env.scope x) (hf : X.fn x = true ∨ X.env.scope.names.lookup x = some .local := by first | exact .inl rfl | exact .inr rfl | assumption) : PG X (.Name x pos) (gName i) := by
  intro pins s σ H v u Q I r h
  exact wpAny_assign_Name (store_ok I hN hi hx r (fun s' I' => ⟨_, H, I', h⟩) hf)
def gNil : TGs := fun vs σ H Q => vs = [] ∧ Q σ H
def gCons (t : TG) (u : TGs) : TGs := fun vs σ H Q => ∃ v r, vs = v :: r ∧ t v σ H fun σ' H' => u r σ' H' Q
theorem pgs_nil : PGs X [] gNil := by
  intro pins s σ H vs us Q I r h
  obtain ⟨e, h⟩ := h
  subst e
  cases r
  exact assignInOrder_nil ⟨σ, H, I, h⟩
theorem pgs_cons {e : Expr} {es : List Expr} {t : TG} {u : TGs} (h1 : PG X e t) (h2 : PGs X es u)
    (hs : (assignEach (e :: es) X.env).map (·.2) = assign e X.env :: (assignEach es X.env).map (·.2) := by rfl) : PGs X (e :: es) (gCons t u) := by
  intro pins s σ H vs us Q I r h
  obtain ⟨v, vr, e1, h⟩ := h
  subst e1
  cases r with
  | cons r rr =>
    rw [hs]
    refine assignInOrder_cons (thn (h1 pins s σ H _ _ _ I r h) fun _ s1 ⟨σ1, H1, I1, q1⟩ => ?_)
    exact h2 pins s1 σ1 H1 _ _ Q I1 rr q1
def gTup (K : PySem.W.Frag) (n : Nat) (t : TGs) : TG := fun v σ H Q => ∃ a xs, v = .ref a ∧ SqT K H a xs ∧ xs.length = n ∧ t xs σ H Q
theorem pg_tup {es : List Expr} {k : Nat} {t : TGs} {n : Nat} (hc : X.calm = true) (h : PGs X es t)
    (hn : (assignEach es X.env).length = n := by rfl) (hst : (assignEach es X.env).findIdx? (·.1) = none := by rfl) : PG X (.Tuple es k pos) (gTup X.K n t) := by
  intro pins s σ H v u Q I r hw
  obtain ⟨a, xs, e1, hq, hl, hw⟩ := hw
  subst e1
  cases r
  obtain ⟨its, rv, ht, hz⟩ := I.tuple hq
  refine assign_Tuple_tuple (I.ok.hd hc) ht (by simp [hn, ← hl, rv.length]) hst fun h' hx => ?_
  have I1 : Inv X pins σ H { s with heap := h' } := I.kept (t' := s.toks) fun b o e => hx b o (Nat.ne_of_lt (Heap.lt_size e)) e
  exact h pins _ σ H xs _ Q I1 (by simpa using rv) hw
def gSub (to ti : TE) (t : TSet) : TG := fun v σ H Q => to σ H fun o H1 => ti σ H1 fun i H2 => t o i v H2 fun H3 => Q σ H3
theorem pg_sub {o i : Expr} {to ti : TE} {t : TSet} (ho : PE X o to) (hi : PE X i ti) (hs : PSet X t)
    (ha : ∀ v, assign (.Subscript o i pos) X.env v = (do
      let ov ← holding [v] (eval o X.env)
      let iv ← holding [v, ov] (eval i X.env)
      standAt pos
      holding [v, ov, iv] (setItem ov iv v)
      release [v, ov, iv] []) := by intro _; rfl) : PG X (.Subscript o i pos) (gSub to ti t) := by
  intro pins s σ H v u Q I r h
  rw [ha]
  refine wpAny_bind (wpAny_holding (thn (ho pins s σ H _ I h) fun ov s1 ⟨x, H1, I1, r1, q1⟩ => ?_))
  refine wpAny_bind (wpAny_holding (thn (hi pins s1 σ H1 _ I1 q1) fun iv s2 ⟨y, H2, I2, r2, q2⟩ => ?_))
  refine wpAny_bind (wpAny_standAt (wpAny_bind (wpAny_holding (thn (hs pins s2 σ H2 x y v ov iv u _ I2 r1 r2 r q2) fun _ s3 ⟨H3, I3, q3⟩ => ?_))))
  exact wpAny_release ⟨σ, H3, I3, q3⟩
def tAsg (te : TE) (g : TG) : TS := fun D σ H => te σ H fun x H1 => g x σ H1 D.nx
theorem ps_asg {tg e : Expr} {te : TE} {g : TG} (he : PE X e te) (hg : PG X tg g) (hs : swapsWithSole [tg] e pos.line X.env = pure false := by rfl) (hw : swappedStores [tg] e X.env = pure none := by rfl)
    (h1 : (assignEach [tg] X.env).map (·.2) = [assign tg X.env] := by rfl) : PS X (.Assign [tg] e pos) (tAsg te g) := by
  intro pins s σ H D I h
  refine wpAny_Assign_stores (thn (he pins s σ H _ I h) fun v s1 ⟨x, H1, I1, r1, q1⟩ => ?_) hs hw
  rw [h1]
  exact thn (hg pins s1 σ H1 x v _ I1 r1 q1) fun _ s2 q => q
theorem ps_set {i : Nat} {x : Str} {e : Expr} {te : TE} {pos' : Pos} (hN : X.N.Nodup) (hi : X.N[i]? = some x) (hx : Loc X.env.scope x) (he : PE X e te) (hs : swapsWith e (some (.Name x pos')) pos.line X.env = pure false := by rfl) (hf : X.fn x = true ∨ X.env.scope.names.lookup x = some .local := by first | exact .inl rfl | exact .inr rfl | assumption) :
    PS X (.Assign [.Name x pos'] e pos) (tAsg te (gName i)) := by
  intro pins s σ H D I h
  refine wpAny_Assign_Name (thn (he pins s σ H _ I h) fun v s1 ⟨y, H1, I1, r1, q1⟩ => ?_) hs
  exact store_ok I1 hN hi hx r1 (fun s2 I2 => ⟨_, H1, I2, q1⟩) hf
end
section
variable {X : Cx} {pos : Pos}
def tWhile (c : TT) (tb : TS) : TS := fun D σ H => ∃ W : Nat → St → Hp → Prop, (∃ m, W m σ H) ∧ ∀ m σ H, W m σ H →
  c σ H fun b H1 => if b = true then ∃ N : St → Hp → Prop, (∀ σ' H', N σ' H' → ∃ m', m' < m ∧ W m' σ' H') ∧ tb { D with nx := N, ct := N, bk := D.nx } σ H1 else D.nx σ H1
theorem ps_while {c : Expr} {body : List Stmt} {tc : TT} {tb : TS} (hp : PassesOwn (model X.prog X.w) X.A X.env X.xe) (hc : PT X c tc) (hb : PSs X body tb) : PS X (.While c body [] pos) (tWhile tc tb) := by
  intro pins s σ H D I h
  obtain ⟨W, ⟨m0, w0⟩, turn⟩ := h
  refine wpAny_While (codeAny_whileLoop (fun n s' => ∃ σ' H', Inv X pins σ' H' s' ∧ W n σ' H') ?_ m0 ⟨σ, H, I, w0⟩)
  rintro n s1 ⟨σ1, H1, I1, w1⟩
  refine wpAny_passesOwn hp (thn (hc pins s1 σ1 H1 _ I1 (turn n σ1 H1 w1)) fun b s2 ⟨H2, I2, q2⟩ => ?_)
  cases b with
  | true =>
    obtain ⟨N, hN, q2⟩ := q2
    rw [if_pos rfl]
    refine wpAny_passesOwn hp (thn (hb pins s2 σ1 H2 _ I2 q2) fun f s3 q3 => ?_)
    cases f with
    | next =>
      obtain ⟨σ3, H3, I3, n3⟩ := q3
      obtain ⟨m', hm, w3⟩ := hN σ3 H3 n3
      exact ⟨m', hm, σ3, H3, I3, w3⟩
    | cont =>
      obtain ⟨σ3, H3, I3, n3⟩ := q3
      obtain ⟨m', hm, w3⟩ := hN σ3 H3 n3
      exact ⟨m', hm, σ3, H3, I3, w3⟩
    | brk => exact q3
    | ret v => exact q3
  | false =>
    rw [if_neg Bool.false_ne_true]
    exact wpAny_execs_nil ⟨σ1, H2, I2, q2⟩
end
structure It where
  go : Nat → Hp → Prop
  yld : Nat → Hp → V → Hp → Prop
  stop : Nat → Hp → Prop
def FpOk (X : Cx) (pins : List (Addr × Obj)) (H : Hp) (b : Addr) : Prop :=
  H b = none ∧ b ≠ X.env.locals ∧ b ∉ X.fs ∧ (b ∈ X.ex ∨ X.s₀.heap.objs.size ≤ b) ∧ (∀ x c, X.env.cells.lookup x = some c → c ≠ b) ∧ ∀ p ∈ X.pn ++ pins, p.1 ≠ b
theorem Inv.fpOk {X : Cx} {pins : List (Addr × Obj)} {σ : St} {H H' : Hp} {s : Shared} {b : Addr} (I : Inv X pins σ H s) (hb : s.heap.objs.size ≤ b) (hn : H' b = none) : FpOk X pins H' b := by
  refine ⟨hn, Nat.ne_of_gt (Nat.lt_of_lt_of_le I.lt hb), I.nofs hb, .inr (Nat.le_trans I.sz hb), fun x c e z => ?_, fun p hp z => ?_⟩
  · obtain ⟨v, q⟩ := I.cell x c e
    exact absurd (Nat.lt_of_lt_of_le q.lt (by rw [z]; exact hb)) (Nat.lt_irrefl _)
  · exact absurd (Nat.lt_of_lt_of_le (Heap.lt_size (I.pin p hp).1) (by rw [z]; exact hb)) (Nat.lt_irrefl _)
structure Turn (P : Program) (w : World) (K : PySem.W.Frag) (tg : Expr) (J : It) (fp : List Addr) (it : Addr) (tn : Nat → Heap → Prop) : Prop where
  mem : it ∈ fp
  obj : ∀ i h, tn i h → ∀ b ∈ fp, ∃ o, h.get? b = some o ∧ ∀ v, o.data ≠ .cell v
  keep : ∀ i h h', tn i h → (∀ b ∈ fp, ∀ o, h.get? b = some o → h'.get? b = some o) → tn i h'
  item : ∀ (X : Cx), X.prog = P → X.w = w → X.K = K → X.calm = true → ∀ (i : Nat) (pins : List (Addr × Obj)) (s : Shared) (σ : St) (H : Hp) (E : Value → Shared → Prop), Inv X pins σ H s → (∀ b ∈ fp, FpOk X pins H b) → tn i s.heap → J.go i H →
    wpAny (model P w) X.A (pyNext (.ref it)) (fun r s1 => ∃ u, r = some u ∧
      wpAny (model P w) X.A (letOwnedTupleGo tg (.ref it) u) (fun _ s2 => ∃ x H', Inv X pins σ H' s2 ∧ RelV x u ∧ J.yld i H x H' ∧ tn (i + 1) s2.heap ∧ ∀ b ∈ fp, H' b = none) E s1) E s
  done : ∀ (X : Cx), X.prog = P → X.w = w → X.K = K → X.calm = true → ∀ (i : Nat) (pins : List (Addr × Obj)) (s : Shared) (σ : St) (H : Hp) (E : Value → Shared → Prop), Inv X pins σ H s → (∀ b ∈ fp, FpOk X pins H b) → tn i s.heap → J.stop i H →
    wpAny (model P w) X.A (pyNext (.ref it)) (fun r s1 => r = none ∧ Inv X pins σ H s1) E s
  self : ∀ (A : Around) (i : Nat) (s : Shared) (Q : Value → Shared → Prop) (E : Value → Shared → Prop), tn i s.heap → Q (.ref it) s → wpAny (model P w) A (pyIter (.ref it)) Q E s
abbrev TI := St → Hp → (It → Hp → Prop) → Prop
def PIE (X : Cx) (pins : List (Addr × Obj)) (σ : St) (tg : Expr) (R : It → Hp → Prop) (itv : Value) (s2 : Shared) : Prop :=
  ∃ (it : Addr) (fp : List Addr) (tn : Nat → Heap → Prop) (J : It) (H' : Hp), itv = .ref it ∧ Inv X pins σ H' s2 ∧ Turn X.prog X.w X.K tg J fp it tn ∧ tn 0 s2.heap ∧ (∀ b ∈ fp, FpOk X pins H' b) ∧ R J H'
def PI (X : Cx) (tg iter : Expr) (wi : TI) : Prop :=
  ∀ (pins : List (Addr × Obj)) (s : Shared) (σ : St) (H : Hp) (R : It → Hp → Prop), Inv X pins σ H s → wi σ H R →
    wpAny (model X.prog X.w) X.A (eval iter X.env) (fun v s1 => wpAny (model X.prog X.w) X.A (pyIter v) (PIE X pins σ tg R) X.xe s1) X.xe s
theorem go_of {M : Model} {A : Around} {E : Value → Shared → Prop} {s : Shared} {tg : Expr} {it : Addr} {u : Value} {o : Obj} {n : String} {vs : Array Value} {Q : Unit → Shared → Prop} (ho : s.heap.get? it = some o) (hc : o.cls = .type n) (hd : o.data = .fields vs)
    (hn : ["enumerate", "zip", "dict_itemiterator", "dict_reverseitemiterator", "odict_iterator", "itertools.zip_longest", "itertools.pairwise"].contains n = false) (hQ : Q () s) : wpAny M A (letOwnedTupleGo tg (.ref it) u) Q E s := by
  unfold letOwnedTupleGo
  cases tg <;> first
    | exact wpAny_pure hQ
    | (cases u <;> first
        | exact wpAny_pure hQ
        | (refine wpAny_bind (wpAny_load ho ?_)
           rw [hc, hd]
           show wpAny M A (if (["enumerate", "zip", "dict_itemiterator", "dict_reverseitemiterator", "odict_iterator", "itertools.zip_longest", "itertools.pairwise"].contains n && vs[0]? == some (rawInt _)) = true then _ else _) Q E s
           rw [if_neg (by intro h; rw [hn, Bool.false_and] at h; cases h)]
           exact wpAny_pure hQ))
def Itl (K : PySem.W.Frag) (a : Addr) : It :=
  ⟨fun i H => ∃ xs x, SqL K H a xs ∧ xs[i]? = some x, fun i H x H' => H' = H ∧ ∀ xs, SqL K H a xs → xs[i]? = some x, fun i H => ∃ xs, SqL K H a xs ∧ xs.length ≤ i⟩
def Itr (lo : Int) (n : Nat) : It := ⟨fun i _ => i < n, fun i H x H' => H' = H ∧ x = .int (lo + i), fun i _ => n ≤ i⟩
theorem turn_list {P : Program} {w : World} {K : PySem.W.Frag} {tg : Expr} (a it : Addr) : Turn P w K tg (Itl K a) [it] it (fun i h => h.IsListIter it a i) where
  mem := by simp
  obj := fun i h st b hb => by
    have e : b = it := by simpa using hb
    subst e
    obtain ⟨o, e, c, d⟩ := st
    exact ⟨o, e, fun v z => by rw [d] at z; cases z⟩
  keep := fun i h h' st k => st.at fun o e => k it (by simp) o e
  item := by
    intro X hP hw hK hc i pins s σ H E I hf st hg
    subst hP hw hK
    obtain ⟨xs, x, hq, hx⟩ := hg
    obtain ⟨its, rv, p, hz⟩ := I.list hq
    obtain ⟨u, hu, ru⟩ := rv.get hx
    obtain ⟨f0, f1, f2, f3, f4, f5⟩ := hf it (by simp)
    refine wpAny_pyNext_list_item st p.isList (x := u) (by simpa using hu) fun h' st' sb => ?_
    have I1 : Inv X pins σ H { s with heap := h' } := I.turned (t' := s.toks) (fun b o hb e => (sb.2 b hb).trans e) f0 f1 f3 f4 f5
    obtain ⟨o, e, c, d⟩ := id st'
    exact ⟨u, rfl, go_of (s := { s with heap := h' }) e c d (by decide) ⟨x, H, I1, ru, ⟨rfl, fun ys hy => by rw [I.list_inj hy hq]; exact hx⟩, st', fun b hb => (hf b hb).1⟩⟩
  done := by
    intro X hP hw hK hc i pins s σ H E I hf st hg
    subst hP hw hK
    obtain ⟨xs, hq, hx⟩ := hg
    obtain ⟨its, rv, p, hz⟩ := I.list hq
    obtain ⟨f0, f1, f2, f3, f4, f5⟩ := hf it (by simp)
    have hl := rv.length
    exact wpAny_pyNext_list_end (I.ok.hd hc) st p.isList (by simp; omega) fun h' eb => ⟨rfl, I.turned (t' := s.toks) (fun b o hb e => eb b o hb e) f0 f1 f3 f4 f5⟩
  self := fun _ _ _ _ _ st h => wpAny_pyIter_listiter st h
theorem turn_range {P : Program} {w : World} {K : PySem.W.Frag} {tg : Expr} (it : Addr) (lo : Int) (n : Nat) : Turn P w K tg (Itr lo n) [it] it (fun i h => IsRangeIter h it (lo + (i : Nat) * 1) ((n : Int) - (i : Nat)) 1) where
  mem := by simp
  obj := fun i h st b hb => by
    have e : b = it := by simpa using hb
    subst e
    exact ⟨_, st, fun v z => by
      have z' : Data.fields _ = Data.cell v := z
      cases z'⟩
  keep := fun i h h' st k => k it (by simp) _ st
  item := by
    intro X hP hw hK hc i pins s σ H E I hf st hg
    subst hP hw hK
    obtain ⟨f0, f1, f2, f3, f4, f5⟩ := hf it (by simp)
    have W := Walks.range (prog := X.prog) (w := X.w) (I.ok.hd hc) it lo 1 n
    refine W.item i s _ _ hg st fun v h' tk hv st' kk => ?_
    obtain ⟨t, rfl⟩ := hv
    have I1 : Inv X pins σ H { s with heap := h', toks := tk } := I.turned (fun b o hb e => kk b o (by simpa using hb) e) f0 f1 f3 f4 f5
    refine ⟨_, rfl, go_of (s := { s with heap := h', toks := tk }) (n := "range_iterator") st' rfl rfl (by decide) ⟨.int (lo + i), H, I1, ⟨t, ?_⟩, ⟨rfl, rfl⟩, st', fun b hb => (hf b hb).1⟩⟩
    rw [Int.mul_one]
  done := by
    intro X hP hw hK hc i pins s σ H E I hf st hg
    subst hP hw hK
    obtain ⟨f0, f1, f2, f3, f4, f5⟩ := hf it (by simp)
    exact wpAny_pyNext_range_end (I.ok.hd hc) st (by have : n ≤ i := hg; omega) fun h' eb => ⟨rfl, I.turned (t' := s.toks) (fun b o hb e => eb b o hb e) f0 f1 f3 f4 f5⟩
  self := fun _ _ _ _ _ st h => wpAny_pyIter_rangeiter st h
end L2
namespace L2
open PySem PySem.Spec PyProof.Rows
section
variable {X : Cx} {tg : Expr}
def iList (K : PySem.W.Frag) (tl : TE) : TI := fun σ H R => tl σ H fun x H1 => ∃ a, x = .ref a ∧ (∃ xs, SqL K H1 a xs) ∧ R (Itl K a) H1
theorem pi_list {l : Expr} {tl : TE} (hl : PE X l tl) : PI X tg l (iList X.K tl) := by
  intro pins s σ H R I h
  refine thn (hl pins s σ H _ I h) fun v s1 ⟨x, H1, I1, r1, q1⟩ => ?_
  obtain ⟨a, e, ⟨xs, hq⟩, q⟩ := q1
  subst e
  cases r1
  obtain ⟨its, rv, p, hz⟩ := I1.list hq
  refine wpAny_pyIter_list p.isList ?_
  refine ⟨s1.heap.objs.size, [s1.heap.objs.size], _, _, H1, rfl, I1.kept (t' := s1.toks) fun b o e => Heap.get?_push_of_some _ e, turn_list a _, ⟨_, Heap.get?_push_size _ rfl, rfl, rfl⟩, fun b hb => ?_, q⟩
  have e : b = s1.heap.objs.size := by simpa using hb
  subst e
  exact I1.fpOk (Nat.le_refl _) (I1.hok.fresh (Nat.le_refl _))
theorem range_it {pins : List (Addr × Obj)} {σ : St} {H : Hp} {s : Shared} {R : It → Hp → Prop} {E : Value → Shared → Prop} {lo hi : Int} {t u v : Tok} {tk : Nat} (I : Inv X pins σ H s) (h1 : -(2 ^ 62) ≤ lo) (h2 : lo < 2 ^ 62) (h3 : -(2 ^ 62) ≤ hi) (h4 : hi < 2 ^ 62)
    (q : R (Itr lo (hi - lo).toNat) H) : wpAny (model X.prog X.w) X.A (pyIter (.ref s.heap.objs.size)) (PIE X pins σ tg R) E { s with heap := s.heap.push { cls := .type "range", data := .fields #[.int lo t, .int hi u, .int 1 v] }, toks := tk } := by
  refine wpAny_pyIter_range (IsRange.new ..) (small_one h1 h2 h3 h4) ?_
  have I1 : Inv X pins σ H { s with heap := s.heap.push { cls := .type "range", data := .fields #[.int lo t, .int hi u, .int 1 v] }, toks := tk } := I.kept fun b o e => Heap.get?_push_of_some _ e
  refine ⟨(s.heap.push { cls := .type "range", data := .fields #[.int lo t, .int hi u, .int 1 v] }).objs.size, [(s.heap.push { cls := .type "range", data := .fields #[.int lo t, .int hi u, .int 1 v] }).objs.size], _, _, H, rfl,
    I1.kept (t' := tk) fun b o e => Heap.get?_push_of_some _ e, turn_range _ lo (hi - lo).toNat, ?_, fun b hb => ?_, q⟩
  · have e1 : lo + ((0 : Nat) : Int) * 1 = lo := by simp
    have e2 : (((hi - lo).toNat : Nat) : Int) - ((0 : Nat) : Int) = Builtin.Range.rangeSize lo hi 1 := by rw [rangeSize_one]; split <;> omega
    show IsRangeIter _ _ (lo + ((0 : Nat) : Int) * 1) ((((hi - lo).toNat : Nat) : Int) - ((0 : Nat) : Int)) 1
    rw [e1, e2]
    exact Heap.get?_push_size _ rfl
  · have e : b = (s.heap.push { cls := .type "range", data := .fields #[.int lo t, .int hi u, .int 1 v] }).objs.size := by simpa using hb
    subst e
    exact I1.fpOk (Nat.le_refl _) (I1.hok.fresh (Nat.le_refl _))
def iRng1 (ta : TA) : TI := fun σ H R => ta σ H fun vs H1 => ∃ j : Int, vs = [.int j] ∧ -(2 ^ 62) ≤ j ∧ j < 2 ^ 62 ∧ R (Itr 0 j.toNat) H1
theorem pi_range1 {a : Expr} {ta : TA} {p pos : Pos} (hg : Gl X "range") (hm : X.mg "range" = none) (ha : PA X [a] ta) (hs : starEach [a] X.env = [(false, eval a X.env)] := by rfl) : PI X tg (.Call (.Name "range" p) [a] [] pos) (iRng1 ta) := by
  intro pins s σ H R I h
  refine Call_ (ld_blt I hg hm boot_range (PyProof.Rows.callWith_type1 (thn (ha pos pins s σ H _ I h) fun us s1 ⟨vs, H1, I1, r1, q1⟩ => ?_) hs rfl))
  obtain ⟨j, e, q1, q2, q⟩ := q1
  subst e
  cases r1 with
  | cons r rr =>
    cases rr
    obtain ⟨t, rfl⟩ := r
    exact call_range_1 (range_it I1 (by omega) (by omega) q1 q2 (by simpa using q))
def tFor (wi : TI) (g : TG) (tb : TS) : TS := fun D σ H => wi σ H fun J H1 => ∃ W : Nat → Nat → St → Hp → Prop, (∃ m, W 0 m σ H1) ∧ ∀ i m σ H, W i m σ H →
  (J.stop i H ∧ D.nx σ H) ∨ (J.go i H ∧ ∃ N : St → Hp → Prop, (∀ σ' H', N σ' H' → ∃ m', m' < m ∧ W (i + 1) m' σ' H') ∧ ∀ x H', J.yld i H x H' → g x σ H' fun σ2 H2 => tb { D with nx := N, ct := N, bk := D.nx } σ2 H2)
def pinsAt (fp : List Addr) (h : Heap) : List (Addr × Obj) := fp.filterMap fun b => (h.get? b).map fun o => (b, o)
theorem mem_pinsAt {fp : List Addr} {h : Heap} {b : Addr} {o : Obj} (hb : b ∈ fp) (e : h.get? b = some o) : (b, o) ∈ pinsAt fp h := List.mem_filterMap.mpr ⟨b, hb, by rw [e]; rfl⟩
theorem of_pinsAt {fp : List Addr} {h : Heap} {p : Addr × Obj} (hp : p ∈ pinsAt fp h) : p.1 ∈ fp ∧ h.get? p.1 = some p.2 := by
  obtain ⟨b, hb, e⟩ := List.mem_filterMap.mp hp
  cases q : h.get? b with
  | none => rw [q] at e; cases e
  | some o =>
    rw [q] at e
    have e' : (b, o) = p := Option.some.inj e
    subst e'
    exact ⟨hb, q⟩
theorem Inv.pinned {pins : List (Addr × Obj)} {σ : St} {H : Hp} {s : Shared} {fp : List Addr} (I : Inv X pins σ H s) (hf : ∀ b ∈ fp, FpOk X pins H b) (ho : ∀ b ∈ fp, ∃ o, s.heap.get? b = some o ∧ ∀ v, o.data ≠ .cell v) : Inv X (pins ++ pinsAt fp s.heap) σ H s :=
  I.pins_of fun p hp => (List.mem_append.mp hp).elim (fun z => I.pin p (List.mem_append_right _ z)) fun z => by
    obtain ⟨hb, e⟩ := of_pinsAt z
    obtain ⟨f0, f1, f2, _⟩ := hf p.1 hb
    obtain ⟨o, e', d⟩ := ho p.1 hb
    rw [e] at e'; cases e'
    exact ⟨e, f0, f1, f2, d⟩
theorem Inv.unpinned {pins pl : List (Addr × Obj)} {σ : St} {H : Hp} {s : Shared} (I : Inv X (pins ++ pl) σ H s) : Inv X pins σ H s := I.pins_of fun p hp => I.pin p (List.mem_append_right _ (List.mem_append_left _ hp))
theorem ps_for {iter : Expr} {body : List Stmt} {wi : TI} {g : TG} {tb : TS} {pos : Pos} (hp : PassesOwn (model X.prog X.w) X.A X.env X.xe) (hc : X.calm = true) (hi : PI X tg iter wi) (hg : PG X tg g) (hb : PSs X body tb)
    (hs : ∀ x, foldedSetIterable iter X.env x = pure x := by intro _; rfl) : PS X (.For tg iter body [] pos) (tFor wi g tb) := by
  intro pins s σ H D I h
  refine wpAny_For (thn (hi pins s σ H _ I h) fun v s1 h1 => thn h1 fun itv s2 h2 => ?_) hs
  obtain ⟨it, fp, tn, J, H2, e, I2, T, st2, f2, W, ⟨m0, w0⟩, turn⟩ := h2
  subst e
  have stat : ∀ {H' : Hp}, (∀ b ∈ fp, H' b = none) → ∀ b ∈ fp, FpOk X pins H' b := fun hn b hb => ⟨hn b hb, (f2 b hb).2⟩
  refine codeAny_forLoop_any (fun n s' => ∃ i σ' H', Inv X pins σ' H' s' ∧ tn i s'.heap ∧ (∀ b ∈ fp, H' b = none) ∧ W i n σ' H') ?_ m0 ⟨0, σ, H2, I2, st2, fun b hb => (f2 b hb).1, w0⟩
  rintro n s3 ⟨i, σ3, H3, I3, st3, fr3, w3⟩
  rcases turn i n σ3 H3 w3 with ⟨stop, qn⟩ | ⟨go, N, hN, step⟩
  · refine wpAny_passesOwn hp (thn (T.done X rfl rfl rfl hc i pins s3 σ3 H3 X.xe I3 (stat fr3) st3 stop) fun r s4 ⟨hr, I4⟩ => ?_)
    subst hr
    exact wpAny_execs_nil ⟨σ3, H3, I4, qn⟩
  · refine wpAny_passesOwn hp (thn (T.item X rfl rfl rfl hc i pins s3 σ3 H3 X.xe I3 (stat fr3) st3 go) fun r s4 ⟨u, hr, h4⟩ => ?_)
    subst hr
    refine wpAny_passesOwn hp (thn h4 fun _ s5 ⟨x, H5, I5, r5, y5, st5, fr5⟩ => ?_)
    have I5' := I5.pinned (stat fr5) (T.obj _ _ st5)
    refine wpAny_passesOwn hp (thn (hg _ s5 σ3 H5 x u _ I5' r5 (step x H5 y5)) fun _ s6 ⟨σ6, H6, I6, q6⟩ => ?_)
    refine wpAny_passesOwn hp (thn (hb _ s6 σ6 H6 _ I6 q6) fun f s7 q7 => ?_)
    have again : ∀ {σ7 : St} {H7 : Hp}, Inv X (pins ++ pinsAt fp s5.heap) σ7 H7 s7 → N σ7 H7 → ∃ m, m < n ∧ ∃ i σ' H', Inv X pins σ' H' s7 ∧ tn i s7.heap ∧ (∀ b ∈ fp, H' b = none) ∧ W i m σ' H' := fun {σ7 H7} I7 n7 => by
      obtain ⟨m', hm, w7⟩ := hN σ7 H7 n7
      refine ⟨m', hm, i + 1, σ7, H7, I7.unpinned, T.keep _ _ _ st5 fun b hb o e => (I7.pin (b, o) (List.mem_append_right _ (List.mem_append_right _ (mem_pinsAt hb e)))).1, fun b hb => ?_, w7⟩
      obtain ⟨o, e, d⟩ := T.obj _ _ st5 b hb
      exact (I7.pin (b, o) (List.mem_append_right _ (List.mem_append_right _ (mem_pinsAt hb e)))).2.1
    cases f with
    | next => obtain ⟨σ7, H7, I7, n7⟩ := q7; exact again I7 n7
    | cont => obtain ⟨σ7, H7, I7, n7⟩ := q7; exact again I7 n7
    | brk => obtain ⟨σ7, H7, I7, q7⟩ := q7; exact ⟨σ7, H7, I7.unpinned, q7⟩
    | ret v => obtain ⟨x7, σ7, H7, I7, r7, q7⟩ := q7; exact ⟨x7, σ7, H7, I7.unpinned, r7, q7⟩
end
theorem for_list {K : PySem.W.Frag} {a : Addr} {xs : List V} {g : TG} {tb : TS} {D : Ends} {σ : St} {H : Hp} (Pv : Nat → St → Hp → Prop) (h0 : Pv 0 σ H) (hl : ∀ i σ H, i ≤ xs.length → Pv i σ H → SqL K H a xs)
    (hs : ∀ i x σ H, xs[i]? = some x → Pv i σ H → g x σ H fun σ2 H2 => tb { D with nx := Pv (i + 1), ct := Pv (i + 1), bk := D.nx } σ2 H2) (hd : ∀ σ H, Pv xs.length σ H → D.nx σ H) :
    ∃ W : Nat → Nat → St → Hp → Prop, (∃ m, W 0 m σ H) ∧ ∀ i m σ H, W i m σ H →
      ((Itl K a).stop i H ∧ D.nx σ H) ∨ ((Itl K a).go i H ∧ ∃ N : St → Hp → Prop, (∀ σ' H', N σ' H' → ∃ m', m' < m ∧ W (i + 1) m' σ' H') ∧ ∀ x H', (Itl K a).yld i H x H' → g x σ H' fun σ2 H2 => tb { D with nx := N, ct := N, bk := D.nx } σ2 H2) := by
  refine ⟨fun i m σ H => m = xs.length - i ∧ i ≤ xs.length ∧ Pv i σ H, ⟨xs.length, by simp, Nat.zero_le _, h0⟩, ?_⟩
  rintro i m σ H ⟨rfl, hi, p⟩
  have q := hl i σ H hi p
  by_cases hlt : i < xs.length
  · refine .inr ⟨⟨xs, xs[i], q, by simp [hlt]⟩, Pv (i + 1), fun σ' H' p' => ⟨xs.length - (i + 1), by omega, rfl, hlt, p'⟩, fun x H' y => ?_⟩
    obtain ⟨e, y⟩ := y
    subst e
    exact hs i x σ _ (y xs q) p
  · have e : i = xs.length := by omega
    subst e
    exact .inl ⟨⟨xs, q, Nat.le_refl _⟩, hd σ H p⟩
theorem for_range {lo : Int} {n : Nat} {g : TG} {tb : TS} {D : Ends} {σ : St} {H : Hp} (Pv : Nat → St → Hp → Prop) (h0 : Pv 0 σ H)
    (hs : ∀ i σ H, i < n → Pv i σ H → g (.int (lo + i)) σ H fun σ2 H2 => tb { D with nx := Pv (i + 1), ct := Pv (i + 1), bk := D.nx } σ2 H2) (hd : ∀ σ H, Pv n σ H → D.nx σ H) :
    ∃ W : Nat → Nat → St → Hp → Prop, (∃ m, W 0 m σ H) ∧ ∀ i m σ H, W i m σ H →
      ((Itr lo n).stop i H ∧ D.nx σ H) ∨ ((Itr lo n).go i H ∧ ∃ N : St → Hp → Prop, (∀ σ' H', N σ' H' → ∃ m', m' < m ∧ W (i + 1) m' σ' H') ∧ ∀ x H', (Itr lo n).yld i H x H' → g x σ H' fun σ2 H2 => tb { D with nx := N, ct := N, bk := D.nx } σ2 H2) := by
  refine ⟨fun i m σ H => m = n - i ∧ i ≤ n ∧ Pv i σ H, ⟨n, by simp, Nat.zero_le _, h0⟩, ?_⟩
  rintro i m σ H ⟨rfl, hi, p⟩
  by_cases hlt : i < n
  · refine .inr ⟨hlt, Pv (i + 1), fun σ' H' p' => ⟨n - (i + 1), by omega, rfl, hlt, p'⟩, fun x H' y => ?_⟩
    obtain ⟨e, y⟩ := y
    subst e y
    exact hs i σ _ hlt p
  · have e : i = n := by omega
    subst e
    exact .inl ⟨Nat.le_refl _, hd σ H p⟩
end L2
namespace L2
open PySem PySem.Spec PyProof.Rows
abbrev R2 := V → V → Hp → VK → Prop
def OpR (X : Cx) (f : Value → Value → Sem Value) (r : R2) : Prop :=
  ∀ (pins : List (Addr × Obj)) (s : Shared) (σ : St) (H : Hp) (x y : V) (v u : Value) (Q : VK), Inv X pins σ H s → RelV x v → RelV y u → r x y H Q →
    wpAny (model X.prog X.w) X.A (f v u) (EP X pins σ Q) X.xe s
def UnR (X : Cx) (f : Value → Sem Value) (r : V → Hp → VK → Prop) : Prop :=
  ∀ (pins : List (Addr × Obj)) (s : Shared) (σ : St) (H : Hp) (x : V) (v : Value) (Q : VK), Inv X pins σ H s → RelV x v → r x H Q →
    wpAny (model X.prog X.w) X.A (f v) (EP X pins σ Q) X.xe s
def CallR (X : Cx) (f : Value) (r : List V → Hp → VK → Prop) : Prop :=
  ∀ (pins : List (Addr × Obj)) (s : Shared) (σ : St) (H : Hp) (xs : List V) (us : List Value) (Q : VK), Inv X pins σ H s → Vals xs us → r xs H Q →
    wpAny (model X.prog X.w) X.A (call f us) (EP X pins σ Q) X.xe s
def tOp (r : R2) (ta tb : TE) : TE := fun σ H Q => ta σ H fun x H1 => tb σ H1 fun y H2 => r x y H2 Q
def tUn (r : V → Hp → VK → Prop) (ta : TE) : TE := fun σ H Q => ta σ H fun x H1 => r x H1 Q
def rI (C : Int → Int → Prop) (g : Int → Int → V) : R2 := fun x y H Q => ∃ i j, x = .int i ∧ y = .int j ∧ C i j ∧ Q (g i j) H
def rI0 (g : Int → Int → V) : R2 := fun x y H Q => ∃ i j, x = .int i ∧ y = .int j ∧ Q (g i j) H
def rU (g : Int → V) : V → Hp → VK → Prop := fun x H Q => ∃ i, x = .int i ∧ Q (g i) H
section
variable {X : Cx} {a b c : Expr} {ta tb tc : TE} {pos : Pos}
theorem binT (ha : PE X a ta) (hb : PE X b tb) {pins : List (Addr × Obj)} {s : Shared} {σ : St} {H : Hp} {R : V → V → Hp → Prop} (I : Inv X pins σ H s)
    (h : ta σ H fun x H1 => tb σ H1 fun y H2 => R x y H2) {Q : Value → Shared → Prop} {f : Value → Value → Sem Value}
    (hf : ∀ v u s2 x y H2, Inv X pins σ H2 s2 → RelV x v → RelV y u → R x y H2 → wpAny (model X.prog X.w) X.A (f v u) Q X.xe s2) :
    wpAny (model X.prog X.w) X.A (eval a X.env) (fun v s₁ => wpAny (model X.prog X.w) X.A (eval b X.env) (fun u s₂ => wpAny (model X.prog X.w) X.A (f v u) Q X.xe s₂) X.xe s₁) X.xe s := by
  refine thn (ha pins s σ H _ I h) fun v s1 ⟨x, H1, I1, r1, q1⟩ => ?_
  refine thn (hb pins s1 σ H1 _ I1 q1) fun u s2 ⟨y, H2, I2, r2, q2⟩ => ?_
  exact hf v u s2 x y H2 I2 r1 r2 q2
theorem pe_op {op : Operator} {r : R2} (ho : OpR X (binaryOp op) r) (ha : PE X a ta) (hb : PE X b tb) : PE X (.BinOp a op b pos) (tOp r ta tb) := by
  intro pins s σ H Q I h
  exact wpAny_BinOp (binT ha hb I h fun v u s2 x y H2 I2 rx ry q => ho pins s2 σ H2 x y v u Q I2 rx ry q)
theorem pe_un {op : UnaryOp} {r : V → Hp → VK → Prop} (ho : UnR X (unaryOp op) r) (ha : PE X a ta) : PE X (.UnaryOp op a pos) (tUn r ta) := by
  intro pins s σ H Q I h
  exact UnaryOp_ (thn (ha pins s σ H _ I h) fun v s1 ⟨x, H1, I1, r1, q1⟩ => ho pins s1 σ H1 x v Q I1 r1 q1)
theorem opI {f : Value → Value → Sem Value} {C : Int → Int → Prop} {g : Int → Int → Int}
    (rule : ∀ (i j : Int) (t u : Tok) (s : Shared) (Q : Value → Shared → Prop) (E : Value → Shared → Prop), C i j → Q (.int (g i j) s.toks) { s with toks := s.toks + 1 } → wpAny (model X.prog X.w) X.A (f (.int i t) (.int j u)) Q E s) :
    OpR X f (rI C fun i j => .int (g i j)) := by
  intro pins s σ H x y v u Q I rx ry h
  obtain ⟨i, j, rfl, rfl, hc, q⟩ := h
  obtain ⟨t, rfl⟩ := rx
  obtain ⟨t', rfl⟩ := ry
  exact rule i j t t' s _ _ hc ⟨.int (g i j), H, I.tok _, ⟨_, rfl⟩, q⟩
theorem opI0 {f : Value → Value → Sem Value} {g : Int → Int → Int}
    (rule : ∀ (i j : Int) (t u : Tok) (s : Shared) (Q : Value → Shared → Prop) (E : Value → Shared → Prop), Q (.int (g i j) s.toks) { s with toks := s.toks + 1 } → wpAny (model X.prog X.w) X.A (f (.int i t) (.int j u)) Q E s) :
    OpR X f (rI0 fun i j => .int (g i j)) := by
  intro pins s σ H x y v u Q I rx ry h
  obtain ⟨i, j, rfl, rfl, q⟩ := h
  obtain ⟨t, rfl⟩ := rx
  obtain ⟨t', rfl⟩ := ry
  exact rule i j t t' s _ _ ⟨.int (g i j), H, I.tok _, ⟨_, rfl⟩, q⟩
theorem opB0 {f : Value → Value → Sem Value} {g : Int → Int → Bool}
    (rule : ∀ (i j : Int) (t u : Tok) (s : Shared) (Q : Value → Shared → Prop) (E : Value → Shared → Prop), Q (.bool (g i j)) s → wpAny (model X.prog X.w) X.A (f (.int i t) (.int j u)) Q E s) :
    OpR X f (rI0 fun i j => .bl (g i j)) := by
  intro pins s σ H x y v u Q I rx ry h
  obtain ⟨i, j, rfl, rfl, q⟩ := h
  obtain ⟨t, rfl⟩ := rx
  obtain ⟨t', rfl⟩ := ry
  exact rule i j t t' s _ _ ⟨.bl (g i j), H, I, rfl, q⟩
theorem op_add : OpR X (binaryOp .Add) (rI0 fun i j => .int (i + j)) := opI0 fun _ _ _ _ _ _ _ q => add_int q
theorem op_sub : OpR X (binaryOp .Sub) (rI0 fun i j => .int (i - j)) := opI0 fun _ _ _ _ _ _ _ q => sub_int q
theorem op_mod : OpR X (binaryOp .Mod) (rI (fun _ j => 0 < j) fun i j => .int (i % j)) := opI fun i j _ _ _ _ _ hc q => by
  have h1 : (0 : Int) < j := hc
  exact mod_int' (by omega) (by rw [Int.fmod_eq_emod_of_nonneg i (by omega)]; exact q)
theorem unI {f : Value → Sem Value} {g : Int → Int}
    (rule : ∀ (i : Int) (t : Tok) (s : Shared) (Q : Value → Shared → Prop) (E : Value → Shared → Prop), Q (.int (g i) s.toks) { s with toks := s.toks + 1 } → wpAny (model X.prog X.w) X.A (f (.int i t)) Q E s) :
    UnR X f (rU fun i => .int (g i)) := by
  intro pins s σ H x v Q I rx h
  obtain ⟨i, rfl, q⟩ := h
  obtain ⟨t, rfl⟩ := rx
  exact rule i t s _ _ ⟨.int (g i), H, I.tok _, ⟨_, rfl⟩, q⟩
theorem un_neg : UnR X (unaryOp .USub) (rU fun i => .int (-i)) := unI fun _ _ _ _ _ q => neg_int q
end
def scal : V → V → Bool
  | .non, .non => true | .non, .int _ => true | .int _, .non => true | .non, .bl _ => true | .bl _, .non => true | .non, .str _ => true | .str _, .non => true
  | .int _, .int _ => true | .bl _, .bl _ => true | .str _, .str _ => true | .byt _, .byt _ => true
  | .int _, .str _ => true | .str _, .int _ => true | .bl _, .str _ => true | .str _, .bl _ => true
  | _, _ => false
def rEq : R2 := fun x y H Q => scal x y = true ∧ Q (.bl (decide (x = y))) H
def rNe : R2 := fun x y H Q => scal x y = true ∧ Q (.bl (!decide (x = y))) H
theorem dec_int {i j : Int} : decide (V.int i = V.int j) = (i == j) := by
  rw [Bool.eq_iff_iff]
  simp
theorem dec_bl {i j : Bool} : decide (V.bl i = V.bl j) = (i == j) := by
  rw [Bool.eq_iff_iff]
  simp
theorem dec_str {i j : Str} : decide (V.str i = V.str j) = (i == j) := by
  rw [Bool.eq_iff_iff]
  simp
theorem dec_byt {i j : Array UInt8} : decide (V.byt i = V.byt j) = (i.toList == j.toList) := by
  rw [Bool.eq_iff_iff]
  cases i
  cases j
  simp
section
variable {X : Cx} {a b c : Expr} {ta tb tc : TE} {pos : Pos}
theorem fin_bl {pins : List (Addr × Obj)} {σ : St} {H : Hp} {s : Shared} {Q : VK} {k k' : Bool} (I : Inv X pins σ H s) (q : Q (.bl k) H) (e : k = k') : EP X pins σ Q (.bool k') s := by
  subst e
  exact ⟨.bl k, H, I, rfl, q⟩
theorem op_eq : OpR X (compareOp .Eq) rEq := by
  intro pins s σ H x y v u Q I rx ry h
  obtain ⟨hs, q⟩ := h
  cases x with
  | non =>
    cases rx
    cases y with
    | non => cases ry; exact PySem.EqNone.eq_none_none (fin_bl I q (by simp))
    | bl j => cases ry; exact PySem.EqNone.eq_none_bool (fin_bl I q (by simp))
    | int j => obtain ⟨t', rfl⟩ := ry; exact PySem.EqNone.eq_none_int (fin_bl I q (by simp))
    | str j => obtain ⟨t', rfl⟩ := ry; exact PySem.EqNone.eq_none_str (fin_bl I q (by simp))
    | _ => exact absurd (show false = true from hs) Bool.false_ne_true
  | bl i =>
    cases rx
    cases y with
    | non => cases ry; exact PySem.EqNone.eq_bool_none (fin_bl I q (by simp))
    | bl j => cases ry; exact eq_bool (fin_bl I q dec_bl)
    | str j => obtain ⟨t', rfl⟩ := ry; exact PySem.EqMixed.eq_bool_str (fin_bl I q (by simp))
    | _ => exact absurd (show false = true from hs) Bool.false_ne_true
  | int i =>
    obtain ⟨t, rfl⟩ := rx
    cases y with
    | non => cases ry; exact PySem.EqNone.eq_int_none (fin_bl I q (by simp))
    | int j => obtain ⟨t', rfl⟩ := ry; exact eq_int (fin_bl I q dec_int)
    | str j => obtain ⟨t', rfl⟩ := ry; exact PySem.EqMixed.eq_int_str (fin_bl I q (by simp))
    | _ => exact absurd (show false = true from hs) Bool.false_ne_true
  | str i =>
    obtain ⟨t, rfl⟩ := rx
    cases y with
    | non => cases ry; exact PySem.EqNone.eq_str_none (fin_bl I q (by simp))
    | bl j => cases ry; exact PySem.EqMixed.eq_str_bool (fin_bl I q (by simp))
    | int j => obtain ⟨t', rfl⟩ := ry; exact PySem.EqMixed.eq_str_int (fin_bl I q (by simp))
    | str j => obtain ⟨t', rfl⟩ := ry; exact eq_str (fin_bl I q dec_str)
    | _ => exact absurd (show false = true from hs) Bool.false_ne_true
  | byt i =>
    obtain ⟨t, rfl⟩ := rx
    cases y with
    | byt j => obtain ⟨t', rfl⟩ := ry; exact PySem.W.eq_bytes (fin_bl I q dec_byt)
    | _ => exact absurd (show false = true from hs) Bool.false_ne_true
  | _ => cases y <;> exact absurd (show false = true from hs) Bool.false_ne_true
theorem op_ne : OpR X (compareOp .NotEq) rNe := by
  intro pins s σ H x y v u Q I rx ry h
  obtain ⟨hs, q⟩ := h
  cases x with
  | non =>
    cases rx
    cases y with
    | non => cases ry; exact PySem.EqNone.ne_none_none (fin_bl I q (by simp))
    | bl j => cases ry; exact PySem.EqNone.ne_none_bool (fin_bl I q (by simp))
    | int j => obtain ⟨t', rfl⟩ := ry; exact PySem.EqNone.ne_none_int (fin_bl I q (by simp))
    | str j => obtain ⟨t', rfl⟩ := ry; exact PySem.EqNone.ne_none_str (fin_bl I q (by simp))
    | _ => exact absurd (show false = true from hs) Bool.false_ne_true
  | bl i =>
    cases rx
    cases y with
    | non => cases ry; exact PySem.EqNone.ne_bool_none (fin_bl I q (by simp))
    | bl j => cases ry; exact ne_bool (fin_bl I q (congrArg not dec_bl))
    | str j => obtain ⟨t', rfl⟩ := ry; exact PySem.EqMixed.ne_bool_str (fin_bl I q (by simp))
    | _ => exact absurd (show false = true from hs) Bool.false_ne_true
  | int i =>
    obtain ⟨t, rfl⟩ := rx
    cases y with
    | non => cases ry; exact PySem.EqNone.ne_int_none (fin_bl I q (by simp))
    | int j => obtain ⟨t', rfl⟩ := ry; exact ne_int (fin_bl I q (congrArg not dec_int))
    | str j => obtain ⟨t', rfl⟩ := ry; exact PySem.EqMixed.ne_int_str (fin_bl I q (by simp))
    | _ => exact absurd (show false = true from hs) Bool.false_ne_true
  | str i =>
    obtain ⟨t, rfl⟩ := rx
    cases y with
    | non => cases ry; exact PySem.EqNone.ne_str_none (fin_bl I q (by simp))
    | bl j => cases ry; exact PySem.EqMixed.ne_str_bool (fin_bl I q (by simp))
    | int j => obtain ⟨t', rfl⟩ := ry; exact PySem.EqMixed.ne_str_int (fin_bl I q (by simp))
    | str j => obtain ⟨t', rfl⟩ := ry; exact ne_str (fin_bl I q (congrArg not dec_str))
    | _ => exact absurd (show false = true from hs) Bool.false_ne_true
  | byt i =>
    obtain ⟨t, rfl⟩ := rx
    cases y with
    | byt j => obtain ⟨t', rfl⟩ := ry; exact PySem.W.ne_bytes (fin_bl I q (congrArg not dec_byt))
    | _ => exact absurd (show false = true from hs) Bool.false_ne_true
  | _ => cases y <;> exact absurd (show false = true from hs) Bool.false_ne_true
theorem op_lt : OpR X (compareOp .Lt) (rI0 fun i j => .bl (decide (i < j))) := opB0 fun _ _ _ _ _ _ _ q => lt_int q
theorem op_gt : OpR X (compareOp .Gt) (rI0 fun i j => .bl (decide (j < i))) := opB0 fun _ _ _ _ _ _ _ q => gt_int q
theorem op_ge : OpR X (compareOp .GtE) (rI0 fun i j => .bl (decide (j ≤ i))) := opB0 fun _ _ _ _ _ _ _ q => ge_int q
theorem op_isN : OpR X (compareOp .Is) (fun x y H Q => y = .non ∧ Q (.bl (decide (x = .non))) H) := by
  intro pins s σ H x y v u Q I rx ry h
  obtain ⟨rfl, q⟩ := h
  cases ry
  refine is_none_gen (fin_bl I q ?_)
  cases x <;> first
    | (cases rx; rfl)
    | (obtain ⟨t, rfl⟩ := rx; rfl)
theorem op_notN : OpR X (compareOp .IsNot) (fun x y H Q => y = .non ∧ Q (.bl (!decide (x = .non))) H) := by
  intro pins s σ H x y v u Q I rx ry h
  obtain ⟨rfl, q⟩ := h
  cases ry
  refine isnot_none_gen (fin_bl I q ?_)
  cases x <;> first
    | (cases rx; rfl)
    | (obtain ⟨t, rfl⟩ := rx; rfl)
theorem nomark (b : Expr) {op : CmpOp} (h : op ≠ .In := by decide) (h2 : op ≠ .NotIn := by decide) : behindInMarks op b = false := by
  have e1 : (op == CmpOp.In) = false := by cases op <;> first | rfl | exact absurd rfl h
  have e2 : (op == CmpOp.NotIn) = false := by cases op <;> first | rfl | exact absurd rfl h2
  cases b <;> simp [behindInMarks, e1, e2]
theorem pe_cmpR {op : CmpOp} {r : R2} (ho : OpR X (compareOp op) r) (ha : PE X a ta) (hb : PE X b tb) (hm : behindInMarks op b = false) : PE X (.Compare a [op] [b] pos) (tOp r ta tb) := by
  intro pins s σ H Q I h
  exact wpAny_Compare1 (binT ha hb I h fun v u s2 x y H2 I2 rx ry q => ho pins s2 σ H2 x y v u Q I2 rx ry q) hm
def tTest (t : TE) : TT := fun σ H Q => t σ H fun x H' => ∃ k, x = .bl k ∧ Q k H'
theorem pt_cmpR {op : CmpOp} {r : R2} (ho : OpR X (compareOp op) r) (ha : PE X a ta) (hb : PE X b tb) (hm : behindInMarks op b = false) : PT X (.Compare a [op] [b] pos) (tTest (tOp r ta tb)) := by
  intro pins s σ H Q I h
  refine wpAny_isTrue_Compare1 (thn (ha pins s σ H _ I h) fun v s1 ⟨x, H1, I1, r1, q1⟩ => thn (hb pins s1 σ H1 _ I1 q1) fun u s2 ⟨y, H2, I2, r2, q2⟩ =>
    thn (ho pins s2 σ H2 x y v u _ I2 r1 r2 q2) fun c s3 ⟨z, H3, I3, r3, k, e, q3⟩ => ?_) hm
  subst e
  cases r3
  exact wpAny_truthy_bool ⟨H3, I3, q3⟩
theorem line63 : (sizeLine : Nat) < 2 ^ 63 := by rw [sizeLine_eq]; decide
theorem vals1 {x : V} {us : List Value} (r : Vals [x] us) : ∃ u, us = [u] ∧ RelV x u := by
  cases r with
  | cons r1 r2 => cases r2; exact ⟨_, rfl, r1⟩
theorem vals2 {x y : V} {us : List Value} (r : Vals [x, y] us) : ∃ u w', us = [u, w'] ∧ RelV x u ∧ RelV y w' := by
  cases r with
  | cons r1 r2 =>
    cases r2 with
    | cons r3 r4 => cases r4; exact ⟨_, _, rfl, r1, r3⟩
theorem call_max2 (hc : X.calm = true) : CallR X (.builtin "max") (fun xs H Q => ∃ i j, xs = [.int i, .int j] ∧ Q (.int (if j > i then j else i)) H) := by
  intro pins s σ H xs us Q I r h
  obtain ⟨i, j, rfl, q⟩ := h
  obtain ⟨u, w', rfl, ⟨t, rfl⟩, ⟨t', rfl⟩⟩ := vals2 r
  refine max_two_ints (I.ok.hd hc) fun h' tk k => ⟨_, H, I.kept k, ?_, q⟩
  by_cases hj : j > i
  · rw [if_pos hj, if_pos hj]; exact ⟨_, rfl⟩
  · rw [if_neg hj, if_neg hj]; exact ⟨_, rfl⟩
theorem call_min2 (hc : X.calm = true) : CallR X (.builtin "min") (fun xs H Q => ∃ i j, xs = [.int i, .int j] ∧ Q (.int (if j < i then j else i)) H) := by
  intro pins s σ H xs us Q I r h
  obtain ⟨i, j, rfl, q⟩ := h
  obtain ⟨u, w', rfl, ⟨t, rfl⟩, ⟨t', rfl⟩⟩ := vals2 r
  refine min_two_ints (I.ok.hd hc) fun h' tk k => ⟨_, H, I.kept k, ?_, q⟩
  by_cases hj : j < i
  · rw [if_pos hj, if_pos hj]; exact ⟨_, rfl⟩
  · rw [if_neg hj, if_neg hj]; exact ⟨_, rfl⟩
end
end L2
namespace L2
open PySem PySem.Spec PyProof.Rows
structure ObjM (h : Heap) (x dx C : Addr) (mA : Str → Option Value) : Prop where
  obj : h.get? x = some (PySem.W.instObj C dx)
  ns : h.Ns1 dx mA
  ne : dx ≠ x
theorem lookIn_ns {h : Heap} {dx : Addr} {mA : Str → Option Value} (n : h.Ns1 dx mA) : ∃ od, h.get? dx = some od ∧ ∀ name, PySem.W.lookIn name od = some (mA name) := by
  obtain ⟨o, es, ep, ho, hd, hk, _, hm⟩ := n
  refine ⟨o, ho, fun name => ?_⟩
  have e := hm name
  unfold nsFind findBy at e
  rw [← Array.find?_toList] at e
  unfold PySem.W.lookIn
  rw [hd]
  dsimp only
  split
  · rename_i y q
    rw [q] at e
    exact congrArg some e
  · rename_i q
    rw [q] at e
    have a : es.toList.any (·.refKey) = false := by
      rw [List.any_eq_false]
      intro y hy
      obtain ⟨z, t, hkey⟩ := hk y (Array.mem_toList_iff.mp hy)
      simp [DictEntry.refKey, hkey]
    have a' : ¬ es.toList.any (·.refKey) = true := by rw [a]; exact Bool.false_ne_true
    rw [if_neg a']
    exact congrArg some e
theorem ObjM.look {h : Heap} {x dx C : Addr} {mA : Str → Option Value} (I : ObjM h x dx C mA) : ∃ od, PySem.W.InstAt h x (PySem.W.instObj C dx) C (some od) ∧ ∀ name, PySem.W.lookIn name od = some (mA name) :=
  let ⟨od, ho, hl⟩ := lookIn_ns I.ns
  ⟨od, ⟨I.obj, rfl, rfl, ho⟩, hl⟩
section
variable {prog : Program} {w : World} {A : Around} {E : Value → Shared → Prop} {s : Shared} {K : PySem.W.Frag} {x dx C f : Addr} {mA : Str → Option Value} {name : Str} {v : Value}
end
section
variable {P : Program} {w : World} {H H' : Hp} {h h' : Heap} {a C dx : Addr} {fs fs' : List (Str × V)}
theorem ins_get (hok : HOk P w H h) (e : H a = some (.ins C dx fs)) : ∃ mA, ObjM h a dx C mA ∧ (∀ f, RelO (fs.lookup f) (mA f)) ∧ PySem.Within mA (fs.map (·.1)) ∧ fs.length ≤ 1000 ∧ H dx = some (.own a) := by
  obtain ⟨d, z, ne, ob, mA, n, r, q⟩ := (show ObjOk P w H h a (.ins C dx fs) from hok a _ e)
  exact ⟨mA, ⟨ob, n, ne⟩, r, q, z, d⟩
end
structure Cls (K : PySem.W.Frag) (C : Addr) : Prop where
  pg : PySem.W.plainGet K C Str.empty = true
  hd : PySem.W.hasDictIn K C = true
  po : PySem.W.plainOver K C = true
  sa : PySem.W.findIn K (.ref C) "__setattr__" = some (some (.builtin "object.__setattr__"))
theorem Cls.get {K : PySem.W.Frag} {C : Addr} (c : Cls K C) (f : Str) : PySem.W.plainGet K C f = true := c.pg
section
variable {X : Cx} {pins : List (Addr × Obj)} {σ : St} {H : Hp} {s : Shared} {a C dx : Addr} {fs : List (Str × V)} {f : Str} {v : V} {A : Around} {E : Value → Shared → Prop}
end
section
variable {X : Cx} {o e value : Expr} {f : Str} {pos pos' tpos : Pos} {ta tv : TE}
end
section
variable {X : Cx} {pins : List (Addr × Obj)} {σ : St} {H : Hp} {s : Shared} {A : Around} {E : Value → Shared → Prop} {Q : Value → Shared → Prop} {c : Value} {b : Bool}
inductive TyOf (K : PySem.W.Frag) (H : Hp) : V → Value → Prop where
  | non : TyOf K H .non (.type "NoneType")
  | bl (x : Bool) : TyOf K H (.bl x) (.type "bool")
  | int (i : Int) : TyOf K H (.int i) (.type "int")
  | str (x : Str) : TyOf K H (.str x) (.type "str")
  | flt (x : UInt64) : TyOf K H (.flt x) (.type "float")
  | lst {a : Addr} {xs : List V} (e : H a = some (.lst xs)) : TyOf K H (.ref a) (.type "list")
  | frz {a : Addr} {o : Obj} {xs : List V} (e : H a = some (.frz o (.lst xs))) : TyOf K H (.ref a) (.type "list")
  | tup {a : Addr} {xs : List V} (e : H a = some (.tup xs)) : TyOf K H (.ref a) (.type "tuple")
  | dK {a : Addr} {kvs : List (Key × V)} (e : H a = some (.dK kvs)) : TyOf K H (.ref a) (.type "dict")
  | dT {a : Addr} {kvs : List (List Key × V)} (e : H a = some (.dT kvs)) : TyOf K H (.ref a) (.type "dict")
  | ins {a C dx : Addr} {fs : List (Str × V)} (e : H a = some (.ins C dx fs)) (cl : Cls K C) (ha : PySem.W.findIn K (.ref C) "__class__" = some (some (.builtin "object.__class__")))
      (hn : PySem.W.specialIn K (.builtin "object.__class__") "__get__" = some (some (.builtin "getset_descriptor.__get__"))) (htk : PySem.W.takesIn K (.builtin "object.__class__") = some true)
      (hm : PySem.W.mroIn K C (.type "object") = some true) : TyOf K H (.ref a) (.ref C)
theorem isinst_ok {x : V} {u t : Value} (I : Inv X pins σ H s) (rx : RelV x u) (ty : TyOf X.K H x t) (e : PySem.W.kitOne X.K t c = some b) (h : ∀ tk, Q (.bool b) { s with toks := tk }) :
    wpAny (model X.prog X.w) A (call (.builtin "isinstance") [u, c]) Q E s := by
  cases ty with
  | non => cases (show u = Value.none from rx); exact PySem.W.kia_one PySem.W.kitx_none I.kIn True.intro e (fun z => nomatch z) h
  | bl y => cases (show u = Value.bool y from rx); exact PySem.W.kia_one PySem.W.kitx_bool I.kIn True.intro e (fun z => nomatch z) h
  | int i => obtain ⟨t, q⟩ := (show ∃ t, u = Value.int i t from rx); cases q; exact PySem.W.kia_one PySem.W.kitx_int I.kIn True.intro e (fun z => nomatch z) h
  | str y => obtain ⟨t, q⟩ := (show ∃ t, u = Value.str y t from rx); cases q; exact PySem.W.kia_one PySem.W.kitx_str I.kIn True.intro e (fun z => nomatch z) h
  | flt y => obtain ⟨t, q⟩ := (show ∃ t, u = Value.float y t from rx); cases q; exact PySem.W.kia_one PySem.W.kitx_float I.kIn True.intro e (fun z => nomatch z) h
  | @lst a xs ea =>
    cases (show u = Value.ref a from rx)
    obtain ⟨_, _, n, _, h1⟩ := (show ObjOk X.prog X.w H s.heap a (.lst xs) from I.hok a _ ea)
    exact PySem.W.kia_one PySem.W.kitx_list I.kIn ⟨_, h1, rfl⟩ e (fun z => nomatch z) h
  | @frz a ob xs ea =>
    cases (show u = Value.ref a from rx)
    obtain ⟨_, _, _, n, _, h1⟩ := (show ObjOk X.prog X.w H s.heap a (.frz ob (.lst xs)) from I.hok a _ ea)
    exact PySem.W.kia_one PySem.W.kitx_list I.kIn ⟨_, h1, rfl⟩ e (fun z => nomatch z) h
  | @tup a xs ea =>
    cases (show u = Value.ref a from rx)
    obtain ⟨_, _, _, p⟩ := (show ObjOk X.prog X.w H s.heap a (.tup xs) from I.hok a _ ea)
    obtain ⟨o, h1, h2, _⟩ := p
    exact PySem.W.kia_one PySem.W.kitx_tuple I.kIn ⟨o, h1, h2⟩ e (fun z => nomatch z) h
  | @dK a kvs ea =>
    cases (show u = Value.ref a from rx)
    obtain ⟨_, _, vs, _, p⟩ := (show ObjOk X.prog X.w H s.heap a (.dK kvs) from I.hok a _ ea)
    obtain ⟨o, es, ep, h1, h2, _⟩ := p
    exact PySem.W.kia_one PySem.W.kitx_dict I.kIn ⟨o, h1, h2.1⟩ e (fun z => nomatch z) h
  | @dT a kvs ea =>
    cases (show u = Value.ref a from rx)
    obtain ⟨_, _, xs, _, o, es, ep, h1, h2, _⟩ := (show ObjOk X.prog X.w H s.heap a (.dT kvs) from I.hok a _ ea)
    exact PySem.W.kia_one PySem.W.kitx_dict I.kIn ⟨o, h1, h2.1⟩ e (fun z => nomatch z) h
  | @ins a C dx fs ea cl ha hn htk hm =>
    cases (show u = Value.ref a from rx)
    obtain ⟨mA, O, _⟩ := ins_get I.hok ea
    obtain ⟨od, J, _⟩ := O.look
    exact PySem.W.kia_one (PySem.W.kitx_own (cl.get _) cl.hd ha hn htk hm) I.kIn J e (fun z => nomatch z) h
end
end L2
namespace L2
open PySem PySem.Spec PyProof.Rows
structure Room (k : Nat) (A : Around) : Prop where
  hd : A.handled = none
  dp : A.depth + 3 * k + 5 < recursionLimit
  un : A.units + 16 * k + 200 < cLine
theorem Room.mono {j k : Nat} {A : Around} (r : Room k A) (h : j ≤ k) : Room j A := ⟨r.hd, by have := r.dp; omega, by have := r.un; omega⟩
theorem Room.deeper {k : Nat} {A : Around} (r : Room (k + 1) A) (env : Env) : Room k (A.deeper env) :=
  ⟨r.hd, by have := r.dp; show A.depth + 1 + 3 * k + 5 < _; omega, by have := r.un; show A.units + 3 + 16 * k + 200 < _; omega⟩
theorem Room.depth {k : Nat} {A : Around} (r : Room k A) : A.depth < recursionLimit := by have := r.dp; omega
theorem Room.units {k : Nat} {A : Around} (r : Room k A) : A.units + 64 < cLine := by have := r.un; omega
def tNil : TA := fun _ H Q => Q [] H
def tCons (ta : TE) (tr : TA) : TA := fun σ H Q => ta σ H fun x H1 => tr σ H1 fun xs H2 => Q (x :: xs) H2
section
variable {X : Cx} {e : Expr} {es : List Expr} {te : TE} {t : TA} {pos : Pos}
theorem pa_nil : PA X [] tNil := fun _ _ _ _ H Q I h => Calls.spliced_nil ⟨[], H, I, .nil, h⟩
theorem pa_cons (ha : PE X e te) (hr : PA X es t) (hs : starEach (e :: es) X.env = (false, eval e X.env) :: starEach es X.env := by rfl) : PA X (e :: es) (tCons te t) := by
  intro pos pins s σ H Q I h
  rw [hs]
  show wpAny _ _ (spliced ((false, eval e X.env) :: backTo pos (starEach es X.env))) _ _ s
  refine Calls.spliced_cons (thn (ha pins s σ H _ I h) fun u s1 ⟨x, H1, I1, r1, q1⟩ => ?_)
  exact thn (hr pos pins s1 σ H1 _ I1 q1) fun us s2 ⟨xs, H2, I2, r2, q2⟩ => ⟨x :: xs, H2, I2, .cons r1 r2, q2⟩
def tTup (t : TA) : TE := fun σ H Q => t σ H fun xs H1 => xs.length ≤ sizeLine ∧ ∀ p, H1 p = none → Q (.ref p) (upd H1 p (.tup xs))
def tLst (t : TA) : TE := fun σ H Q => t σ H fun xs H1 => xs.length ≤ sizeLine ∧ ∀ p, H1 p = none → Q (.ref p) (upd H1 p (.lst xs))
theorem pe_tup {x1} (h : PA X es t) : PE X (.Tuple es x1 pos) (tTup t) := by
  intro pins s σ H Q I hq
  refine wpAny_Tuple_spliced (thn (h pos pins s σ H _ I hq) fun us s1 ⟨xs, H1, I1, r, z, q⟩ => ⟨by rw [← r.length]; exact z, ?_⟩)
  have hf : H1 s1.heap.objs.size = none := I1.hok.fresh (Nat.le_refl _)
  refine ⟨.ref s1.heap.objs.size, upd H1 s1.heap.objs.size (.tup xs), I1.laid (t' := s1.toks) (fun b u e => Heap.get?_push_of_some _ e) (Nat.le_refl _) ?_, rfl, q _ hf⟩
  exact ⟨z, us, r, ⟨_, Heap.get?_push_size _ rfl, rfl, _, rfl⟩⟩
theorem pe_lst (h : PA X es t) : PE X (.List es pos) (tLst t) := by
  intro pins s σ H Q I hq
  refine wpAny_List_spliced (thn (h pos pins s σ H _ I hq) fun us s1 ⟨xs, H1, I1, r, z, q⟩ => ⟨by rw [← r.length]; exact z, ?_⟩)
  have hf : H1 s1.heap.objs.size = none := I1.hok.fresh (Nat.le_refl _)
  refine ⟨.ref s1.heap.objs.size, upd H1 s1.heap.objs.size (.lst xs), I1.laid (t' := s1.toks) (fun b u e => Heap.get?_push_of_some _ e) (Nat.le_refl _) ?_, rfl, q _ hf⟩
  exact ⟨z, us, 0, r, Heap.get?_push_size _ rfl⟩
end
abbrev Sp := List V → Hp → VK → XK → Prop
abbrev CXT := List Env → Hp → Shared → XK → Value → Shared → Prop
structure Env0 (P : Program) (w : World) (K : PySem.W.Frag) (mg : Str → Option Value) (base : Heap) (A : Around) (outer : List Env) (s : Shared) (H : Hp) : Prop where
  frames : A.frames = some outer
  mod : Mod K mg base
  bs : ∀ b o, base.get? b = some o → s.heap.get? b = some o ∧ H b = none
  bsz : base.objs.size ≤ s.heap.objs.size
  funs : s.heap.FunFrames base outer
  frf : ∀ b ∈ frs outer, H b = none
  hok : HOk P w H s.heap
  bare : AllBare s.gens
def CE (outer : List Env) (P : Program) (w : World) (H : Hp) (s : Shared) (Q : VK) (u : Value) (s' : Shared) : Prop :=
  ∃ v H', s'.os = s.os ∧ AllBare s'.gens ∧ Un (frs outer) [] H H' s.heap s'.heap ∧ HOk P w H' s'.heap ∧ RelV v u ∧ Q v H'
def CR (CX : CXT) (outer : List Env) (P : Program) (w : World) (H : Hp) (s : Shared) (Q : VK) (E : XK) (r : Result) (s' : Shared) : Prop :=
  match r with
  | .ok (.ret u) => CE outer P w H s Q u s'
  | .ok _ => False
  | .error e => CX outer H s E e s'
structure FnOk (P : Program) (w : World) (K : PySem.W.Frag) (mg : Str → Option Value) (base : Heap) (CX : CXT) (k : Nat) (f : Addr) (fd : FuncData) (ps : List Str) (sp : Sp) : Prop where
  len : ∀ vs H Q E, sp vs H Q E → vs.length = ps.length
  run : ∀ (A : Around) (outer : List Env) (s : Shared) (H : Hp) (args : Args) (us : List Value) (vs : List V) (Q : VK) (E : XK), Room k A → Env0 P w K mg base A outer s H → BindsTo s fd args (ps.zip us) → Vals vs us → sp vs H Q E →
    codeAny (model P w) A (.call (.ref f) args) (CR CX outer P w H s Q E) s
theorem FnOk.imp {P : Program} {w : World} {K : PySem.W.Frag} {mg : Str → Option Value} {base : Heap} {CX : CXT} {k : Nat} {f : Addr} {fd : FuncData} {ps : List Str} {sp sp' : Sp} (F : FnOk P w K mg base CX k f fd ps sp)
    (h : ∀ vs H Q E, sp' vs H Q E → sp vs H Q E) : FnOk P w K mg base CX k f fd ps sp' :=
  ⟨fun vs H Q E q => F.len vs H Q E (h _ _ _ _ q), fun A outer s H args us vs Q E hr he hb hv hs => F.run A outer s H args us vs Q E hr he hb hv (h _ _ _ _ hs)⟩
section
variable {X : Cx} {pins : List (Addr × Obj)} {σ : St} {H : Hp} {s s' : Shared}
theorem Inv.env0 (I : Inv X pins σ H s) : Env0 X.prog X.w X.K X.mg X.base X.A X.stack s H :=
  ⟨I.ok.frames, I.ok.mod, I.bs, Nat.le_trans I.ok.bsz I.sz, I.stack, I.stkFree, I.hok, I.bare⟩
theorem Inv.after {Q : VK} {u : Value} (I : Inv X pins σ H s) (h : CE X.stack X.prog X.w H s Q u s') : EP X pins σ Q u s' := by
  obtain ⟨v, H', os, bare, un, hok, r, q⟩ := h
  obtain ⟨hh, g, d, t, os'⟩ := s'
  obtain rfl : os' = s.os := os
  exact ⟨v, H', I.call (h' := hh) (g' := g) (d' := d) (t' := t) (ch := []) un hok bare (fun b z => absurd z (by simp)), r, q⟩
end
def tCall (sp : Sp) (dvs : List V) (E : XK) (t : TA) : TE := fun σ H Q => t σ H fun vs H1 => sp (vs ++ dvs) H1 Q E
def Binds (K : PySem.W.Frag) (fd : FuncData) (ps : List Str) (ds : List Value) : Prop :=
  ∀ (s : Shared) (us : List Value), K.In s.heap → (us ++ ds).length = ps.length → BindsTo s fd ⟨us, []⟩ (ps.zip (us ++ ds))
theorem Binds.all {K : PySem.W.Frag} {fd : FuncData} {ps : List Str} (h : ∀ us : List Value, us.length = ps.length → bindArgs fd ⟨us, []⟩ = pure (ps.zip us)) : Binds K fd ps [] := fun s us _ hl => by
  rw [List.append_nil] at hl ⊢
  exact .of_eq (h us hl)
def Passes (CX : CXT) (X : Cx) (E : XK) : Prop := ∀ (pins : List (Addr × Obj)) (σ : St) (H : Hp) (s : Shared) (e : Value) (s' : Shared), Inv X pins σ H s → CX X.stack H s E e s' → X.xe e s'
section
variable {X : Cx} {CX : CXT} {k : Nat} {f C : Addr} {fd : FuncData} {ps : List Str} {sp : Sp} {dvs : List V} {ds : List Value} {E : XK} {x m : Str} {p pos apos : Pos} {e o : Expr} {es : List Expr} {ta : TE} {t : TA}
theorem run_fn {pins : List (Addr × Obj)} {σ : St} {H : Hp} {s : Shared} {Q : VK} {us : List Value} {vs : List V} (F : FnOk X.prog X.w X.K X.mg X.base CX k f fd ps sp) (hr : Room k X.A) (hb : Binds X.K fd ps ds) (hd : Vals dvs ds) (hx : Passes CX X E)
    (I : Inv X pins σ H s) (r : Vals vs us) (h : sp (vs ++ dvs) H Q E) : wpAny (model X.prog X.w) X.A (call (.ref f) us) (EP X pins σ Q) X.xe s := by
  have r2 : Vals (vs ++ dvs) (us ++ ds) := r.append hd
  have hl : (us ++ ds).length = ps.length := by rw [← r2.length]; exact F.len _ _ _ _ h
  refine wpAny_call (codeAny_mono (F.run X.A X.stack s H ⟨us, []⟩ (us ++ ds) (vs ++ dvs) Q E hr I.env0 (hb s us I.kIn hl) r2 h) fun r s' hq => ?_)
  cases r with
  | error e => exact hx pins σ H s e s' I hq
  | ok fl =>
    cases fl with
    | ret u => exact I.after hq
    | next => exact False.elim hq
    | brk => exact False.elim hq
    | cont => exact False.elim hq
theorem pe_call (F : FnOk X.prog X.w X.K X.mg X.base CX k f fd ps sp) (hr : Room k X.A) (hg : Gl X x) (hm : X.mg x = some (.ref f)) (hk : PySem.W.keepIn X.K (.ref f) = true) (hb : Binds X.K fd ps ds) (hd : Vals dvs ds) (hx : Passes CX X E)
    (ha : PA X (e :: es) t) (hdb : (x == ("__debug__" : Str)) = false := by decide) (he : starEach (e :: es) X.env = (false, eval e X.env) :: starEach es X.env := by rfl) (hpl : (backTo pos (starEach es X.env)).any (·.1) = false := by rfl) :
    PE X (.Call (.Name x p) (e :: es) [] pos) (tCall sp dvs E t) := by
  intro pins s σ H Q I h
  refine wpAny_Call_Name_kw (ld_glob I hg hm ?_ hdb)
  refine PySem.W.callWith_K (h₀ := X.base) I.ok.mod.kin hk (thn (ha pos pins s σ H _ I h) fun us s1 ⟨vs, H1, I1, r, q⟩ => ⟨I1.kIn, ?_⟩) he hpl
  exact run_fn F hr hb hd hx I1 r q
end
section
variable {X : Cx} {CX : CXT} {k : Nat} {f C : Addr} {fd : FuncData} {ps ks : List Str} {sp : Sp} {E : XK} {x m : Str} {p pos apos kpos : Pos} {e o : Expr} {es : List Expr} {kws : List Keyword} {te ta : TE} {t tk : TA} {nm : Option Str}
variable {g : List Value → List Value → List Value} {gV : List V → List V → List V}
end
structure FnScope (N P : List Str) (sc : Scope) : Prop where
  kind : sc.kind = .function
  co : sc.isCoroutine = false
  gen : sc.isGenerator = false
  nd : N.Nodup
  pre : N.take P.length = P
  par : ∀ x ∈ P, sc.names.lookup x = some .local ∨ sc.names.lookup x = some .cell
  nofree : ∀ y ∈ sc.names, y.2 ≠ .free
theorem bindL_out {kindOf : Str → Option NameKind} {x : Str} : ∀ {binds : List (Str × Value)} {m : Str → Option Value}, (∀ v, (x, v) ∉ binds) → bindL kindOf binds m x = m x
  | [], _, _ => rfl
  | (n, v) :: r, m, h => by
    unfold bindL
    rw [bindL_out fun w hw => h w (List.mem_cons_of_mem _ hw)]
    split
    · have : x ≠ n := by rintro rfl; exact h v List.mem_cons_self
      simp [this]
    · rfl
theorem bindC_out {kindOf : Str → Option NameKind} {x : Str} : ∀ {binds : List (Str × Value)} {m : Str → Option Value}, (∀ v, (x, v) ∉ binds) → bindC kindOf binds m x = m x
  | [], _, _ => rfl
  | (n, v) :: r, m, h => by
    unfold bindC
    rw [bindC_out fun w hw => h w (List.mem_cons_of_mem _ hw)]
    split
    · rfl
    · have : x ≠ n := by rintro rfl; exact h v List.mem_cons_self
      simp [this]
theorem bindL_get {kindOf : Str → Option NameKind} {x : Str} {v : Value} : ∀ {P : List Str} {vs : List Value} {i : Nat} {m : Str → Option Value}, P.Nodup → P[i]? = some x → vs[i]? = some v → kindOf x = some .local →
    bindL kindOf (P.zip vs) m x = some v
  | [], _, _, _, _, h, _, _ => by simp at h
  | _ :: _, [], _, _, _, _, h, _ => by simp at h
  | p :: P, w :: vs, 0, m, nd, h1, h2, hk => by
    simp at h1 h2; subst h1; subst h2
    show bindL kindOf ((p, w) :: P.zip vs) m p = _
    unfold bindL
    rw [bindL_out fun v hv => (List.nodup_cons.mp nd).1 (List.of_mem_zip hv).1, if_pos hk]
    simp
  | p :: P, w :: vs, i + 1, m, nd, h1, h2, hk => by
    show bindL kindOf ((p, w) :: P.zip vs) m x = _
    unfold bindL
    exact bindL_get (i := i) (List.nodup_cons.mp nd).2 (by simpa using h1) (by simpa using h2) hk
theorem bindC_get {kindOf : Str → Option NameKind} {x : Str} {v : Value} : ∀ {P : List Str} {vs : List Value} {i : Nat} {m : Str → Option Value}, P.Nodup → P[i]? = some x → vs[i]? = some v → kindOf x ≠ some .local →
    bindC kindOf (P.zip vs) m x = some v
  | [], _, _, _, _, h, _, _ => by simp at h
  | _ :: _, [], _, _, _, _, h, _ => by simp at h
  | p :: P, w :: vs, 0, m, nd, h1, h2, hk => by
    simp at h1 h2; subst h1; subst h2
    show bindC kindOf ((p, w) :: P.zip vs) m p = _
    unfold bindC
    rw [bindC_out fun v hv => (List.nodup_cons.mp nd).1 (List.of_mem_zip hv).1, if_neg hk]
    simp
  | p :: P, w :: vs, i + 1, m, nd, h1, h2, hk => by
    show bindC kindOf ((p, w) :: P.zip vs) m x = _
    unfold bindC
    exact bindC_get (i := i) (List.nodup_cons.mp nd).2 (by simpa using h1) (by simpa using h2) hk
def start (N : List Str) (vs : List V) : St := vs.map some ++ List.replicate (N.length - vs.length) none
def cxOf (CX : CXT) (P : Program) (w : World) (K : PySem.W.Frag) (mg : Str → Option Value) (base : Heap) (N : List Str) (qual : Str) (scope : Scope) (f : Addr) (cd : Value) (A : Around) (outer : List Env) (s : Shared) (H : Hp) (E : XK) : Cx where
  prog := P
  w := w
  K := K
  mg := mg
  base := base
  A := A.deeper (envOfC qual scope s.heap.objs.size f cd)
  N := N
  s₀ := s
  H₀ := H
  env := envOfC qual scope s.heap.objs.size f cd
  outer := outer
  stack := envOfC qual scope s.heap.objs.size f cd :: outer
  ex := []
  calm := true
  fn := fun _ => true
  pn := []
  xe := fun e s' => wpAny (model P w) (A.deeper (envOfC qual scope s.heap.objs.size f cd)) (leaving (envOfC qual scope s.heap.objs.size f cd) e) (fun _ s'' => CX outer H s E e s'') (fun e' s'' => CX outer H s E e' s'') s'
theorem cell_has {sc : Scope} {n : Nat} {x : Str} (h : sc.names.lookup x = some .cell) : ∃ c, (cellsFrom n sc.names []).lookup x = some c := by
  have q := PySem.W.cellsFrom_some sc.names n [] (.inl h)
  exact Option.isSome_iff_exists.mp q
theorem inv_start {CX : CXT} {P : Program} {w : World} {K : PySem.W.Frag} {mg : Str → Option Value} {base : Heap} {N ps : List Str} {qual : Str} {scope : Scope} {f : Addr} {cd : Value} {A : Around} {outer : List Env} {s s1 : Shared} {H : Hp} {E : XK} {us : List Value} {vs : List V}
    (S : FnScope N ps scope) (hd : A.handled = none) (e0 : Env0 P w K mg base A outer s H) (hl : vs.length = ps.length) (r : Vals vs us)
    (x : InCallC s s.heap.objs.size (bindL (envOfC qual scope s.heap.objs.size f cd).kindOf (ps.zip us) fun _ => none) (cellsFrom (s.heap.objs.size + 1) scope.names []) (bindC (envOfC qual scope s.heap.objs.size f cd).kindOf (ps.zip us) fun _ => none) s1) :
    Inv (cxOf CX P w K mg base N qual scope f cd A outer s H E) [] (start N vs) H s1 := by
  have hpl : ps.length ≤ N.length := by have := congrArg List.length S.pre; rw [List.length_take] at this; omega
  obtain ⟨h1, tk, rfl, hk⟩ := x.done
  have noA : ∀ b : Addr, b ∉ (cxOf CX P w K mg base N qual scope f cd A outer s H E).ex := fun b z => absurd (show b ∈ ([] : List Addr) from z) (by simp)
  refine ⟨⟨e0.mod, S.kind, rfl, rfl, Nat.le_refl _, fun y z c h1 h2 => ?_, fun y hy => ?_, fun y c _ h => ?_, fun _ => hd, Around.frames_deeper e0.frames, .inr ⟨rfl, rfl⟩, fun b z => absurd z (noA b), e0.bs, e0.bsz, fun b _ _ => noA b, fun b z => absurd z (noA b), e0.funs, e0.frf⟩,
    rfl, e0.bare, Un.kept hk, ⟨_, x.toInCall.ns, fun i y v h1 h2 h3 => ?_⟩, fun y c h => ⟨_, x.cell y c h⟩, e0.hok.fresh (Nat.le_refl _), fun y c h => ?_, fun p hp => absurd (show p ∈ ([] : List (Addr × Obj)) from hp) (by simp), e0.hok.kept hk, ?_⟩
  · exact name_of_addr x.apart (PySem.mem_of_lookup h1) (PySem.mem_of_lookup h2)
  · have hy : scope.names.lookup y = some .cell ∨ scope.names.lookup y = some .free := hy
    rcases hy with hy | hy
    · exact cell_has hy
    · exact absurd rfl (S.nofree _ (PySem.mem_of_lookup hy))
  · exact Nat.le_of_lt (x.above y c (PySem.mem_of_lookup h))
  · have hi : i < vs.length := by
      unfold start at h2
      by_cases hi : i < vs.length
      · exact hi
      · rw [List.getElem?_append_right (by simpa using hi)] at h2
        rw [List.getElem?_replicate] at h2
        split at h2 <;> cases h2
    have ha : vs[i]? = some v := by
      unfold start at h2
      rw [List.getElem?_append_left (by simpa using hi), List.getElem?_map] at h2
      cases e : vs[i]? with
      | none => rw [e] at h2; cases h2
      | some a => rw [e] at h2; cases h2; rfl
    obtain ⟨u, hu, rv⟩ := r.get ha
    have hp : ps[i]? = some y := by
      rw [← S.pre, List.getElem?_take_of_lt (by omega)]; exact h1
    have ndP : ps.Nodup := by rw [← S.pre]; exact S.nd.sublist (List.take_sublist _ _)
    refine ⟨u, rv, ?_⟩
    rcases S.par y (List.mem_of_getElem? hp) with k | k
    · exact .inl ⟨k, bindL_get ndP hp hu k⟩
    · obtain ⟨c, e⟩ := cell_has (n := s.heap.objs.size + 1) k
      refine .inr ⟨.inl k, c, e, ?_⟩
      have q := x.cell y c e
      rw [bindC_get ndP hp hu (by show scope.names.lookup y ≠ _; rw [k]; decide)] at q
      exact q
  · exact e0.hok.fresh (Nat.le_of_lt (x.above y c (PySem.mem_of_lookup h)))
  · unfold start
    show _ = N.length
    rw [List.length_append, List.length_map, List.length_replicate]
    omega
theorem fn_of {CX : CXT} {P : Program} {w : World} {K : PySem.W.Frag} {mg : Str → Option Value} {base : Heap} {k : Nat} {f : Addr} {name qual : Str} {params : Arguments} {body : List Stmt} {scope : Scope} {dV kV doc pm cdv ct oc : Value} {an od : Option Addr}
    {osl : Array (Option Value)} {N ps : List Str} {sp : Sp} (lk : K.lookup f = some ⟨oc, od, .func (PySem.W.fnOf name qual params body scope dV kV doc pm an cdv ct), osl⟩) (hcd : PySem.W.codeIn K cdv qual = true) (S : FnScope N ps scope)
    (len : ∀ vs H Q E, sp vs H Q E → vs.length = ps.length)
    (hbody : ∀ (A : Around) (outer : List Env) (s : Shared) (H : Hp) (vs : List V) (Q : VK) (E : XK), Room k (A.deeper (envOfC qual scope s.heap.objs.size f cdv)) → sp vs H Q E →
      ∃ t, PSs (cxOf CX P w K mg base N qual scope f cdv A outer s H E) body t ∧ t { nx := fun _ H' => Q .non H', rt := Q } (start N vs) H) :
    FnOk P w K mg base CX (k + 1) f (PySem.W.fnOf name qual params body scope dV kV doc pm an cdv ct) ps sp := by
  refine ⟨len, fun A outer s H args us vs Q E hr e0 hb r hsp => ?_⟩
  have hl := len _ _ _ _ hsp
  have KX : K.In s.heap := e0.mod.kin.keeps fun b o e => (e0.bs b o e).1
  have lim : s.heap.NoLimit := e0.mod.nolimit.keeps fun b o e => (e0.bs b o e).1
  have hkind : ∀ y ∈ ps.zip us, scope.names.lookup y.1 = some .local ∨ (scope.names.lookup y.1 = some .cell ∧ ((cellsFrom (s.heap.objs.size + 1) scope.names []).lookup y.1).isSome = true) := fun ⟨n, v⟩ hy => by
    rcases S.par n (List.of_mem_zip hy).1 with q | q
    · exact .inl q
    · exact .inr ⟨q, PySem.W.cellsFrom_some _ _ _ (.inl q)⟩
  refine codeAny_call_function hr.depth (KX _ _ lk) rfl S.co S.gen rfl (PySem.W.codeRec_of KX hcd) (hb _ _ _ _ ?_)
  refine wpAny_newFunctionEnv_cells S.kind hkind fun env he s1 x => ?_
  subst he
  refine ⟨lim.keeps x.toInCall.keep, codeAny_func ?_⟩
  obtain ⟨t, ht, hq⟩ := hbody A outer s H vs Q E (hr.deeper _) hsp
  have I : Inv (cxOf CX P w K mg base N qual scope f cdv A outer s H E) [] (start N vs) H s1 := inv_start S hr.hd e0 hl r x
  refine wpAny_mono (ht [] s1 (start N vs) H _ I hq) (fun fl s' hs => ?_) fun e s' hs => hs
  have fin : ∀ {σ' : St} {H' : Hp} {v : V} {u : Value}, Inv (cxOf CX P w K mg base N qual scope f cdv A outer s H E) [] σ' H' s' → RelV v u → Q v H' → CE outer P w H s Q u s' :=
    fun {σ' H' v u} J rv q => ⟨v, H', J.os, J.bare, J.base, J.hok, rv, q⟩
  cases fl with
  | ret u =>
    obtain ⟨v, σ', H', J, rv, q⟩ := hs
    exact fin J rv q
  | next =>
    obtain ⟨σ', H', J, q⟩ := hs
    exact fin (v := V.non) (u := Value.none) J rfl q
  | brk =>
    obtain ⟨_, _, _, q⟩ := hs
    exact False.elim q
  | cont =>
    obtain ⟨_, _, _, q⟩ := hs
    exact False.elim q
end L2
namespace L2
open PySem PySem.Spec PyProof.Rows
section
variable {X : Cx} {x : Str} {p pos : Pos} {e : Expr} {es : List Expr} {t : TA} {id T : String} {r : List V → Hp → VK → Prop}
def tCB (r : List V → Hp → VK → Prop) (t : TA) : TE := fun σ H Q => t σ H fun vs H1 => r vs H1 Q
theorem pe_callB (hc : CallR X (.builtin id) r) (hg : Gl X x) (hm : X.mg x = none) (hv : bootBuiltins x = some (.builtin id)) (ha : PA X (e :: es) t) (hn : x ≠ "__name__" := by decide) (hdb : (x == ("__debug__" : Str)) = false := by decide)
    (he : starEach (e :: es) X.env = (false, eval e X.env) :: starEach es X.env := by rfl) (hpl : (backTo pos (starEach es X.env)).any (·.1) = false := by rfl) : PE X (.Call (.Name x p) (e :: es) [] pos) (tCB r t) := by
  intro pins s σ H Q I h
  refine wpAny_Call_Name_kw (ld_blt I hg hm hv ?_ hn hdb)
  exact PyProof.Rows.callWith_builtin1 (thn (ha pos pins s σ H _ I h) fun us s1 ⟨vs, H1, I1, r1, q1⟩ => hc pins s1 σ H1 vs us Q I1 r1 q1) he hpl
theorem pe_callTy (hc : CallR X (.type T) r) (hg : Gl X x) (hm : X.mg x = none) (hv : bootBuiltins x = some (.type T)) (ha : PA X (e :: es) t) (hn : x ≠ "__name__" := by decide) (hdb : (x == ("__debug__" : Str)) = false := by decide)
    (he : starEach (e :: es) X.env = (false, eval e X.env) :: starEach es X.env := by rfl) (hpl : (backTo pos (starEach es X.env)).any (·.1) = false := by rfl) : PE X (.Call (.Name x p) (e :: es) [] pos) (tCB r t) := by
  intro pins s σ H Q I h
  refine wpAny_Call_Name_kw (ld_blt I hg hm hv ?_ hn hdb)
  exact PyProof.Rows.callWith_type1 (thn (ha pos pins s σ H _ I h) fun us s1 ⟨vs, H1, I1, r1, q1⟩ => hc pins s1 σ H1 vs us Q I1 r1 q1) he hpl
end
end L2
namespace HT
open PySem PyProof.Rows
section
open PySem.SeqAt
open PySem.AutoSeq1 (wpAny_loadPart')
open PySem.MeetsSeq PySem.MeetsSeq2 PySem.MeetsSeq3
end
section
variable {prog : Program} {w : World} {A : Around} {E : Value → Shared → Prop} {s : Shared}
def sIx (n d : Nat) : Option Int → Nat
  | none => d
  | some v => if v < 0 then (v + (n : Int)).toNat else min v.toNat n
theorem sIx_none (n d : Nat) : sIx n d none = d := rfl
theorem sIx_nat (n d k : Nat) : sIx n d (some (k : Int)) = min k n := by
  show (if (k : Int) < 0 then ((k : Int) + (n : Int)).toNat else min (k : Int).toNat n) = min k n
  rw [if_neg (by omega), Int.toNat_natCast]
end
end HT
namespace L2
open PySem PySem.Spec PyProof.Rows
abbrev TO := St → Hp → (Option Int → Hp → Prop) → Prop
def PO (X : Cx) (e : Option Expr) (t : TO) : Prop :=
  ∀ (pins : List (Addr × Obj)) (s : Shared) (σ : St) (H : Hp) (Q : Option Int → Hp → Prop), Inv X pins σ H s → t σ H Q →
    wpAny (model X.prog X.w) X.A (evalPart e X.env) (fun u s' => ∃ o H', Inv X pins σ H' s' ∧ IsPart u o ∧ Q o H') X.xe s
def tNoPart : TO := fun _ H Q => Q none H
def tPart (t : TE) : TO := fun σ H Q => t σ H fun x H1 => ∃ i, x = .int i ∧ Q (some i) H1
theorem intsAre_of {ns : List Int} : ∀ {us : List Value}, Vals (ns.map V.int) us → IntsAre us ns := by
  induction ns with
  | nil => intro us r; rw [List.map_nil] at r; cases r; exact .nil
  | cons n ns ih =>
    intro us r
    rw [List.map_cons] at r
    cases r with
    | cons r1 r2 =>
      obtain ⟨t, e⟩ := r1
      subst e
      exact .cons n t (ih r2)
section
variable {X : Cx} {e : Expr} {te : TE} {lo hi : Option Expr} {tl th : TO} {pos p2 : Pos}
theorem po_none : PO X none tNoPart := by
  intro pins s σ H Q I h
  rw [evalPart_none]
  exact wpAny_pure ⟨none, H, I, .none, h⟩
theorem po_some (h : PE X e te) : PO X (some e) (tPart te) := by
  intro pins s σ H Q I hw
  rw [evalPart_some]
  refine thn (h pins s σ H _ I hw) fun u s1 ⟨x, H1, I1, r1, q1⟩ => ?_
  obtain ⟨i, rfl, q⟩ := q1
  obtain ⟨t, rfl⟩ := r1
  exact ⟨some i, H1, I1, .int i t, q⟩
def SlR (X : Cx) (r : V → Option Int → Option Int → Hp → VK → Prop) : Prop :=
  ∀ (pins : List (Addr × Obj)) (s : Shared) (σ : St) (H : Hp) (x : V) (v vl vu : Value) (lo hi : Option Int) (sl : Addr) (Q : VK), Inv X pins σ H s → RelV x v → s.heap.IsSliceOf sl vl vu .none → IsPart vl lo → IsPart vu hi → r x lo hi H Q →
    ∃ T id, typeLookup (.type T) "__getitem__" = pure (some (.builtin id)) ∧ s.TypeIs v T ∧ wpAny (model X.prog X.w) X.A (getItem v (.ref sl)) (EP X pins σ Q) X.xe s
def tSl (r : V → Option Int → Option Int → Hp → VK → Prop) (te : TE) (tl th : TO) : TE := fun σ H Q => te σ H fun x H1 => tl σ H1 fun l H2 => th σ H2 fun u H3 => r x l u H3 Q
theorem pe_slice {r : V → Option Int → Option Int → Hp → VK → Prop} (hr : SlR X r) (he : PE X e te) (hl : PO X lo tl) (hu : PO X hi th) : PE X (.Subscript e (.Slice lo hi none p2) pos) (tSl r te tl th) := by
  intro pins s σ H Q I h
  refine Subscript_ (thn (he pins s σ H _ I h) fun v s1 ⟨x, H1, I1, r1, q1⟩ => ?_)
  refine wpAny_Slice (thn (hl pins s1 σ H1 _ I1 q1) fun vl s2 ⟨l, H2, I2, pl, q2⟩ => thn (hu pins s2 σ H2 _ I2 q2) fun vu s3 ⟨u, H3, I3, pu, q3⟩ => ?_)
  rw [evalPart_none]
  refine wpAny_pure ?_
  have I4 : Inv X pins σ H3 { s3 with heap := s3.heap.push { cls := .type "slice", data := .fields #[vl, vu, .none] } } := I3.kept (t' := s3.toks) fun b ob q => Heap.get?_push_of_some _ q
  obtain ⟨T, id, hT, ht, hg⟩ := hr pins { s3 with heap := s3.heap.push { cls := .type "slice", data := .fields #[vl, vu, .none] } } σ H3 x v vl vu l u s3.heap.objs.size Q I4 r1 (Heap.IsSliceOf.new ..) pl pu q3
  show wpAny (model X.prog X.w) X.A (subscriptTail e (.Slice lo hi none p2) v (.ref s3.heap.objs.size)) (EP X pins σ Q) X.xe { s3 with heap := s3.heap.push { cls := .type "slice", data := .fields #[vl, vu, .none] } }
  exact tail_any (ops := [.ref s3.heap.objs.size, v]) ht hT hg (by with_unfolding_all rfl)
def cutV (xs : List V) (lo hi : Option Int) : List V := (xs.drop (HT.sIx xs.length 0 lo)).take (HT.sIx xs.length xs.length hi - HT.sIx xs.length 0 lo)
theorem cutV_length (xs : List V) (lo hi : Option Int) : (cutV xs lo hi).length ≤ xs.length := by
  unfold cutV
  rw [List.length_take, List.length_drop]
  omega
end
end L2
namespace L2
open PySem PySem.Spec PyProof.Rows
def ixN (n : Nat) (i : Int) : Option Nat := if 0 ≤ i then (if i < n then some i.toNat else none) else if -(n : Int) ≤ i then some (i + n).toNat else none
def atI {α : Type} (xs : List α) (i : Int) : Option α := (ixN xs.length i).bind fun j => xs[j]?
theorem ixN_seq {n : Nat} {i : Int} {j : Nat} (h : ixN n i = some j) : seqIndex? i n = some j ∧ j < n ∧ -(n : Int) ≤ i ∧ i < n := by
  unfold ixN at h
  by_cases h0 : 0 ≤ i
  · rw [if_pos h0] at h
    by_cases h1 : i < n
    · rw [if_pos h1] at h
      have e : i.toNat = j := Option.some.inj h
      exact ⟨by rw [seqIndex_of h0 h1, e], by omega, by omega, h1⟩
    · rw [if_neg h1] at h; cases h
  · rw [if_neg h0] at h
    by_cases h1 : -(n : Int) ≤ i
    · rw [if_pos h1] at h
      have e : (i + n).toNat = j := Option.some.inj h
      exact ⟨by rw [seqIndex_neg (by omega) h1, e], by omega, h1, by omega⟩
    · rw [if_neg h1] at h; cases h
theorem atI_get {α : Type} {xs : List α} {i : Int} {v : α} (h : atI xs i = some v) : ∃ j, seqIndex? i xs.length = some j ∧ xs[j]? = some v ∧ j < xs.length ∧ -(xs.length : Int) ≤ i ∧ i < xs.length := by
  unfold atI at h
  cases e : ixN xs.length i with
  | none => rw [e] at h; cases h
  | some j =>
    rw [e] at h
    obtain ⟨h1, h2, h3, h4⟩ := ixN_seq e
    exact ⟨j, h1, h, h2, h3, h4⟩
theorem atI_nat {α : Type} {xs : List α} {j : Nat} {v : α} (h : xs[j]? = some v) : atI xs (j : Int) = some v := by
  have hj : j < xs.length := (List.getElem?_eq_some_iff.mp h).1
  have e : ixN xs.length (j : Int) = some j := by
    unfold ixN
    rw [if_pos (by omega), if_pos (by omega)]; simp
  unfold atI; rw [e]; exact h
def PlainIx (b : Expr) : Prop := ∀ o i, subscripted b false o i = operate [o, i] (getItem o i)
def IxR (X : Cx) (r : R2) : Prop :=
  ∀ (value slice : Expr) (pins : List (Addr × Obj)) (s : Shared) (σ : St) (H : Hp) (x y : V) (v u : Value) (Q : VK), Inv X pins σ H s → RelV x v → RelV y u → r x y H Q →
    subscripted slice false v u = operate [v, u] (getItem v u) → wpAny (model X.prog X.w) X.A (subscriptTail value slice v u) (EP X pins σ Q) X.xe s
def MtR (X : Cx) (id : String) (r : V → List V → Hp → VK → Prop) : Prop :=
  ∀ (pins : List (Addr × Obj)) (s : Shared) (σ : St) (H : Hp) (x : V) (xs : List V) (v : Value) (us : List Value) (Q : VK), Inv X pins σ H s → RelV x v → Vals xs us → r x xs H Q →
    wpAny (model X.prog X.w) X.A (call (.builtin id) (v :: us)) (EP X pins σ Q) X.xe s
section
variable {X : Cx} {a b : Expr} {ta tb : TE} {pos : Pos}
theorem pe_ix {r : R2} (hr : IxR X r) (ha : PE X a ta) (hb : PE X b tb) (hs : PlainIx b) : PE X (.Subscript a b pos) (tOp r ta tb) := by
  intro pins s σ H Q I h
  exact Subscript_ (binT ha hb I h fun v u s2 x y H2 I2 rx ry q => hr a b pins s2 σ H2 x y v u Q I2 rx ry q (hs _ _))
def rIxL (K : PySem.W.Frag) : R2 := fun x y H Q => ∃ p xs i v, x = .ref p ∧ y = .int i ∧ SqL K H p xs ∧ atI xs i = some v ∧ Q v H
def rIxT (K : PySem.W.Frag) : R2 := fun x y H Q => ∃ p xs i v, x = .ref p ∧ y = .int i ∧ SqT K H p xs ∧ atI xs i = some v ∧ Q v H
theorem ix_list : IxR X (rIxL X.K) := by
  intro value slice pins s σ H x y v u Q I rx ry h hs
  obtain ⟨p, xs, i, z, rfl, rfl, hq, he, q⟩ := h
  cases rx
  obtain ⟨t, rfl⟩ := ry
  obtain ⟨its, r, pl, hz⟩ := I.list hq
  obtain ⟨j, h1, h2, h3, h4, h5⟩ := atI_get he
  obtain ⟨w, ew, rw'⟩ := r.get h2
  have hl := r.length
  have hn := line63
  have fin : EP X pins σ Q w s := ⟨z, H, I, rw', q⟩
  by_cases h0 : 0 ≤ i
  · have hj : i.toNat = j := by
      rw [seqIndex_of h0 h5] at h1
      exact Option.some.inj h1
    exact item_listR pl.isList h0 (by omega) (by rw [hj]; simpa using ew) fin hs
  · have hj : (i + (its.toArray.size : Int)).toNat = j := by
      rw [seqIndex_neg (by omega) h4] at h1
      rw [List.size_toArray, ← hl]
      exact Option.some.inj h1
    exact subscriptTail_builtinR (x := w) pl.isList.typeIs slot_list_getitem.lookup
      (wpAny_getItem_list_neg (Q := fun r s' => r = w ∧ EP X pins σ Q r s') pl.isList (by omega) (by rw [List.size_toArray] <;> omega) (by omega) (by rw [hj]; simpa using ew) ⟨rfl, fin⟩) hs
theorem ix_tup : IxR X (rIxT X.K) := by
  intro value slice pins s σ H x y v u Q I rx ry h hs
  obtain ⟨p, xs, i, z, rfl, rfl, hq, he, q⟩ := h
  cases rx
  obtain ⟨t, rfl⟩ := ry
  obtain ⟨its, r, pl, hz⟩ := I.tuple hq
  obtain ⟨j, h1, h2, h3, h4, h5⟩ := atI_get he
  obtain ⟨w, ew, rw'⟩ := r.get h2
  have hl := r.length
  have hn := line63
  have fin : EP X pins σ Q w s := ⟨z, H, I, rw', q⟩
  exact subscriptTail_builtinR (x := w) pl.typeIs slot_tuple_getitem.lookup
    (getItem_tuple (j := j) (Q := fun r s' => r = w ∧ EP X pins σ Q r s') pl (by omega) (by omega) (by rw [List.size_toArray, ← hl]; exact h1) (by simpa using ew) ⟨rfl, fin⟩) hs
theorem mapSeq_set (its : List Value) (n j : Nat) (u : Value) : Obj.mapSeq (·.setIfInBounds j u) { cls := .type "list", data := .seq its.toArray n } = { cls := .type "list", data := .seq (its.set j u).toArray n } := by
  simp [Obj.mapSeq]
theorem Inv.lst {pins : List (Addr × Obj)} {σ : St} {H : Hp} {s : Shared} {p : Addr} {xs : List V} (I : Inv X pins σ H s) (h : H p = some (.lst xs)) :
    ∃ (its : List Value) (n : Nat), Vals xs its ∧ s.heap.get? p = some { cls := .type "list", data := .seq its.toArray n } ∧ xs.length ≤ sizeLine := by
  obtain ⟨z, its, n, r, e⟩ := I.hok p _ h
  exact ⟨its, n, r, e, z⟩
theorem Inv.lstUpd {pins : List (Addr × Obj)} {σ : St} {H : Hp} {s : Shared} {p : Addr} {xs ys : List V} {its its' : List Value} {n n' : Nat} {f : Obj → Obj} (I : Inv X pins σ H s) (h : H p = some (.lst xs))
    (ho : s.heap.get? p = some { cls := .type "list", data := .seq its.toArray n }) (hf : f { cls := .type "list", data := .seq its.toArray n } = { cls := .type "list", data := .seq its'.toArray n' }) (r : Vals ys its') (hz : ys.length ≤ sizeLine) (t : Nat) :
    Inv X pins σ (upd H p (.lst ys)) { s with heap := s.heap.update p f, toks := t } := by
  have e : (s.heap.update p f).get? p = some { cls := .type "list", data := .seq its'.toArray n' } := by
    rw [Heap.get?_update_self f ho (by rw [hf] <;> rfl), hf]
  refine I.write (x := p) (e := p) (by rw [h]; trivial) (.inl rfl) (fun b u hb q => (Heap.get?_update_other _ _ (Ne.symm hb)).trans q) ⟨_, e⟩ ?_
  exact ⟨hz, its', n', r, e⟩
def rSetL : V → V → V → Hp → (Hp → Prop) → Prop := fun o i v H Q => ∃ p xs k j, o = .ref p ∧ i = .int k ∧ H p = some (.lst xs) ∧ ixN xs.length k = some j ∧ Q (upd H p (.lst (xs.set j v)))
theorem set_list : PSet X rSetL := by
  intro pins s σ H o i v ov iv u Q I ro ri rv h
  obtain ⟨p, xs, k, j, rfl, rfl, hp, hj, q⟩ := h
  cases ro
  obtain ⟨t, rfl⟩ := ri
  obtain ⟨its, n, r, ho, hz⟩ := I.lst hp
  obtain ⟨h1, h2, h3, h4⟩ := ixN_seq hj
  have hl := r.length
  have hn := line63
  have I' : Inv X pins σ (upd H p (.lst (xs.set j v))) { s with heap := s.heap.update p (Obj.mapSeq (·.setIfInBounds j u)) } :=
    I.lstUpd hp ho (mapSeq_set its n j u) (r.set rv j) (by rw [List.length_set]; exact hz) s.toks
  by_cases h0 : 0 ≤ k
  · have hk : k.toNat = j := by
      rw [seqIndex_of h0 h4] at h1
      exact Option.some.inj h1
    exact PySem.W.ki_setAt ho h0 (by omega) (by rw [List.size_toArray, ← hl]; exact h4) (by rw [hk]; exact ⟨_, I', q⟩)
  · have hk : (k + (its.toArray.size : Int)).toNat = j := by
      rw [seqIndex_neg (by omega) h3] at h1
      rw [List.size_toArray, ← hl]
      exact Option.some.inj h1
    exact PySem.W.ki_setBack ho (by omega) (by rw [List.size_toArray, ← hl]; exact h3) (by omega) (by rw [hk]; exact ⟨_, I', q⟩)
theorem slice_bounds (lo hi : Option Int) (n : Nat) : (sliceBounds lo hi none n).1 = ((HT.sIx n 0 lo : Nat) : Int) ∧ (sliceBounds lo hi none n).2.1 = ((HT.sIx n n hi : Nat) : Int) ∧ (sliceBounds lo hi none n).2.2 = 1 := by
  refine ⟨?_, ?_, rfl⟩
  · cases lo with
    | none => simp [sliceBounds, HT.sIx]
    | some i =>
      simp only [sliceBounds, HT.sIx, Option.getD_none, show (1 : Int) > 0 by decide, if_true]
      by_cases h : i < 0
      · simp only [h, if_true] <;> omega
      · simp only [h, if_false] <;> omega
  · cases hi with
    | none => simp [sliceBounds, HT.sIx]
    | some i =>
      simp only [sliceBounds, HT.sIx, Option.getD_none, show (1 : Int) > 0 by decide, if_true]
      by_cases h : i < 0
      · simp only [h, if_true] <;> omega
      · simp only [h, if_false] <;> omega
theorem slicePick_cut (its : List Value) (lo hi : Option Int) : slicePick its.toArray lo hi none = ((its.drop (HT.sIx its.length 0 lo)).take (HT.sIx its.length its.length hi - HT.sIx its.length 0 lo)).toArray := by
  obtain ⟨h1, h2, h3⟩ := slice_bounds lo hi its.toArray.size
  unfold slicePick
  rw [h1, h2, h3]
  simp only [sliceRange_one, pick_run, List.size_toArray] <;> rfl
def rSlL (K : PySem.W.Frag) : V → Option Int → Option Int → Hp → VK → Prop := fun x lo hi H Q => ∃ a xs, x = .ref a ∧ SqL K H a xs ∧ ∀ p, H p = none → Q (.ref p) (upd H p (.lst (cutV xs lo hi)))
theorem sl_list : SlR X (rSlL X.K) := by
  intro pins s σ H x v vl vu lo hi sl Q I rx hs pl pu h
  obtain ⟨a, xs, rfl, hx, q⟩ := h
  cases rx
  obtain ⟨its, r, ht, hz⟩ := I.list hx
  have hlen := r.length
  refine ⟨"list", _, slot_list_getitem.lookup, ht.isList.typeIs, ?_⟩
  refine wpAny_getItem_list_slice ht.isList hs pl pu .none (by simp) ?_ (by rw [List.size_toArray] <;> omega)
  rw [slicePick_cut, ← hlen]
  refine ⟨.ref s.heap.objs.size, _, I.laid (t' := s.toks) (o := .lst (cutV xs lo hi)) (fun b ob q => Heap.get?_push_of_some _ q) (Nat.le_refl _) ?_, rfl, q _ (I.hok.fresh (Nat.le_refl _))⟩
  exact ⟨Nat.le_trans (cutV_length xs lo hi) hz, _, 0, (r.drop (HT.sIx xs.length 0 lo)).take (HT.sIx xs.length xs.length hi - HT.sIx xs.length 0 lo), Heap.get?_push_size _ rfl⟩
def flatV : V → Bool
  | .non => true
  | .bl _ => true
  | .int _ => true
  | .str _ => true
  | _ => false
def eqV : V → V → Bool
  | .non, .non => true
  | .bl a, .bl b => a == b
  | .bl a, .int b => (if a then 1 else 0) == b
  | .int a, .bl b => a == (if b then 1 else 0)
  | .int a, .int b => a == b
  | .str a, .str b => a == b
  | _, _ => false
theorem eqAt_V {A : Around} {s : Shared} {y x : V} {u v : Value} (ry : RelV y u) (rx : RelV x v) (fy : flatV y = true) (fx : flatV x = true) : SeqAt.EqAt A s u v (eqV y x) := by
  cases y with
  | non =>
    cases ry
    cases x with
    | non => cases rx; exact SeqAt.EqAt.same _
    | bl b => cases rx; exact SeqAt.EqAt.none_bool b
    | int b => obtain ⟨t, rfl⟩ := rx; exact SeqAt.EqAt.none_int b t
    | str b => obtain ⟨t, rfl⟩ := rx; exact SeqAt.EqAt.none_str b t
    | _ => exact absurd (show false = true from fx) Bool.false_ne_true
  | bl a =>
    cases ry
    cases x with
    | non => cases rx; exact SeqAt.EqAt.bool_none a
    | bl b => cases rx; exact SeqAt.EqAt.bool_bool a b
    | int b => obtain ⟨t, rfl⟩ := rx; exact SeqAt.EqAt.bool_int a b t
    | str b => obtain ⟨t, rfl⟩ := rx; exact SeqAt.EqAt.bool_str a b t
    | _ => exact absurd (show false = true from fx) Bool.false_ne_true
  | int a =>
    obtain ⟨t', rfl⟩ := ry
    cases x with
    | non => cases rx; exact SeqAt.EqAt.int_none a t'
    | bl b => cases rx; exact SeqAt.EqAt.int_bool a t' b
    | int b => obtain ⟨t, rfl⟩ := rx; exact SeqAt.EqAt.int_int a t' b t
    | str b => obtain ⟨t, rfl⟩ := rx; exact SeqAt.EqAt.int_str a t' b t
    | _ => exact absurd (show false = true from fx) Bool.false_ne_true
  | str a =>
    obtain ⟨t', rfl⟩ := ry
    cases x with
    | non => cases rx; exact SeqAt.EqAt.str_none a t'
    | bl b => cases rx; exact SeqAt.EqAt.str_bool a t' b
    | int b => obtain ⟨t, rfl⟩ := rx; exact SeqAt.EqAt.str_int a t' b t
    | str b => obtain ⟨t, rfl⟩ := rx; exact SeqAt.EqAt.str_str a t' b t
    | _ => exact absurd (show false = true from fx) Bool.false_ne_true
  | _ => exact absurd (show false = true from fy) Bool.false_ne_true
def eqU (x : V) (u : Value) : Bool := match u with
  | .none => eqV .non x
  | .bool b => eqV (.bl b) x
  | .int i _ => eqV (.int i) x
  | .str z _ => eqV (.str z) x
  | _ => false
theorem eqU_of {x y : V} {u : Value} (r : RelV y u) (f : flatV y = true) : eqU x u = eqV y x := by
  cases y with
  | non => cases r; rfl
  | bl b => cases r; rfl
  | int i => obtain ⟨t, rfl⟩ := r; rfl
  | str z => obtain ⟨t, rfl⟩ := r; rfl
  | _ => exact absurd (show false = true from f) Bool.false_ne_true
theorem any_eqU {x : V} : ∀ {xs : List V} {us : List Value}, Vals xs us → xs.all flatV = true → us.any (eqU x) = xs.any fun y => eqV y x
  | _, _, .nil, _ => rfl
  | y :: xs, u :: us, .cons r t, f => by
    rw [List.all_cons, Bool.and_eq_true] at f
    rw [List.any_cons, List.any_cons, eqU_of r f.1, any_eqU t f.2]
theorem mem_eqAt {A : Around} {s : Shared} {x : V} {v : Value} (rx : RelV x v) (fx : flatV x = true) : ∀ {xs : List V} {us : List Value}, Vals xs us → xs.all flatV = true → ∀ u ∈ us, SeqAt.EqAt A s u v (eqU x u)
  | _, _, .nil, _ => fun u hu => by cases hu
  | y :: xs, u :: us, .cons r t, f => fun u' hu => by
    rw [List.all_cons, Bool.and_eq_true] at f
    rcases List.mem_cons.mp hu with rfl | hu
    · rw [eqU_of r f.1]; exact eqAt_V r rx f.1 fx
    · exact mem_eqAt rx fx t f.2 u' hu
def inV (x : V) (xs : List V) : Bool := xs.any fun y => eqV y x
def rIn (K : PySem.W.Frag) (neg : Bool) : R2 := fun x y H Q => ∃ p xs, y = .ref p ∧ (SqL K H p xs ∨ SqT K H p xs) ∧ flatV x = true ∧ xs.all flatV = true ∧ Q (.bl (if neg then !inV x xs else inV x xs)) H
theorem op_in_seq : OpR X (compareOp .In) (rIn X.K false) := by
  intro pins s σ H x y v u Q I rx ry h
  obtain ⟨p, xs, rfl, hq, fx, fs, q⟩ := h
  cases ry
  rcases hq with hq | hq
  · obtain ⟨its, r, pl, hz⟩ := I.list hq
    refine SeqAt.in_listAt (eqU x) pl.isList (fun w hw => mem_eqAt rx fx r fs w (by simpa using hw)) ⟨.bl _, H, I, rfl, ?_⟩
    rw [show its.toArray.any (eqU x) = its.any (eqU x) by simp, any_eqU r fs]
    exact q
  · obtain ⟨its, r, pl, hz⟩ := I.tuple hq
    refine SeqAt.in_tupleAt (eqU x) pl (fun w hw => mem_eqAt rx fx r fs w (by simpa using hw)) ⟨.bl _, H, I, rfl, ?_⟩
    rw [show its.toArray.any (eqU x) = its.any (eqU x) by simp, any_eqU r fs]
    exact q
theorem op_notIn_seq : OpR X (compareOp .NotIn) (rIn X.K true) := by
  intro pins s σ H x y v u Q I rx ry h
  obtain ⟨p, xs, rfl, hq, fx, fs, q⟩ := h
  cases ry
  rcases hq with hq | hq
  · obtain ⟨its, r, pl, hz⟩ := I.list hq
    refine SeqAt.notIn_listAt (eqU x) pl.isList (fun w hw => mem_eqAt rx fx r fs w (by simpa using hw)) ⟨.bl _, H, I, rfl, ?_⟩
    rw [show its.toArray.any (eqU x) = its.any (eqU x) by simp, any_eqU r fs]
    exact q
  · obtain ⟨its, r, pl, hz⟩ := I.tuple hq
    refine SeqAt.notIn_tupleAt (eqU x) pl (fun w hw => mem_eqAt rx fx r fs w (by simpa using hw)) ⟨.bl _, H, I, rfl, ?_⟩
    rw [show its.toArray.any (eqU x) = its.any (eqU x) by simp, any_eqU r fs]
    exact q
theorem call_len_seq : CallR X (.builtin "len") (fun xs H Q => ∃ p ys, xs = [.ref p] ∧ (SqL X.K H p ys ∨ SqT X.K H p ys) ∧ Q (.int ys.length) H) := by
  intro pins s σ H xs us Q I r h
  obtain ⟨p, ys, rfl, hq, q⟩ := h
  obtain ⟨u, rfl, rx⟩ := vals1 r
  cases rx
  have hn := line63
  rcases hq with hq | hq
  · obtain ⟨its, r', pl, hz⟩ := I.list hq
    have hlen := r'.length
    exact Calls.call_len_list pl.isList (by simp only [List.size_toArray] <;> omega) ⟨.int ys.length, H, I.tok _, ⟨s.toks + 1, by rw [List.size_toArray, hlen]⟩, q⟩
  · obtain ⟨its, r', pl, hz⟩ := I.tuple hq
    have hlen := r'.length
    exact len_tuple pl (by simp only [List.size_toArray] <;> omega) ⟨.int ys.length, H, I.tok _, ⟨s.toks + 1, by rw [List.size_toArray, hlen]⟩, q⟩
theorem call_list_of : CallR X (.type "list") (fun xs H Q => ∃ p ys, xs = [.ref p] ∧ (SqL X.K H p ys ∨ SqT X.K H p ys) ∧ ∀ l, H l = none → Q (.ref l) (upd H l (.lst ys))) := by
  intro pins s σ H xs us Q I r h
  obtain ⟨p, ys, rfl, hq, q⟩ := h
  obtain ⟨u, rfl, rx⟩ := vals1 r
  cases rx
  have fin : ∀ (its : List Value), Vals ys its → ys.length ≤ sizeLine → ∀ (h' : Heap) (c' : Nat), (∀ b o', s.heap.get? b = some o' → h'.get? b = some o') →
      h'.get? s.heap.objs.size = some { cls := .type "list", dict := none, data := .seq its.toArray c', slots := #[] } → EP X pins σ Q (.ref s.heap.objs.size) { s with heap := h' } := fun its r' hz h' c' kp e =>
    ⟨.ref s.heap.objs.size, _, I.laid (t' := s.toks) kp (Nat.le_refl _) (show ObjOk X.prog X.w _ h' _ (.lst ys) from ⟨hz, its, c', r', e⟩), rfl, q _ (I.hok.fresh (Nat.le_refl _))⟩
  rcases hq with hq | hq
  · obtain ⟨its, r', pl, hz⟩ := I.list hq
    have hlen := r'.length
    obtain ⟨o, ho, hc, n, hd⟩ := pl.isList
    exact call_list_seq p (.inl rfl) ho hc hd (fun h' c' kp e => fin its r' hz h' c' kp e) (by simp only [List.size_toArray] <;> omega)
  · obtain ⟨its, r', pl, hz⟩ := I.tuple hq
    have hlen := r'.length
    obtain ⟨o, ho, hc, n, hd⟩ := pl
    exact call_list_seq p (.inr rfl) ho hc hd (fun h' c' kp e => fin its r' hz h' c' kp e) (by simp only [List.size_toArray] <;> omega)
def tyV (K : PySem.W.Frag) (T : String) (x : V) (H : Hp) : Prop := match x with
  | .str _ => T = "str"
  | .int _ => T = "int"
  | .ref p => (T = "list" ∧ ∃ xs, SqL K H p xs) ∨ (T = "tuple" ∧ ∃ o, K.lookup p = some o ∧ o.cls = .type "tuple" ∧ o.dict = none) ∨
      (T = "dict" ∧ ((∃ kvs, H p = some (.dK kvs)) ∨ ∃ kvs, H p = some (.dT kvs))) ∨ (T = "set" ∧ ∃ S n, H p = some (.set S n))
  | _ => False
theorem tyV_is {pins : List (Addr × Obj)} {σ : St} {H : Hp} {s : Shared} {T : String} {x : V} {v : Value} (I : Inv X pins σ H s) (r : RelV x v) (ty : tyV X.K T x H) :
    s.TypeIs v T ∧ ∀ a, v = .ref a → ∃ ob, s.heap.get? a = some ob ∧ ob.dict = none := by
  cases x with
  | str z =>
    obtain ⟨t, rfl⟩ := r
    cases (show T = "str" from ty)
    exact ⟨typeIs_str s z t, fun _ e => nomatch e⟩
  | int i =>
    obtain ⟨t, rfl⟩ := r
    cases (show T = "int" from ty)
    exact ⟨typeIs_int s i t, fun _ e => nomatch e⟩
  | ref p =>
    cases r
    rcases ty with ⟨rfl, xs, hq⟩ | ⟨rfl, o, hk, hc, hd⟩ | ⟨rfl, hk⟩ | ⟨rfl, S, n, hk⟩
    · obtain ⟨its, _, pl, _⟩ := I.list hq
      refine ⟨pl.isList.typeIs, fun a e => ?_⟩
      cases e
      obtain ⟨o, n, e, c, hd, _⟩ := pl
      exact ⟨o, e, hd⟩
    · refine ⟨⟨o, I.kIn p o hk, hc⟩, fun a e => ?_⟩
      cases e
      exact ⟨o, I.kIn _ o hk, hd⟩
    · have z : ∃ o, s.heap.get? p = some o ∧ o.ExactDict := by
        rcases hk with ⟨kvs, hk⟩ | ⟨kvs, hk⟩
        · obtain ⟨_, _, _, _, o, _, _, e, ex, _⟩ := I.hok p _ hk
          exact ⟨o, e, ex⟩
        · obtain ⟨_, _, _, _, o, _, _, e, ex, _⟩ := I.hok p _ hk
          exact ⟨o, e, ex⟩
      obtain ⟨o, e, ex⟩ := z
      refine ⟨⟨o, e, ex.1⟩, fun a e2 => ?_⟩
      cases e2
      exact ⟨o, e, ex.2.1⟩
    · obtain ⟨o, _, _, _, e, ex, _⟩ := I.hok p _ hk
      refine ⟨⟨o, e, ex.1⟩, fun a e2 => ?_⟩
      cases e2
      exact ⟨o, e, ex.2.1⟩
  | _ => exact False.elim ty
def tBM (K : PySem.W.Frag) (T : String) (r : V → List V → Hp → VK → Prop) (to : TE) (t : TA) : TE := fun σ H Q => to σ H fun x H1 => tyV K T x H1 ∧ t σ H1 fun xs H2 => r x xs H2 Q
variable {o e : Expr} {es : List Expr} {to : TE} {t : TA} {name : Str} {apos cpos : Pos} {T id : String} {r : V → List V → Hp → VK → Prop}
theorem pe_bm (pa : PlainAttrs T) (slot : Slot T name id) (hty : typeOf (.builtin id) = pure (.type "method_descriptor")) (hm : MtR X id r) (ho : PE X o to) (ha : PA X (e :: es) t)
    (hbase : attributeBase o name X.env (eval o X.env) = eval o X.env := by rfl)
    (hfew : ((backTo cpos (starEach (e :: es) X.env)).all (fun x => !x.1) && (backToKw cpos (keywordEach [] X.env)).all (fun x => x.1.isSome)
      && decide ((e :: es).length + ([] : List Keyword).length + (if ([] : List Keyword).isEmpty then 0 else 1) < 30)) = true := by rfl)
    (hline : (apos.endLine == cpos.line) = true := by rfl) (hs : starEach (e :: es) X.env = (false, eval e X.env) :: starEach es X.env := by rfl) (hplain : (backTo cpos (starEach es X.env)).any (·.1) = false := by rfl) :
    PE X (.Call (.Attribute o name apos) (e :: es) [] cpos) (tBM X.K T r to t) := by
  intro pins s σ H Q I h
  refine wpAny_Call_method_late hbase hfew hline rfl (thn (ho pins s σ H _ I h) fun v s1 ⟨x, H1, I1, r1, ty, q1⟩ => ?_)
  obtain ⟨h1, h2⟩ := tyV_is I1 r1 ty
  refine ⟨T, id, pa, slot, hty, h1, h2, ?_⟩
  have hA := ha cpos pins s1 σ H1 _ I1 q1
  rw [hs] at hA ⊢
  refine Calls.callWith_builtin (by show (false || (backTo cpos (starEach es X.env)).any (·.1)) = false; rw [hplain] <;> rfl) (Calls.evalArgs_plain ?_)
  exact thn hA fun us s2 ⟨vs, H2, I2, r2, q2⟩ => hm pins s2 σ H2 x vs v us Q I2 r1 r2 q2
end
end L2
namespace L2
open PySem PySem.Spec PyProof.Rows
def MtM (X : Cx) (id : String) (r : V → List V → Hp → VK → Prop) : Prop :=
  ∀ (pins : List (Addr × Obj)) (s : Shared) (σ : St) (H : Hp) (x : V) (xs : List V) (v : Value) (us : List Value) (Q : VK), Inv X pins σ H s → RelV x v → Vals xs us → r x xs H Q →
    wpAny (model X.prog X.w) X.A (call (.builtin id) (v :: us)) (EP X pins σ Q) X.xe s
theorem Vals.one : ∀ {x : V} {us : List Value}, Vals [x] us → ∃ u, us = [u] ∧ RelV x u
  | _, _, .cons r .nil => ⟨_, rfl, r⟩
section
variable {X : Cx} {pins : List (Addr × Obj)} {σ : St} {H : Hp} {s : Shared} {l b : Addr} {xs ys zs : List V}
theorem Inv.lset {its its' : List Value} {n : Nat} {f : Array Value → Array Value} {t' : Nat} (I : Inv X pins σ H s) (hH : H l = some (.lst xs))
    (e : s.heap.get? l = some { cls := .type "list", data := .seq its.toArray n }) (hf : f its.toArray = its'.toArray) (hv : Vals ys its') (hz : ys.length ≤ sizeLine) :
    Inv X pins σ (upd H l (.lst ys)) { s with heap := s.heap.update l (Obj.mapSeq f), toks := t' } := by
  have q := PySem.IsL.update e f
  rw [hf] at q
  refine I.write (x := l) (e := l) (by rw [hH]; exact trivial) (.inl rfl) (fun b' u hb hu => (Heap.get?_update_other s.heap (Obj.mapSeq f) (Ne.symm hb)).trans hu) ⟨_, q⟩ ?_
  exact ⟨hz, its', _, hv, q⟩
theorem Inv.lnew {its : List Value} {t' : Nat} (I : Inv X pins σ H s) (hv : Vals ys its) (hz : ys.length ≤ sizeLine) :
    Inv X pins σ (upd H s.heap.objs.size (.lst ys)) { s with heap := s.heap.push { cls := .type "list", data := .seq its.toArray }, toks := t' } :=
  I.laid (fun _ _ q => Heap.get?_push_of_some _ q) (Nat.le_refl _) ⟨hz, its, 0, hv, Heap.get?_push_size _ rfl⟩
theorem Inv.fresh (I : Inv X pins σ H s) : H s.heap.objs.size = none := I.hok.fresh (Nat.le_refl _)
theorem Inv.lstM (I : Inv X pins σ H s) (hH : H l = some (.lst xs)) : xs.length ≤ sizeLine ∧ ∃ (its : List Value) (n : Nat), Vals xs its ∧ xs.length = its.length ∧ s.heap.get? l = some { cls := .type "list", data := .seq its.toArray n } := by
  obtain ⟨z, its, n, r, e⟩ := I.hok l _ hH
  exact ⟨z, its, n, r, r.length, e⟩
end
section
variable {X : Cx}
def rAppend : V → List V → Hp → VK → Prop := fun x vs H Q => ∃ l xs y, x = .ref l ∧ vs = [y] ∧ H l = some (.lst xs) ∧ xs.length < sizeLine ∧ Q .non (upd H l (.lst (xs ++ [y])))
theorem mt_append : MtM X "list.append" rAppend := by
  intro pins s σ H x vs v us Q I rx rv h
  obtain ⟨l, xs, y, rfl, rfl, hH, hz, q⟩ := h
  cases rx
  obtain ⟨u, rfl, ru⟩ := rv.one
  obtain ⟨z, its, n, r, hl, e⟩ := I.lstM hH
  refine call_meets F.slot_list_append ⟨_, e, rfl⟩ F.entry_list_append (F.args_list_append_2 _ _) (PySem.list_append l its.toArray n u (by rw [List.size_toArray]; omega)) ⟨e, ?_⟩
  refine ⟨.non, _, I.lset (its' := its ++ [u]) hH e (by simp) (r.append (.cons ru .nil)) ?_, rfl, q⟩
  rw [List.length_append, List.length_singleton]
  omega
end
section
variable {prog : Program} {w : World} {A : Around} {E : Value → Shared → Prop} {s : Shared}
end
section
variable {X : Cx}
end
end L2
namespace Att
open PySem PySem.W PySem.Calls PyProof.Rows
theorem ints_of_wellAll {P : Params} {h : Heap} : ∀ (ns : List Int) (vs : List Value), WellAll P h vs (ns.map WData.int) → IntsAre vs ns := by
  intro ns
  induction ns with
  | nil =>
    intro vs w
    rw [List.map_nil] at w
    cases w
    exact .nil
  | cons n ns ih =>
    intro vs w
    rw [List.map_cons] at w
    cases w with
    | cons a b =>
      cases a
      exact .cons _ _ (ih _ b)
theorem script_of {l : OpenLaw} {n : Nat} (hn : l.most = some n) {P : Params} {h : Heap} {args : List WData} {vals : List Value}
    (hpre : l.row.toRowW.claim.pre args = true) (hwl : WellAll P h vals args) :
    ∃ a vs ns, vals = [Value.ref a] ∧ args = [WData.list (ns.map WData.int)] ∧ h.get? a = some { cls := .type "list", data := .seq vs.toArray } ∧ IntsAre vs ns ∧ ns.length ≤ n := by
  have hsh : WShape.hasAll [] args [.list .int] = true := (pre_splitW hpre).1
  have hc : l.pre.holds [] { args := args } = true := (pre_splitW hpre).2
  obtain ⟨d, r, rfl, h1, h2⟩ := hasAllW_cons hsh
  obtain rfl := hasAllW_nil h2
  obtain ⟨xs, rfl, h3⟩ := hasW_list h1
  obtain ⟨ns, rfl⟩ := items_int h3
  have hlen : ns.length ≤ n := by
    unfold OpenLaw.pre at hc
    have h4 : (WTm.not (.lt (.lit (.int (n : Int))) (.len (.arg 0)))).holds [] { args := [.list (ns.map .int)] } = true := by
      have h4 := (holds_andW hc).1
      rw [hn] at h4
      exact h4
    have h5 := condW_of h4 (w_not (w_lt w_lit (w_len_list (w_arg rfl))))
    rw [List.length_map] at h5
    refine Nat.le_of_not_lt fun q => ?_
    have q' : (n : Int) < ((ns.length : Nat) : Int) := by omega
    first
      | (rw [decide_eq_true q'] at h5; exact absurd h5 (by decide))
      | (simp at h5; omega)
  cases hwl with
  | cons w1 w2 =>
    cases w2
    cases w1 with
    | list ho hall => exact ⟨_, _, ns, rfl, rfl, ho, ints_of_wellAll ns _ hall, hlen⟩
theorem post_true (l : OpenLaw) (args : List WData) : l.row.toRowW.claim.post args (.bool true) args = true :=
  postW_of (r := l.row.toRowW) (X := (true == true))
    (show WShape.has [] (.bool true) .bool = true by first | rfl | decide | simp [WShape.has, WShape.arms, WShape.armsAll])
    (show (WTm.eq .res (.lit (.bool true))).value [] { args := args, res := some (.bool true), after := args } = some (.bool (true == true)) from w_eq_bool (w_res rfl) w_lit) rfl
theorem attach_call {l : OpenLaw} {n : Nat} {q : Program} {loose : List Str} {XP : (Str → Option Value) → Heap → Prop} {YP : World → Heap → Prop} {d : DefRec}
    (hn : l.most = some n) (hdf : d.params.defaults = [])
    (call : ∀ (w : World) (s₀ s₁ : Shared) (mg mb : Str → Option Value) (fa : Addr) (o : Obj) (pm cd doc : Value) (a : Addr) (vs : List Value) (ns : List Int),
      Ground q loose [] XP w s₀ mg mb s₁.heap → YP w s₁.heap →
      s₁.heap.get? fa = some o → o.data = .func (docDef d.name d.params d.body d.scope pm cd doc) → s₁.heap.CodeRec cd d.name → mg d.name = some (.ref fa) →
      s₁.heap.get? a = some { cls := .type "list", data := .seq vs.toArray } → IntsAre vs ns → ns.length ≤ n → s₁.gens = #[] →
      codeAny (model l.prog w) callerA (.call (.ref fa) ⟨[.ref a], []⟩) (fun r s' => r = .ok (.ret (.bool true)) ∧ OldK s₁.heap s'.heap ∧ s'.os = s₁.os ∧ AllBare s'.gens) s₁) :
    WalkO q loose XP YP l.row.toRowW d [] (fun f vs => PySem.call f vs) := by
  intro w s₀ s₁ mg mb G Y fa o pm cd doc dV kV ho hd hcd hD hmg hg args vals as hpre hlay hrd hwl hlo
  obtain rfl : dV = .none := Dflts.none hD hdf
  obtain rfl : kV = .none := Dflts.noKw hD
  obtain ⟨a, vs, ns, rfl, rfl, hobj, hints, hlen⟩ := script_of hn hpre hwl
  refine enter_call (codeAny_mono (call w s₀ s₁ mg mb fa o pm cd doc a vs ns G Y ho (fd_plain hd) hcd hmg hobj hints hlen hg) fun r s' hq => ?_)
  obtain ⟨rfl, h2, h3, h4⟩ := hq
  exact ⟨.inl ⟨.bool true, .bool true, [], rfl, fun _ => rfl, .bool true, post_true l _, fun _ => ⟨List.Pairwise.nil, fun _ hm => (nomatch hm)⟩⟩, h2, h3, h4⟩
section
variable {prog : Program} {w : World} {A : Around} {E : Value → Shared → Prop} {s : Shared} {K : Frag}
end
end Att
namespace L2
open PySem PySem.Spec PyProof.Rows
theorem vals_ints : ∀ {vs : List Value} {ns : List Int}, IntsAre vs ns → Vals (ns.map V.int) vs
  | _, _, .nil => .nil
  | _, _, .cons n t h => .cons ⟨t, rfl⟩ (vals_ints h)
def Only (H : Hp) : Prop := ∀ b, H b = none ∨ ∃ o xs, H b = some (.frz o (.lst xs))
theorem law_call {P : Program} {w : World} {K : PySem.W.Frag} {mg mb : Str → Option Value} {CX : CXT} {k : Nat} {fa a : Addr} {fd : FuncData} {x : Str} {sp : Sp} {s₁ : Shared} {vs : List Value} {ns : List Int}
    (KX : K.In s₁.heap) (hns : s₁.heap.Ns mainGlobals mg) (hb : s₁.heap.Ns builtinsNs mb) (hbb : ∀ x : Str, x ≠ "__name__" → mb x = bootBuiltins x) (hlim : s₁.heap.NoLimit) (hg : s₁.gens = #[])
    (ha : s₁.heap.get? a = some { cls := .type "list", data := .seq vs.toArray }) (hi : IntsAre vs ns) (hl : ns.length ≤ sizeLine) (hr : Room k callerA)
    (F : ∀ base : Heap, K.In base → base.Ns mainGlobals mg → FnOk P w K mg base CX k fa fd [x] sp) (hbind : ∀ (s : Shared) (u : Value), BindsTo s fd ⟨[u], []⟩ [(x, u)])
    (hsp : ∀ H : Hp, Only H → SqL K H a (ns.map V.int) → sp [.ref a] H (fun v _ => v = .bl true) fun _ _ _ => False)
    (hCX : ∀ H e s', CX [] H s₁ (fun _ _ _ => False) e s' → False) :
    codeAny (model P w) callerA (.call (.ref fa) ⟨[.ref a], []⟩) (fun r s' => r = .ok (.ret (.bool true)) ∧ OldK s₁.heap s'.heap ∧ s'.os = s₁.os ∧ AllBare s'.gens) s₁ := by
  have rv := vals_ints hi
  have lenV := hi.length
  have core : ∀ H : Hp, Only H → SqL K H a (ns.map V.int) → HOk P w H s₁.heap → (∀ b, H b ≠ none → b = a) → (H a ≠ none → K.lookup a = none) →
      codeAny (model P w) callerA (.call (.ref fa) ⟨[.ref a], []⟩) (fun r s' => r = .ok (.ret (.bool true)) ∧ OldK s₁.heap s'.heap ∧ s'.os = s₁.os ∧ AllBare s'.gens) s₁ := by
    intro H hO hS hok hA hK
    have base_of : ∀ {b : Addr} {o : Obj}, s₁.heap.get? b = some o → H b = none → (hidT s₁.heap H).get? b = some o := fun e n => hidT_get e n
    have noA : ∀ {b : Addr} {o : Obj} {es : Array DictEntry} {ep : Nat}, s₁.heap.get? b = some o → o.data = .dict es ep → H b = none := fun {b o es ep} e d => by
      cases q : H b with
      | none => rfl
      | some u =>
        have e' : b = a := hA b (by rw [q]; simp)
        subst e'
        rw [ha] at e; cases e
        have d' : Data.seq vs.toArray _ = Data.dict es ep := d
        cases d'
    have nsK : ∀ {b : Addr} {m : Str → Option Value}, s₁.heap.Ns b m → (hidT s₁.heap H).Ns b m := fun {b m} ⟨o, es, ep, e, d, r⟩ => ⟨o, es, ep, base_of e (noA e d), d, r⟩
    have hKb : K.In (hidT s₁.heap H) := fun b o e => base_of (KX b o e) (by
      cases q : H b with
      | none => rfl
      | some u =>
        have e' : b = a := hA b (by rw [q]; simp)
        subst e'
        rw [hK (by rw [q]; simp)] at e; cases e)
    have hM : Mod K mg (hidT s₁.heap H) := ⟨hKb, nsK hns, ⟨mb, nsK hb, hbb⟩, let ⟨mc, h1, h2⟩ := hlim; ⟨mc, nsK h1, h2⟩⟩
    have e0 : Env0 P w K mg (hidT s₁.heap H) callerA [] s₁ H := ⟨rfl, hM, fun b o e => of_hidT e, Nat.le_of_eq (hidT_size _ _), trivial, fun b hb => absurd (show b ∈ ([] : List Addr) from hb) (by simp), hok, .of_eq hg⟩
    refine codeAny_mono ((F _ hKb (nsK hns)).run callerA [] s₁ H ⟨[.ref a], []⟩ [.ref a] [.ref a] _ _ hr e0 (hbind s₁ (.ref a)) (.cons rfl .nil) (hsp H hO hS)) fun r s' h => ?_
    cases r with
    | error e => exact (hCX H e s' h).elim
    | ok fl =>
      cases fl with
      | next => exact False.elim h
      | brk => exact False.elim h
      | cont => exact False.elim h
      | ret u =>
        obtain ⟨v, H', os, bare, un, hok', r', q⟩ := h
        have q' : v = .bl true := q
        subst q'
        obtain rfl : u = Value.bool true := r'
        refine ⟨rfl, OldK.of_keep fun b o e => ?_, os, bare⟩
        cases q : H b with
        | none => exact un.keep b o e q (by intro z; exact absurd (show b ∈ ([] : List Addr) from z) (by simp)) (by simp)
        | some u =>
          rcases hO b with z | ⟨ob, xs, z⟩
          · rw [q] at z; cases z
          · have z2 := un.frzs b ob _ z
            obtain ⟨e1, _⟩ := hok b _ z
            obtain ⟨e2, _⟩ := hok' b _ z2
            rw [e] at e1; cases e1
            exact e2
  cases hk : K.lookup a with
  | some o =>
    have e := KX a o hk
    rw [ha] at e
    cases e
    refine core (fun _ => none) (fun _ => .inl rfl) (.inr ⟨_, vs.toArray, _, hk, rfl, rfl, rfl, by rw [List.size_toArray, lenV]; exact hl, by simpa using rv⟩) (fun b u z => by have z' : (none : Option HO) = some u := z; cases z') (fun b z => absurd rfl z) fun z => absurd rfl z
  | none =>
    refine core (fun b => if b = a then some (.frz { cls := .type "list", data := .seq vs.toArray } (.lst (ns.map V.int))) else none) (fun b => ?_) (.inl (.inr ⟨{ cls := .type "list", data := .seq vs.toArray }, if_pos rfl⟩)) (fun b u z => ?_) (fun b z => ?_) fun _ => hk
    · by_cases hb : b = a
      · exact .inr ⟨_, _, if_pos hb⟩
      · exact .inl (if_neg hb)
    · by_cases hb : b = a
      · have z' := (if_pos hb).symm.trans z
        cases z'
        subst hb
        exact ⟨ha, by rw [List.length_map]; exact hl, vs, _, rv, ha⟩
      · have z' := (if_neg hb).symm.trans z
        cases z'
    · by_cases hb : b = a
      · exact hb
      · exact absurd (if_neg hb) z
end L2
namespace L2
open PySem PySem.Spec PyProof.Rows
theorem walk_of {l : PySem.W.OpenLaw} {n k : Nat} {q : Program} {loose : List Str} {XP : (Str → Option Value) → Heap → Prop} {YP : World → Heap → Prop} {d : DefRec} {K : Params → PySem.W.Frag} {CX : World → CXT} {sp : World → Sp} {x : Str}
    (hn : l.most = some n) (hn2 : n ≤ sizeLine) (hdf : d.params.defaults = []) (hr : Room k callerA)
    (hY : ∀ (w : World) (h : Heap), YP w h → (K w.params).In h)
    (F : ∀ (w : World) (mg : Str → Option Value) (fa : Addr) (h : Heap), (K w.params).In h → h.Ns mainGlobals mg → mg d.name = some (.ref fa) →
      ∃ fd : FuncData, (∀ (s : Shared) (u : Value), BindsTo s fd ⟨[u], []⟩ [(x, u)]) ∧
        ∀ base : Heap, (K w.params).In base → base.Ns mainGlobals mg → FnOk l.prog w (K w.params) mg base (CX w) k fa fd [x] (sp w))
    (hsp : ∀ (w : World) (H : Hp) (a : Addr) (ns : List Int), ns.length ≤ n → Only H → SqL (K w.params) H a (ns.map V.int) → sp w [.ref a] H (fun v _ => v = .bl true) fun _ _ _ => False)
    (hCX : ∀ (w : World) (H : Hp) (s : Shared) (e : Value) (s' : Shared), CX w [] H s (fun _ _ _ => False) e s' → False) :
    PySem.W.WalkO q loose XP YP l.row.toRowW d [] (fun f vs => PySem.call f vs) := by
  refine Att.attach_call hn hdf fun w s₀ s₁ mg mb fa o pm cd doc a vs ns G Y ho hd hcd hmg hobj hints hlen hg => ?_
  have KX := hY w _ Y
  obtain ⟨fd, hb, hF⟩ := F w mg fa _ KX G.T.g hmg
  exact law_call KX G.T.g G.T.b G.T.builtins G.T.nolimit hg hobj hints (Nat.le_trans hlen hn2) hr hF hb (fun H hO hS => hsp w H a ns hlen hO hS) fun H e s' => hCX w H s₁ e s'
end L2
namespace L2
open PySem PySem.Spec PyProof.Rows
def defArgs (s : Stmt) : Arguments := match s with
  | .FunctionDef _ a _ _ _ _ _ _ _ _ => a
  | _ => { posonlyargs := [], args := [], vararg := none, kwonlyargs := [], kw_defaults := [], kwarg := none, defaults := [] }
def defBody (s : Stmt) : List Stmt := match s with
  | .FunctionDef _ _ b _ _ _ _ _ _ _ => b
  | _ => []
def defScope (s : Stmt) : Scope := match s with
  | .FunctionDef _ _ _ _ _ _ sc _ _ _ => sc
  | _ => { kind := .function, names := [], isGenerator := false, isCoroutine := false }
abbrev CX0 : CXT := fun _ _ _ _ _ _ => False
abbrev E0 : XK := fun _ _ _ => False
theorem pass0 {X : Cx} : Passes CX0 X E0 := fun _ _ _ _ _ _ _ h => h.elim
structure Fun (K : PySem.W.Frag) (x qual : Str) (st : Stmt) (f : Addr) (fd : FuncData) : Prop where
  ex : ∃ (oc : Value) (od : Option Addr) (kV doc pm : Value) (an : Option Addr) (cdv ct : Value) (osl : Array (Option Value)),
    fd = PySem.W.fnOf x qual (defArgs st) (defBody st) (defScope st) .none kV doc pm an cdv ct ∧ K.lookup f = some ⟨oc, od, .func fd, osl⟩ ∧ PySem.W.codeIn K cdv qual = true
  kp : PySem.W.keepIn K (.ref f) = true
section
variable {P : Program} {w : World} {K : PySem.W.Frag} {mg : Str → Option Value} {base : Heap}
theorem Fun.ok {x qual : Str} {st : Stmt} {f : Addr} {fd : FuncData} {N ps : List Str} {k : Nat} {sp : Sp} (F : Fun K x qual st f fd) (S : FnScope N ps (defScope st)) (len : ∀ vs H Q E, sp vs H Q E → vs.length = ps.length)
    (hbody : ∀ (cdv : Value) (A : Around) (outer : List Env) (s : Shared) (H : Hp) (vs : List V) (Q : VK) (E : XK), Room k (A.deeper (envOfC qual (defScope st) s.heap.objs.size f cdv)) → sp vs H Q E →
      ∃ t, PSs (cxOf CX0 P w K mg base N qual (defScope st) f cdv A outer s H E).nox (defBody st) t ∧ t { nx := fun _ H' => Q .non H', rt := Q } (start N vs) H) : FnOk P w K mg base CX0 (k + 1) f fd ps sp := by
  obtain ⟨oc, od, kV, doc, pm, an, cdv, ct, osl, rfl, lk, hcd⟩ := F.ex
  refine fn_of lk hcd S len fun A outer s H vs Q E hr hsp => ?_
  obtain ⟨t, h, q⟩ := hbody cdv A outer s H vs Q E hr hsp
  exact ⟨t, h.nox, q⟩
theorem Fun.binds {x qual : Str} {st : Stmt} {f : Addr} {fd : FuncData} {ps : List Str} (F : Fun K x qual st f fd)
    (h : ∀ (kV doc pm : Value) (an : Option Addr) (cdv ct : Value) (us : List Value), us.length = ps.length → bindArgs (PySem.W.fnOf x qual (defArgs st) (defBody st) (defScope st) .none kV doc pm an cdv ct) ⟨us, []⟩ = pure (ps.zip us)) : Binds K fd ps [] := by
  obtain ⟨oc, od, kV, doc, pm, an, cdv, ct, osl, rfl, lk, hcd⟩ := F.ex
  exact .all (h kV doc pm an cdv ct)
theorem fun_mk {x qual : Str} {st : Stmt} {f : Addr} {oc : Value} {od an : Option Addr} {osl : Array (Option Value)} {kV doc pm cdv ct : Value} (l : K.lookup f = some ⟨oc, od, .func (PySem.W.fnOf x qual (defArgs st) (defBody st) (defScope st) .none kV doc pm an cdv ct), osl⟩)
    (c : PySem.W.codeIn K cdv qual = true) (k : PySem.W.keepIn K (.ref f) = true) : Fun K x qual st f (PySem.W.fnOf x qual (defArgs st) (defBody st) (defScope st) .none kV doc pm an cdv ct) := ⟨⟨oc, od, kV, doc, pm, an, cdv, ct, osl, rfl, l, c⟩, k⟩
end
section
variable {X : Cx}
theorem pv (i : Nat) {x : Str} {pos : Pos} (hN : X.N[i]? = some x := by rfl) (hv : Vis X.env.scope x := by first | exact Or.inl rfl | exact Or.inr (Or.inl rfl) | exact Or.inr (Or.inr rfl)) (hd : (x == ("__debug__" : Str)) = false := by decide)
    (hcd : (x == ("__classdict__" : Str)) = false := by decide) : PE X (.Name x pos) (tVar i) := pe_var hN hv hd hcd
end
theorem iteF {A B : Prop} (h : B) : if false = true then A else B := by
  rw [if_neg Bool.false_ne_true]
  exact h
theorem iteT {A B : Prop} (h : A) : if true = true then A else B := by
  rw [if_pos rfl]
  exact h
def Same (H H' : Hp) : Prop := ∀ b o, H b = some o → H' b = some o
theorem Same.refl (H : Hp) : Same H H := fun _ _ h => h
theorem Same.trans {H H1 H2 : Hp} (a : Same H H1) (b : Same H1 H2) : Same H H2 := fun c o h => b c o (a c o h)
theorem Same.free {H H' : Hp} (e : Same H H') {l : Addr} (h : H' l = Option.none) : H l = Option.none := by
  cases q : H l with
  | none => rfl
  | some o =>
    rw [e l o q] at h
    cases h
theorem Same.seq {K : PySem.W.Frag} {H H' : Hp} {a : Addr} {xs : List V} (e : Same H H') (h : SqL K H a xs) : SqL K H' a xs := by
  rcases h with (h | ⟨o, h⟩) | h
  · exact .inl (.inl (e _ _ h))
  · exact .inl (.inr ⟨o, e _ _ h⟩)
  · exact .inr h
end L2
namespace L2
open PySem PySem.Spec PyProof.Rows
abbrev NoX : Value → Shared → Prop := fun _ _ => False
theorem noX {α : Type} {M : Model} {A : Around} {m : Sem α} {Q : α → Shared → Prop} {E : Value → Shared → Prop} {s : Shared} (h : wpAny M A m Q NoX s) : wpAny M A m Q E s :=
  wpAny_mono h (fun _ _ q => q) fun _ _ z => z.elim
abbrev lcTests (ifs : List Expr) (env : Env) : Sem Bool :=
  forIn ifs true fun c r => if r = true then do let ok ← isTrue c env (eval c env); pure (ForInStep.yield ok) else pure (ForInStep.yield r)
theorem lcLoop {P : Program} {w : World} {A : Around} {R : Result → Shared → Prop} {s : Shared} {elt tg iter : Expr} {ifs : List Expr} {sc : Scope} {pos : Pos} {it acc : Value} {env : Env} (I : Nat → Shared → Prop)
    (turn : ∀ n s, I n s → wpAny (model P w) A (pyNext it) (fun r s1 => match r with
      | none => R (.ok .next) s1
      | some v => wpAny (model P w) A (letOwnedTupleGo tg it v) (fun _ s2 => wpAny (model P w) A (assign tg env v) (fun _ s3 =>
          wpAny (model P w) A (lcTests ifs env) (fun ok s4 => if ok = true then wpAny (model P w) A (eval elt env) (fun x s5 =>
              wpAny (model P w) A (call (.builtin "list.append") [acc, x]) (fun _ s6 => ∃ m, m < n ∧ I m s6) NoX s5) NoX s4
            else ∃ m, m < n ∧ I m s4) NoX s3) NoX s2) NoX s1) NoX s)
    (n : Nat) (h : I n s) : codeAny (model P w) A (.compLoop (.ListComp elt [⟨tg, iter, ifs, 0⟩] sc pos) 0 it acc env) R s := by
  refine codeAny_loop rfl I (fun n s hI => ?_) n h
  show wpAny (model P w) A ((compTurn (.ListComp elt [⟨tg, iter, ifs, 0⟩] sc pos) 0 it acc env).onRaise (fun x => do noteFrame x env; theTreesLotGoes x)) _ _ s
  refine wpAny_noted (noX ?_)
  rw [compTurn_list]
  refine wpAny_bind (wpAny_standAt (wpAny_bind (thn (turn n s hI) fun r s1 h1 => ?_)))
  cases r with
  | none => exact wpAny_pure h1
  | some v =>
    refine wpAny_bind (thn h1 fun _ s2 h2 => wpAny_bind (thn h2 fun _ s3 h3 => wpAny_bind (thn h3 fun ok s4 h4 => ?_)))
    cases ok with
    | false => exact wpAny_pure ⟨rfl, h4⟩
    | true => exact wpAny_bind (wpAny_bind (thn h4 fun x s5 h5 => wpAny_bind (thn h5 fun _ s6 h6 => wpAny_pure (wpAny_pure ⟨rfl, h6⟩))))
theorem cf_some : ∀ (names : List (Str × NameKind)) (n : Nat) (acc : List (Str × Addr)) (y : Str), (∃ c, acc.lookup y = some c) → ∃ c, (cellsFrom n names acc).lookup y = some c
  | [], _, _, _, h => h
  | (name, kind) :: r, n, acc, y, ⟨c, h⟩ => by
    unfold cellsFrom
    split
    · refine cf_some r _ _ y ?_
      rw [List.lookup_cons]
      split
      · exact ⟨_, rfl⟩
      · exact ⟨c, h⟩
    · exact cf_some r _ _ y ⟨c, h⟩
theorem cf_has : ∀ (names : List (Str × NameKind)) (n : Nat) (acc : List (Str × Addr)) (y : Str), (y, NameKind.cell) ∈ names → ∃ c, (cellsFrom n names acc).lookup y = some c
  | [], _, _, _, h => nomatch h
  | (name, kind) :: r, n, acc, y, h => by
    unfold cellsFrom
    rcases List.mem_cons.mp h with e | h
    · cases e
      rw [if_pos (by decide)]
      exact cf_some r _ _ _ ⟨n, by rw [List.lookup_cons_self]⟩
    · split
      · exact cf_has r _ _ y h
      · exact cf_has r _ _ y h
theorem cf_lookup : ∀ (names : List (Str × NameKind)) (n : Nat) (acc : List (Str × Addr)) (y : Str) (c : Addr), (cellsFrom n names acc).lookup y = some c → acc.lookup y = some c ∨ (n ≤ c ∧ (y, NameKind.cell) ∈ names)
  | [], _, _, _, _, h => .inl h
  | (name, kind) :: r, n, acc, y, c, h => by
    unfold cellsFrom at h
    split at h
    · rename_i hk
      rcases cf_lookup r _ _ y c h with q | ⟨q1, q2⟩
      · rw [List.lookup_cons] at q
        split at q
        · rename_i hy
          cases q
          rw [beq_iff_eq.mp hy, ← beq_iff_eq.mp hk]
          exact .inr ⟨Nat.le_refl _, .head _⟩
        · exact .inl q
      · exact .inr ⟨Nat.le_of_succ_le q1, .tail _ q2⟩
    · rcases cf_lookup r _ _ y c h with q | ⟨q1, q2⟩
      · exact .inl q
      · exact .inr ⟨q1, .tail _ q2⟩
theorem cf_old : ∀ (names : List (Str × NameKind)) (n : Nat) (acc : List (Str × Addr)) (y : Str), (y, NameKind.cell) ∉ names → (cellsFrom n names acc).lookup y = acc.lookup y
  | [], _, _, _, _ => rfl
  | (name, kind) :: r, n, acc, y, h => by
    unfold cellsFrom
    have hr : (y, NameKind.cell) ∉ r := fun z => h (.tail _ z)
    split
    · rename_i hk
      rw [cf_old r _ _ y hr, List.lookup_cons]
      split
      · rename_i hy
        exact absurd (show (y, NameKind.cell) ∈ (name, kind) :: r by rw [beq_iff_eq.mp hy, ← beq_iff_eq.mp hk]; exact .head _) h
      · rfl
    · exact cf_old r _ _ y hr
theorem cf_inj : ∀ (names : List (Str × NameKind)) (n : Nat) (acc : List (Str × Addr)), (∀ y c, acc.lookup y = some c → c < n) → (∀ y z c, acc.lookup y = some c → acc.lookup z = some c → y = z) →
    ∀ y z c, (cellsFrom n names acc).lookup y = some c → (cellsFrom n names acc).lookup z = some c → y = z
  | [], _, _, _, h => h
  | (name, kind) :: r, n, acc, h1, h2 => by
    unfold cellsFrom
    split
    · refine cf_inj r _ _ (fun y c e => ?_) fun y z c e e' => ?_
      · rw [List.lookup_cons] at e
        split at e
        · cases e; exact Nat.lt_succ_self _
        · exact Nat.lt_succ_of_lt (h1 y c e)
      · rw [List.lookup_cons] at e e'
        split at e
        · rename_i hy
          cases e
          split at e'
          · rename_i hz
            rw [beq_iff_eq.mp hy, beq_iff_eq.mp hz]
          · exact absurd (h1 z _ e') (Nat.lt_irrefl _)
        · split at e'
          · cases e'
            exact absurd (h1 y _ e) (Nat.lt_irrefl _)
          · exact h2 y z c e e'
    · exact cf_inj r _ _ h1 h2
theorem cf_cell : ∀ (names : List (Str × NameKind)) (h : Heap) (acc : List (Str × Addr)) (y : Str) (c : Addr), (cellsFrom h.objs.size names acc).lookup y = some c → acc.lookup y = some c ∨ (pushCells h names).IsCell c none
  | [], _, _, _, _, e => .inl e
  | (name, kind) :: r, h, acc, y, c, e => by
    unfold cellsFrom at e
    unfold pushCells
    split
    · rename_i hk
      rw [if_pos hk] at e
      rw [show h.objs.size + 1 = (h.push { cls := .type "cell", data := .cell none }).objs.size from (Heap.size_push ..).symm] at e
      rcases cf_cell r _ _ y c e with q | q
      · rw [List.lookup_cons] at q
        split at q
        · cases q
          exact .inr (Heap.IsCell.keeps ⟨_, Heap.get?_push_size _ rfl, rfl⟩ (pushCells_keeps r _))
        · exact .inl q
      · exact .inr q
    · rename_i hk
      rw [if_neg hk] at e
      exact cf_cell r _ _ y c e
theorem newEnv_cells {M : Model} {A : Around} {E : Value → Shared → Prop} {s : Shared} {scope : Scope} {globals : Addr} {cl : List (Str × Addr)} {qual : Str} {func : Option Addr} {code : Value} {env : Env} {builtins : Addr} {Q : Env → Shared → Prop}
    (hQ : Q (newEnv scope s.heap.objs.size globals (cellsFrom (s.heap.objs.size + 1) scope.names cl) qual func code (some env) builtins) { s with heap := pushCells (s.heap.push { cls := .type "dict", data := .dict #[] }) scope.names }) :
    wpAny M A (newFunctionEnv scope globals cl [] qual func code (some env) builtins) Q E s := by
  simp only [newFunctionEnv, Option.isSome_some, if_true]
  refine wpAny_bind (wpAny_alloc ?_)
  refine wpAny_bind (wpAny_layCells _ (fun name kind cells => by cases hkc : kind == NameKind.cell <;> simp [hkc]) _ _ _ _ ?_)
  rw [show ({ s with heap := s.heap.push { cls := .type "dict", data := .dict #[] } } : Shared).heap.objs.size = s.heap.objs.size + 1 from Heap.size_push ..]
  rw [List.forIn_nil]
  exact wpAny_bind (wpAny_pure (wpAny_pure hQ))
def cxLc (X : Cx) (own : List Str) (fr : List Nat) (sc : Scope) (cl : List (Str × Addr)) (C : Addr) (s : Shared) (H : Hp) (ex : List Addr) (pn : List (Addr × Obj)) : Cx where
  prog := X.prog
  w := X.w
  K := X.K
  mg := X.mg
  base := X.base
  A := X.A
  N := own ++ fr.map fun j => X.N.getD j ""
  s₀ := s
  H₀ := H
  env := compEnvC sc (cellsFrom (C + 1) sc.names cl) C X.env
  outer := X.stack
  stack := X.stack
  ex := ex
  fn := fun y => (cl.lookup y).isNone
  calm := X.calm
  pn := pn
  xe := NoX
def lcStart (own : List Str) (fr : List Nat) (σ : St) : St := own.map (fun _ => none) ++ fr.map fun j => (σ[j]?).join
structure LcScope (X : Cx) (sc : Scope) (cl : List (Str × Addr)) (fr : List Nat) : Prop where
  clos : closureFor sc X.env = pure cl
  kind : sc.kind = .function
  cells : ∀ y, (y, NameKind.cell) ∈ sc.names → cl.lookup y = none
  names : ∀ y ∈ sc.names, y.2 = .local → sc.names.lookup y.1 = some .local
  sub : ∀ y c, cl.lookup y = some c → X.env.cells.lookup y = some c
  has : ∀ y, ((relabel sc X.env).names.lookup y = some .cell ∨ (relabel sc X.env).names.lookup y = some .free) → (∃ c, cl.lookup y = some c) ∨ (y, NameKind.cell) ∈ sc.names
  frN : ∀ j ∈ fr, ∃ y, X.N[j]? = some y ∧ ((relabel sc X.env).names.lookup y = some .cell ∨ (relabel sc X.env).names.lookup y = some .free) ∧ Vis X.env.scope y ∧ X.env.scope.names.lookup y ≠ some .local ∧ ∃ c, cl.lookup y = some c
def tLc (wi : TI) (g : TG) (tt : TT) (te : TE) (own : List Str) (fr : List Nat) : TE := fun σ H Q => wi σ H fun J H1 => ∀ acc, H1 acc = none →
  ∃ W : Nat → Nat → List V → St → Hp → Prop, (∃ m, W 0 m [] (lcStart own fr σ) (upd H1 acc (.lst []))) ∧ ∀ i m ys σ1 H2, W i m ys σ1 H2 → H2 acc = some (.lst ys) ∧ ys.length < sizeLine ∧
    ((J.stop i H2 ∧ Q (.ref acc) H2) ∨ (J.go i H2 ∧ ∃ N : List V → St → Hp → Prop, (∀ zs σ2 H3, N zs σ2 H3 → ∃ m', m' < m ∧ W (i + 1) m' zs σ2 H3) ∧
      ∀ x H3, J.yld i H2 x H3 → g x σ1 H3 fun σ2 H4 => tt σ2 H4 fun b H5 => if b = true then te σ2 H5 (fun y H6 => H6 acc = some (.lst ys) ∧ N (ys ++ [y]) σ2 (upd H6 acc (.lst (ys ++ [y])))) else N ys σ2 H5))
theorem getD_of {N : List Str} {j : Nat} {y : Str} (h : N[j]? = some y) : N.getD j "" = y := by rw [List.getD_eq_getElem?_getD, h]; rfl
theorem lcInv {X : Cx} {pins : List (Addr × Obj)} {σ : St} {H : Hp} {s : Shared} {sc : Scope} {cl : List (Str × Addr)} {own : List Str} {fr : List Nat} {fp : List Addr} {h4 : Heap} {tk : Nat}
    (L : LcScope X sc cl fr) (I : Inv X pins σ H s) (hfp : ∀ b ∈ fp, FpOk X pins H b) (hlt : ∀ b ∈ fp, b < s.heap.objs.size) (hns : h4.Ns s.heap.objs.size fun _ => none)
    (kp : ∀ b o, s.heap.get? b = some o → h4.get? b = some o) (ncl : ∀ y c, (cellsFrom (s.heap.objs.size + 1) sc.names cl).lookup y = some c → cl.lookup y = some c ∨ h4.IsCell c none) : Inv (cxLc X own fr sc cl s.heap.objs.size s H fp (X.pn ++ pins)) [] (lcStart own fr σ) H { s with heap := h4, toks := tk } := by
  have noL : ∀ {b : Addr} {o : Obj}, s.heap.get? b = some o → b ≠ s.heap.objs.size := fun e => Nat.ne_of_lt (Heap.lt_size e)
  have hex : ∀ b ∈ (cxLc X own fr sc cl s.heap.objs.size s H fp (X.pn ++ pins)).ex, b ∈ fp := fun b z => z
  have stk : ∀ b, b ≠ X.env.locals → b ∉ X.fs → b ∉ frs X.stack := fun b h1 h2 z => (List.mem_cons.mp (I.stkSub b z)).elim h1 h2
  have cellLt : ∀ y c, cl.lookup y = some c → ∃ v, s.heap.IsCell c v := fun y c e => I.cell y c (L.sub y c e)
  have split : ∀ y c, (cellsFrom (s.heap.objs.size + 1) sc.names cl).lookup y = some c → cl.lookup y = some c ∨ s.heap.objs.size + 1 ≤ c := fun y c e => (cf_lookup _ _ _ y c e).imp id And.left
  refine ⟨⟨I.ok.mod, L.kind, I.ok.glob, I.ok.blt, Nat.le_refl _, cf_inj _ _ _ (fun y c e => by obtain ⟨v, q⟩ := cellLt y c e; exact Nat.lt_succ_of_lt q.lt) (fun y z c h1 h2 => I.ok.inj y z c (L.sub y c h1) (L.sub z c h2)), fun y hy => (L.has y hy).elim (cf_some _ _ _ y) (cf_has _ _ _ y), fun y c hy e => ?_, I.ok.hd, I.ok.frames, .inl rfl,
      fun b hb => ⟨Nat.ne_of_lt (hlt b (hex b hb)), fun y c e => (split y c e).elim (fun q => (hfp b (hex b hb)).2.2.2.2.1 y c (L.sub y c q)) fun q => Nat.ne_of_gt (Nat.lt_of_lt_of_le (hlt b (hex b hb)) (Nat.le_of_succ_le q))⟩, I.bs, Nat.le_trans I.ok.bsz I.sz, fun b o e z => ?_, fun b z => ?_, I.stack, I.stkFree⟩,
    rfl, I.bare, Un.kept kp, ⟨_, hns, fun i y v h1 h2 h3 => ?_⟩, fun y c e => ?_, I.hok.fresh (Nat.le_refl _), fun y c e => (split y c e).elim (fun q => I.freeC y c (L.sub y c q)) fun q => I.hok.fresh (Nat.le_of_succ_le q), fun p hp => ?_, I.hok.kept kp, ?_⟩
  · have hy' : (cl.lookup y).isNone = true := hy
    rcases split y c e with q | q
    · rw [q] at hy'
      cases hy'
    · exact Nat.le_of_succ_le q
  · rcases (hfp b (hex b z)).2.2.2.1 with q | q
    · exact I.ok.noex b o e q
    · exact absurd (Nat.lt_of_lt_of_le (Heap.lt_size (I.ok.bs b o e).1) q) (Nat.lt_irrefl _)
  · exact stk b (hfp b (hex b z)).2.1 (hfp b (hex b z)).2.2.1
  · have h1' : (own ++ fr.map fun j => X.N.getD j "")[i]? = some y := h1
    have h2' : (own.map (fun _ => none) ++ fr.map fun j => (σ[j]?).join)[i]? = some (some v) := h2
    by_cases hi : i < own.length
    · rw [List.getElem?_append_left (by simpa using hi), List.getElem?_map] at h2'
      cases q : own[i]? with
      | none => rw [q] at h2'; cases h2'
      | some z => rw [q] at h2'; cases h2'
    · rw [List.getElem?_append_right (by omega), List.getElem?_map] at h1'
      rw [List.getElem?_append_right (by simpa using hi), List.getElem?_map, List.length_map] at h2'
      cases q : fr[i - own.length]? with
      | none => rw [q] at h1'; cases h1'
      | some j =>
        rw [q] at h1' h2'
        obtain ⟨y', n1, n2, n3, n4, c', e'⟩ := L.frN j (List.mem_of_getElem? q)
        have ey : y' = y := by
          have this : X.N.getD j "" = y := Option.some.inj h1'
          rw [getD_of n1] at this
          exact this
        subst ey
        have ev : σ[j]? = some (some v) := by
          have z : (σ[j]?).join = some v := Option.some.inj h2'
          cases q2 : σ[j]? with
          | none => rw [q2] at z; cases z
          | some o => rw [q2] at z; exact congrArg some z
        obtain ⟨m, _, hl⟩ := I.loc
        obtain ⟨u, r, l⟩ := hl j y' v n1 ev n3
        refine ⟨u, r, .inr ⟨n2, ?_⟩⟩
        rcases l with ⟨k, _⟩ | ⟨_, c, e, z⟩
        · exact absurd k n4
        · have := L.sub y' c' e'
          rw [e] at this
          cases this
          obtain ⟨o, ho, hd⟩ := z
          exact ⟨_, (cf_old _ _ _ y' fun z => by rw [L.cells y' z] at e'; cases e').trans e', o, kp _ o ho, hd⟩
  · rcases ncl y c e with q | q
    · obtain ⟨v, o, ho, hd⟩ := cellLt y c q
      exact ⟨v, o, kp c o ho, hd⟩
    · exact ⟨none, q⟩
  · have hp' : p ∈ X.pn ++ pins := by
      have z : p ∈ (X.pn ++ pins) ++ [] := hp
      simpa using z
    obtain ⟨e, n, ne, nf, d⟩ := I.pin p hp'
    exact ⟨kp _ _ e, n, noL e, stk _ ne nf, d⟩
  · show (own.map (fun _ => (none : Option V)) ++ fr.map fun j => (σ[j]?).join).length = (own ++ fr.map fun j => X.N.getD j "").length
    simp
theorem pe_lc {X : Cx} {elt tg iter : Expr} {ifs : List Expr} {sc : Scope} {cl : List (Str × Addr)} {own : List Str} {fr : List Nat} {pos : Pos} {wi : TI} {g : TG} {tt : TT} {te : TE}
    (L : LcScope X sc cl fr) (hc : X.calm = true) (hi : PI X tg iter wi)
    (hg : ∀ C s H ex pn, PG (cxLc X own fr sc cl C s H ex pn) tg g)
    (ht : ∀ C s H ex pn (pins : List (Addr × Obj)) (s1 : Shared) (σ1 : St) (H1 : Hp) (Q : Bool → Hp → Prop), Inv (cxLc X own fr sc cl C s H ex pn) pins σ1 H1 s1 → tt σ1 H1 Q →
      wpAny (model X.prog X.w) X.A (lcTests ifs (compEnvC sc (cellsFrom (C + 1) sc.names cl) C X.env)) (TP (cxLc X own fr sc cl C s H ex pn) pins σ1 Q) NoX s1)
    (he : ∀ C s H ex pn, PE (cxLc X own fr sc cl C s H ex pn) elt te) (hs : ∀ x, foldedSetIterable iter X.env x = pure x := by intro _; rfl) :
    PE X (.ListComp elt [⟨tg, iter, ifs, 0⟩] sc pos) (tLc wi g tt te own fr) := by
  intro pins s σ H Q I h
  rw [eval_ListComp]
  refine wpAny_comprehension_free (use := none) rfl hs L.clos L.kind L.names (thn (hi pins s σ H _ I h) fun v s1 h1 => thn h1 fun itv s2 h2 => ?_)
  obtain ⟨it, fp, tn, J, H2, e, I2, T, st2, f2, h2⟩ := h2
  subst e
  refine wpAny_newObj_type ?_
  have I3 : Inv X pins σ (upd H2 s2.heap.objs.size (.lst [])) { s2 with heap := s2.heap.push { cls := .type "list", data := .seq ([] : List Value).toArray } } := I2.lnew (t' := s2.toks) .nil (Nat.zero_le _)
  have n2 : H2 s2.heap.objs.size = none := I2.fresh
  obtain ⟨W, ⟨m0, w0⟩, turn⟩ := h2 _ n2
  have lt2 : ∀ b ∈ fp, b < s2.heap.objs.size := fun b hb => by
    obtain ⟨o, eo, _⟩ := T.obj 0 _ st2 b hb
    exact Heap.lt_size eo
  have fp3 : ∀ b ∈ fp, FpOk X pins (upd H2 s2.heap.objs.size (.lst [])) b := fun b hb => ⟨by rw [upd_ne (Nat.ne_of_lt (lt2 b hb))]; exact (f2 b hb).1, (f2 b hb).2⟩
  generalize hs3 : ({ s2 with heap := s2.heap.push { cls := .type "list", data := .seq ([] : List Value).toArray } } : Shared) = s3 at I3
  have st3 : tn 0 s3.heap := by
    rw [← hs3]
    exact T.keep 0 _ _ st2 fun b hb o eo => Heap.get?_push_of_some _ eo
  have lt3 : ∀ b ∈ fp, b < s3.heap.objs.size := fun b hb => by
    obtain ⟨o, eo, _⟩ := T.obj 0 _ st3 b hb
    exact Heap.lt_size eo
  generalize hH3 : upd H2 s2.heap.objs.size (.lst []) = H3 at I3 fp3 w0
  generalize s2.heap.objs.size = acc at turn w0 hH3 ⊢
  refine newEnv_cells ?_
  have hns : (pushCells (s3.heap.push { cls := .type "dict", data := .dict #[] }) sc.names).Ns s3.heap.objs.size fun _ => none := (Heap.Ns.new s3.heap (.type "dict")).keeps (pushCells_keeps _ _)
  have kp : ∀ b o, s3.heap.get? b = some o → (pushCells (s3.heap.push { cls := .type "dict", data := .dict #[] }) sc.names).get? b = some o := fun b o eo => pushCells_keeps _ _ b o (Heap.get?_push_of_some _ eo)
  have ncl : ∀ y c, (cellsFrom (s3.heap.objs.size + 1) sc.names cl).lookup y = some c → cl.lookup y = some c ∨ (pushCells (s3.heap.push { cls := .type "dict", data := .dict #[] }) sc.names).IsCell c none := fun y c e =>
    cf_cell sc.names (s3.heap.push { cls := .type "dict", data := .dict #[] }) cl y c (by rw [Heap.size_push]; exact e)
  generalize hh4 : pushCells (s3.heap.push { cls := .type "dict", data := .dict #[] }) sc.names = h4 at hns kp ncl
  have I4 := lcInv (own := own) (tk := s3.toks) L I3 fp3 lt3 hns kp ncl
  have st4 : tn 0 h4 := T.keep 0 _ _ st3 fun b hb o eo => kp b o eo
  have stat : ∀ {H' : Hp}, (∀ b ∈ fp, H' b = none) → ∀ b ∈ fp, FpOk (cxLc X own fr sc cl s3.heap.objs.size s3 H3 fp (X.pn ++ pins)) [] H' b := fun {H'} hn b hb =>
    ⟨hn b hb, Nat.ne_of_lt (lt3 b hb), fun z => (List.mem_cons.mp (I3.stkSub b z)).elim (fp3 b hb).2.1 (fp3 b hb).2.2.1, .inl hb, fun y c e => (cf_lookup _ _ _ y c e).elim (fun q => (fp3 b hb).2.2.2.2.1 y c (L.sub y c q)) fun q => Nat.ne_of_gt (Nat.lt_of_lt_of_le (lt3 b hb) (Nat.le_of_succ_le q.1)), fun p hp => (fp3 b hb).2.2.2.2.2 p (by
      have z : p ∈ (X.pn ++ pins) ++ [] := hp
      simpa using z)⟩
  have loop : codeAny (model X.prog X.w) X.A (.compLoop (.ListComp elt [⟨tg, iter, ifs, 0⟩] sc pos) 0 (.ref it) (.ref acc) (compEnvC sc (cellsFrom (s3.heap.objs.size + 1) sc.names cl) s3.heap.objs.size X.env))
      (compPost (model X.prog X.w) X.A X.xe none (EP X pins σ Q) (.ref acc) s3.heap.objs.size) { s3 with heap := h4, toks := s3.toks } := by
    refine lcLoop (fun n s' => ∃ i ys σ1 H1, Inv (cxLc X own fr sc cl s3.heap.objs.size s3 H3 fp (X.pn ++ pins)) [] σ1 H1 s' ∧ tn i s'.heap ∧ (∀ b ∈ fp, H1 b = none) ∧ W i n ys σ1 H1) ?_ m0 ⟨0, [], _, H3, I4, st4, fun b hb => (fp3 b hb).1, w0⟩
    rintro n s5 ⟨i, ys, σ5, H5, I5, st5, fr5, w5⟩
    obtain ⟨hacc, hlen, hh⟩ := turn i n ys σ5 H5 w5
    rcases hh with ⟨stop, qn⟩ | ⟨go, N, hN, step⟩
    · refine thn (T.done (cxLc X own fr sc cl s3.heap.objs.size s3 H3 fp (X.pn ++ pins)) rfl rfl rfl hc i [] s5 σ5 H5 NoX I5 (stat fr5) st5 stop) fun r s6 ⟨hr, I6⟩ => ?_
      subst hr
      obtain ⟨m6, ns6, _⟩ := id I6.loc
      refine ⟨m6, ns6, fun h7 sb7 => ⟨.ref acc, H5, ?_, rfl, qn⟩⟩
      have old : ∀ b o, s3.heap.get? b = some o → b ≠ s3.heap.objs.size := fun b o eo => Nat.ne_of_lt (Heap.lt_size eo)
      have u6 : Un (frs X.stack) fp H3 H5 s3.heap s6.heap := I6.base
      have u7 : Un (frs X.stack) fp H3 H5 s3.heap h7 :=
        ⟨fun b o eo nn hb hx => (sb7.2 b (old b o eo)).trans (u6.keep b o eo nn hb hx), fun b o eo nn hb hx => by
          obtain ⟨sl, q⟩ := u6.slot b o eo nn hb hx
          exact ⟨sl, (sb7.2 b (old b o eo)).trans q⟩, u6.free, fun b o eo hx => by
          obtain ⟨o', q⟩ := u6.there b o eo hx
          exact ⟨o', (sb7.2 b (old b o eo)).trans q⟩, u6.tups, u6.frzs, u6.tbls⟩
      have fC : H5 s3.heap.objs.size = none := I6.free
      have hok7 : HOk X.prog X.w H5 h7 := fun b ob eb => by
        refine (I6.hok b ob eb).stay (fun c w' hc' q => (sb7.2 c ?_).trans q) (fun _ q => q) fun _ _ q => q
        rintro rfl
        rcases hc' with z | z
        · rw [← z, fC] at eb; cases eb
        · rw [fC] at z; cases z
      exact I3.call' (s' := { s6 with heap := h7 }) I6.os u7 hok7 I6.bare fun b hb => ⟨(fp3 b hb).2.2.2.1, (fp3 b hb).2.1, (fp3 b hb).2.2.2.2.1, (fp3 b hb).2.2.2.2.2⟩
    · refine thn (T.item (cxLc X own fr sc cl s3.heap.objs.size s3 H3 fp (X.pn ++ pins)) rfl rfl rfl hc i [] s5 σ5 H5 NoX I5 (stat fr5) st5 go) fun r s6 ⟨u, hr, h6⟩ => ?_
      subst hr
      refine thn h6 fun _ s7 ⟨x, H7, I7, r7, y7, st7, fr7⟩ => ?_
      have I7' := I7.pinned (stat fr7) (T.obj _ _ st7)
      refine thn (hg _ _ _ _ _ _ s7 σ5 H7 x u _ I7' r7 (step x H7 y7)) fun _ s8 ⟨σ8, H8, I8, q8⟩ => ?_
      have again : ∀ {zs : List V} {σ9 : St} {H9 : Hp} {s9 : Shared}, Inv (cxLc X own fr sc cl s3.heap.objs.size s3 H3 fp (X.pn ++ pins)) ([] ++ pinsAt fp s7.heap) σ9 H9 s9 → N zs σ9 H9 →
          ∃ m, m < n ∧ ∃ i ys σ1 H1, Inv (cxLc X own fr sc cl s3.heap.objs.size s3 H3 fp (X.pn ++ pins)) [] σ1 H1 s9 ∧ tn i s9.heap ∧ (∀ b ∈ fp, H1 b = none) ∧ W i m ys σ1 H1 := fun {zs σ9 H9 s9} I9 n9 => by
        obtain ⟨m', hm, w9⟩ := hN zs σ9 H9 n9
        refine ⟨m', hm, i + 1, zs, σ9, H9, I9.unpinned, T.keep _ _ _ st7 fun b hb o e => (I9.pin (b, o) (List.mem_append_right _ (List.mem_append_right _ (mem_pinsAt hb e)))).1, fun b hb => ?_, w9⟩
        obtain ⟨o, e, d⟩ := T.obj _ _ st7 b hb
        exact (I9.pin (b, o) (List.mem_append_right _ (List.mem_append_right _ (mem_pinsAt hb e)))).2.1
      refine thn (ht _ _ _ _ _ _ s8 σ8 H8 _ I8 q8) fun ok s9 ⟨H9, I9, q9⟩ => ?_
      cases ok with
      | false => exact again I9 (by simpa using q9)
      | true =>
        refine thn (he _ _ _ _ _ _ s9 σ8 H9 _ I9 q9) fun z s10 ⟨y, H10, I10, r10, a10, q10⟩ => ?_
        refine thn (mt_append _ s10 σ8 H10 (.ref acc) [y] (.ref acc) [z] (fun _ H' => N (ys ++ [y]) σ8 H') I10 rfl (.cons r10 .nil) ⟨acc, ys, y, rfl, rfl, a10, hlen, q10⟩) fun _ s11 ⟨_, H11, I11, _, q11⟩ => again I11 q11
  rw [← hs3] at loop ⊢
  exact codeAny_compStart_list loop (noX (T.self _ 0 _ _ _ st4 (by rw [hs3]; rw [hs3] at loop; exact loop)))
end L2
namespace L2
open PySem PySem.Spec PyProof.Rows
theorem log2_of {n : Int} {k : Nat} (h : n.natAbs < 2 ^ k) (hk : 0 < k) : n.natAbs.log2 < k := by
  by_cases z : n.natAbs = 0
  · rw [z]
    show Nat.log2 0 < k
    rw [Nat.log2_zero]
    exact hk
  · exact (Nat.log2_lt z).mpr h
section
variable {X : Cx}
def CDivB (_ j : Int) : Prop := 0 < j ∧ j.natAbs < 2 ^ 8000
theorem op_fdivB : OpR X (binaryOp .FloorDiv) (rI CDivB fun i j => .int (i / j)) := opI fun i j _ _ _ _ _ hc q => by
  have h1 : (0 : Int) < j := hc.1
  refine floordiv_int (by omega) (by rw [Int.fdiv_eq_ediv_of_nonneg i (by omega)]; exact q) (.inl (PyProof.noPylong_of_log2 ?_))
  exact Nat.lt_trans (log2_of hc.2 (by decide)) (by decide)
theorem vals_intItems : ∀ {ns : List Int} {its : List Value}, Vals (ns.map V.int) its → ∃ xs : List (Int × Tok), its = xs.map (fun p => Value.int p.1 p.2) ∧ xs.map (·.1) = ns
  | [], _, .nil => ⟨[], rfl, rfl⟩
  | n :: ns, _, .cons r t => by
    obtain ⟨tk, rfl⟩ := r
    obtain ⟨xs, rfl, rfl⟩ := vals_intItems t
    exact ⟨(n, tk) :: xs, rfl, rfl⟩
def rSum (K : PySem.W.Frag) : List V → Hp → VK → Prop := fun xs H Q => ∃ (p : Addr) (ns : List Int), xs = [.ref p] ∧ SqL K H p (ns.map V.int) ∧ Q (.int ns.sum) H
theorem call_sum (hc : X.calm = true) : CallR X (.builtin "sum") (rSum X.K) := by
  intro pins s σ H xs us Q I r h
  obtain ⟨p, ns, rfl, hq, q⟩ := h
  cases r with
  | cons r1 rr =>
    cases rr
    cases r1
    obtain ⟨its, rv, pl, hz⟩ := I.list hq
    obtain ⟨zs, rfl, rfl⟩ := vals_intItems rv
    refine PySem.sum_intListG (xs := zs.toArray) (I.ok.hd hc) (by simpa [PySem.intItems] using pl.isList) fun h' tk t' hk => ⟨.int _, H, I.kept (t' := tk) hk, ⟨t', rfl⟩, ?_⟩
    rw [PySem.preSum_eq, List.take_of_length_le (by simp)]
    exact q
end
end L2
namespace L2
open PySem PySem.Spec PyProof.Rows
inductive Dv where
  | fl (v : V)
  | lst (ds : List Dv)
  | tup (ds : List Dv)
mutual
def eqD : Dv → Dv → Bool
  | .fl x, .fl y => eqV x y
  | .lst a, .lst b => eqDs a b
  | .tup a, .tup b => eqDs a b
  | _, _ => false
def eqDs : List Dv → List Dv → Bool
  | [], [] => true
  | x :: r, y :: q => eqD x y && eqDs r q
  | _, _ => false
end
mutual
def dpD : Dv → Nat
  | .fl _ => 0
  | .lst a => dpDs a + 1
  | .tup a => dpDs a + 1
def dpDs : List Dv → Nat
  | [] => 0
  | x :: r => max (dpD x) (dpDs r)
end
mutual
def Hv (K : PySem.W.Frag) (H : Hp) : Dv → V → Prop
  | .fl v, x => x = v ∧ flatV v = true
  | .lst ds, x => ∃ a xs, x = .ref a ∧ SqL K H a xs ∧ HvL K H ds xs
  | .tup ds, x => ∃ a xs, x = .ref a ∧ SqT K H a xs ∧ HvL K H ds xs
def HvL (K : PySem.W.Frag) (H : Hp) : List Dv → List V → Prop
  | [], xs => xs = []
  | d :: ds, xs => ∃ x r, xs = x :: r ∧ Hv K H d x ∧ HvL K H ds r
end
theorem eqV_refl {v : V} (h : flatV v = true) : eqV v v = true := by
  cases v <;> first | rfl | (simp [eqV]; done) | (exact absurd h (by decide)) | (cases h)
section
variable {X : Cx} {pins : List (Addr × Obj)} {σ : St} {H : Hp} {s : Shared}
theorem not_both (I : Inv X pins σ H s) {a : Addr} {xs ys : List V} (h1 : SqL X.K H a xs) (h2 : SqT X.K H a ys) : False := by
  obtain ⟨i1, _, p1, _⟩ := I.list h1
  obtain ⟨i2, _, p2, _⟩ := I.tuple h2
  exact SeqAt.ne_of_list_tuple p1.isList p2 rfl
mutual
theorem same_eq (I : Inv X pins σ H s) : ∀ (d e : Dv) (x : V), Hv X.K H d x → Hv X.K H e x → eqD d e = true
  | .fl v, .fl w, x, h1, h2 => by
    obtain ⟨rfl, f⟩ := h1
    obtain ⟨rfl, _⟩ := h2
    exact eqV_refl f
  | .fl v, .lst es, x, h1, h2 => by
    obtain ⟨rfl, f⟩ := h1
    obtain ⟨a, xs, rfl, _⟩ := h2
    cases f
  | .fl v, .tup es, x, h1, h2 => by
    obtain ⟨rfl, f⟩ := h1
    obtain ⟨a, xs, rfl, _⟩ := h2
    cases f
  | .lst ds, .fl v, x, h2, h1 => by
    obtain ⟨rfl, f⟩ := h1
    obtain ⟨a, xs, rfl, _⟩ := h2
    cases f
  | .tup ds, .fl v, x, h2, h1 => by
    obtain ⟨rfl, f⟩ := h1
    obtain ⟨a, xs, rfl, _⟩ := h2
    cases f
  | .lst ds, .lst es, x, h1, h2 => by
    obtain ⟨a, xs, rfl, q, r⟩ := h1
    obtain ⟨b, ys, e, q', r'⟩ := h2
    cases e
    have := I.list_inj q q'
    subst this
    exact same_eqs I ds es xs r r'
  | .tup ds, .tup es, x, h1, h2 => by
    obtain ⟨a, xs, rfl, q, r⟩ := h1
    obtain ⟨b, ys, e, q', r'⟩ := h2
    cases e
    have := I.tuple_inj q q'
    subst this
    exact same_eqs I ds es xs r r'
  | .lst ds, .tup es, x, h1, h2 => by
    obtain ⟨a, xs, rfl, q, r⟩ := h1
    obtain ⟨b, ys, e, q', r'⟩ := h2
    cases e
    exact (not_both I q q').elim
  | .tup ds, .lst es, x, h1, h2 => by
    obtain ⟨a, xs, rfl, q, r⟩ := h1
    obtain ⟨b, ys, e, q', r'⟩ := h2
    cases e
    exact (not_both I q' q).elim
theorem same_eqs (I : Inv X pins σ H s) : ∀ (ds es : List Dv) (xs : List V), HvL X.K H ds xs → HvL X.K H es xs → eqDs ds es = true
  | [], [], _, _, _ => rfl
  | [], e :: es, xs, h1, h2 => by
    obtain rfl : xs = [] := h1
    obtain ⟨x, r, z, _⟩ := h2
    cases z
  | d :: ds, [], xs, h1, h2 => by
    obtain rfl : xs = [] := h2
    obtain ⟨x, r, z, _⟩ := h1
    cases z
  | d :: ds, e :: es, xs, h1, h2 => by
    obtain ⟨x, r, rfl, a, b⟩ := h1
    obtain ⟨x', r', z, a', b'⟩ := h2
    cases z
    show (eqD d e && eqDs ds es) = true
    rw [same_eq I d e x a a', same_eqs I ds es r b b']
    rfl
end
theorem HvL.length {K : PySem.W.Frag} {H : Hp} : ∀ {ds : List Dv} {xs : List V}, HvL K H ds xs → ds.length = xs.length
  | [], xs, h => by
    obtain rfl : xs = [] := h
    rfl
  | d :: ds, xs, h => by
    obtain ⟨x, r, rfl, _, b⟩ := h
    rw [List.length_cons, List.length_cons, HvL.length b]
theorem eqDs_len : ∀ {ds es : List Dv}, ds.length ≠ es.length → eqDs ds es = false
  | [], [], h => absurd rfl h
  | [], _ :: _, _ => rfl
  | _ :: _, [], _ => rfl
  | d :: ds, e :: es, h => by
    show (eqD d e && eqDs ds es) = false
    rw [eqDs_len (ds := ds) (es := es) (by simpa using h), Bool.and_false]
def eqAtI (ds es : List Dv) (j : Nat) : Bool := match ds[j]?, es[j]? with
  | some d, some e => eqD d e
  | _, _ => false
theorem all_eqAtI : ∀ {ds es : List Dv}, ds.length = es.length → (List.range ds.length).all (eqAtI ds es) = eqDs ds es
  | [], [], _ => rfl
  | [], _ :: _, h => by cases h
  | _ :: _, [], h => by cases h
  | d :: ds, e :: es, h => by
    rw [List.length_cons, List.range_succ_eq_map, List.all_cons, List.all_map]
    show (eqD d e && (List.range ds.length).all (eqAtI (d :: ds) (e :: es) ∘ Nat.succ)) = (eqD d e && eqDs ds es)
    congr 1
    exact all_eqAtI (ds := ds) (es := es) (by simpa using h)
mutual
theorem eqAt_D (I : Inv X pins σ H s) : ∀ (d e : Dv) (A : Around) (x y : V) (u v : Value), A.units + dpD d < cLine → Hv X.K H d x → Hv X.K H e y → RelV x u → RelV y v → SeqAt.EqAt A s u v (eqD d e)
  | .fl a, .fl b, A, x, y, u, v, hu, h1, h2, rx, ry => by
    obtain ⟨rfl, f1⟩ := h1
    obtain ⟨rfl, f2⟩ := h2
    exact eqAt_V rx ry f1 f2
  | .fl a, .lst es, A, x, y, u, v, hu, h1, h2, rx, ry => by
    obtain ⟨rfl, f1⟩ := h1
    obtain ⟨b, ys, rfl, q, r⟩ := h2
    cases ry
    obtain ⟨its, _, pl, _⟩ := I.list q
    have hu' : A.units < cLine := hu
    cases x with
    | non => cases rx; exact SeqAt.EqAt.none_list pl.isList hu'
    | bl c => cases rx; exact SeqAt.EqAt.bool_list c pl.isList hu'
    | int c => obtain ⟨t, rfl⟩ := rx; exact SeqAt.EqAt.int_list c t pl.isList hu'
    | str c => obtain ⟨t, rfl⟩ := rx; exact SeqAt.EqAt.str_list c t pl.isList hu'
    | _ => cases f1
  | .fl a, .tup es, A, x, y, u, v, hu, h1, h2, rx, ry => by
    obtain ⟨rfl, f1⟩ := h1
    obtain ⟨b, ys, rfl, q, r⟩ := h2
    cases ry
    obtain ⟨its, _, pl, _⟩ := I.tuple q
    have hu' : A.units < cLine := hu
    cases x with
    | non => cases rx; exact SeqAt.EqAt.none_tuple pl hu'
    | bl c => cases rx; exact SeqAt.EqAt.bool_tuple c pl hu'
    | int c => obtain ⟨t, rfl⟩ := rx; exact SeqAt.EqAt.int_tuple c t pl hu'
    | str c => obtain ⟨t, rfl⟩ := rx; exact SeqAt.EqAt.str_tuple c t pl hu'
    | _ => cases f1
  | .lst ds, .fl b, A, x, y, u, v, hu, h1, h2, rx, ry => by
    obtain ⟨rfl, f2⟩ := h2
    obtain ⟨a, xs, rfl, q, r⟩ := h1
    cases rx
    obtain ⟨its, _, pl, _⟩ := I.list q
    have hu' : A.units < cLine := Nat.lt_of_le_of_lt (Nat.le_add_right _ _) hu
    cases y with
    | non => cases ry; exact SeqAt.EqAt.list_none pl.isList hu'
    | bl c => cases ry; exact SeqAt.EqAt.list_bool c pl.isList hu'
    | int c => obtain ⟨t, rfl⟩ := ry; exact SeqAt.EqAt.list_int c t pl.isList hu'
    | str c => obtain ⟨t, rfl⟩ := ry; exact SeqAt.EqAt.list_str c t pl.isList hu'
    | _ => cases f2
  | .tup ds, .fl b, A, x, y, u, v, hu, h1, h2, rx, ry => by
    obtain ⟨rfl, f2⟩ := h2
    obtain ⟨a, xs, rfl, q, r⟩ := h1
    cases rx
    obtain ⟨its, _, pl, _⟩ := I.tuple q
    have hu' : A.units < cLine := Nat.lt_of_le_of_lt (Nat.le_add_right _ _) hu
    cases y with
    | non => cases ry; exact SeqAt.EqAt.tuple_none pl hu'
    | bl c => cases ry; exact SeqAt.EqAt.tuple_bool c pl hu'
    | int c => obtain ⟨t, rfl⟩ := ry; exact SeqAt.EqAt.tuple_int c t pl hu'
    | str c => obtain ⟨t, rfl⟩ := ry; exact SeqAt.EqAt.tuple_str c t pl hu'
    | _ => cases f2
  | .lst ds, .tup es, A, x, y, u, v, hu, h1, h2, rx, ry => by
    obtain ⟨a, xs, rfl, q, r⟩ := h1
    obtain ⟨b, ys, rfl, q', r'⟩ := h2
    cases rx
    cases ry
    obtain ⟨_, _, p1, _⟩ := I.list q
    obtain ⟨_, _, p2, _⟩ := I.tuple q'
    exact SeqAt.EqAt.list_tuple p1.isList p2 (Nat.lt_of_le_of_lt (Nat.le_add_right _ _) hu)
  | .tup ds, .lst es, A, x, y, u, v, hu, h1, h2, rx, ry => by
    obtain ⟨a, xs, rfl, q, r⟩ := h1
    obtain ⟨b, ys, rfl, q', r'⟩ := h2
    cases rx
    cases ry
    obtain ⟨_, _, p1, _⟩ := I.tuple q
    obtain ⟨_, _, p2, _⟩ := I.list q'
    exact SeqAt.EqAt.tuple_list p1 p2.isList (Nat.lt_of_le_of_lt (Nat.le_add_right _ _) hu)
  | .lst ds, .lst es, A, x, y, u, v, hu, h1, h2, rx, ry => by
    obtain ⟨a, xs, rfl, q, r⟩ := id h1
    obtain ⟨b, ys, rfl, q', r'⟩ := id h2
    cases rx
    cases ry
    by_cases hab : a = b
    · subst hab
      rw [same_eq I _ _ _ h1 h2]
      exact SeqAt.EqAt.same _
    obtain ⟨i1, v1, p1, _⟩ := I.list q
    obtain ⟨i2, v2, p2, _⟩ := I.list q'
    have hu' : A.units < cLine := Nat.lt_of_le_of_lt (Nat.le_add_right _ _) hu
    have l1 := r.length
    have l2 := r'.length
    have m1 := v1.length
    have m2 := v2.length
    refine .of_refs hab ?_
    show SeqAt.RcAt A s (.ref a) (.ref b) (eqDs ds es)
    by_cases hl : ds.length = es.length
    · have z := SeqAt.RcAt.lists (e := eqAtI ds es) p1.isList p2.isList (by simp; omega) hu' (fun j g1 g2 => eqAt_Ds I ds es A.in1 xs ys i1 i2 (by show A.units + 1 + dpDs ds < cLine; have : A.units + (dpDs ds + 1) < cLine := hu; omega) r r' v1 v2 j (by simpa using g1) (by simpa using g2))
      rw [List.size_toArray, ← m1, ← l1, all_eqAtI hl] at z
      exact z
    · rw [eqDs_len hl]
      exact .lists_lengths p1.isList p2.isList (by simp; omega) hu'
  | .tup ds, .tup es, A, x, y, u, v, hu, h1, h2, rx, ry => by
    obtain ⟨a, xs, rfl, q, r⟩ := id h1
    obtain ⟨b, ys, rfl, q', r'⟩ := id h2
    cases rx
    cases ry
    by_cases hab : a = b
    · subst hab
      rw [same_eq I _ _ _ h1 h2]
      exact SeqAt.EqAt.same _
    obtain ⟨i1, v1, p1, _⟩ := I.tuple q
    obtain ⟨i2, v2, p2, _⟩ := I.tuple q'
    have hu' : A.units < cLine := Nat.lt_of_le_of_lt (Nat.le_add_right _ _) hu
    have l1 := r.length
    have l2 := r'.length
    have m1 := v1.length
    have m2 := v2.length
    refine .of_refs hab ?_
    show SeqAt.RcAt A s (.ref a) (.ref b) (eqDs ds es)
    have z := SeqAt.RcAt.tuples (e := eqAtI ds es) p1 p2 hu' (fun j g1 g2 => eqAt_Ds I ds es A.in1 xs ys i1 i2 (by show A.units + 1 + dpDs ds < cLine; have : A.units + (dpDs ds + 1) < cLine := hu; omega) r r' v1 v2 j (by simpa using g1) (by simpa using g2))
    have zz : ((List.range (min i1.toArray.size i2.toArray.size)).all (eqAtI ds es) && i1.toArray.size == i2.toArray.size) = eqDs ds es := by
      rw [List.size_toArray, List.size_toArray, ← m1, ← m2, ← l1, ← l2]
      by_cases hl : ds.length = es.length
      · rw [hl, Nat.min_self, ← hl, all_eqAtI hl]; simp [hl]
      · rw [eqDs_len hl, beq_eq_false_iff_ne.mpr hl, Bool.and_false]
    rw [zz] at z
    exact z
theorem eqAt_Ds (I : Inv X pins σ H s) : ∀ (ds es : List Dv) (A : Around) (xs ys : List V) (us vs : List Value), A.units + dpDs ds < cLine → HvL X.K H ds xs → HvL X.K H es ys → Vals xs us → Vals ys vs →
    ∀ (j : Nat) (h1 : j < us.length) (h2 : j < vs.length), SeqAt.EqAt A s us[j] vs[j] (eqAtI ds es j)
  | [], es, A, xs, ys, us, vs, hu, h1, h2, r1, r2, j, g1, g2 => by
    obtain rfl : xs = [] := h1
    cases r1
    exact absurd g1 (Nat.not_lt_zero _)
  | d :: ds, [], A, xs, ys, us, vs, hu, h1, h2, r1, r2, j, g1, g2 => by
    obtain rfl : ys = [] := h2
    cases r2
    exact absurd g2 (Nat.not_lt_zero _)
  | d :: ds, e :: es, A, xs, ys, us, vs, hu, h1, h2, r1, r2, j, g1, g2 => by
    obtain ⟨x, r, rfl, a, b⟩ := h1
    obtain ⟨y, q, rfl, a', b'⟩ := h2
    cases r1 with
    | cons c1 t1 => cases r2 with
      | cons c2 t2 =>
        have hm : dpDs (d :: ds) = max (dpD d) (dpDs ds) := rfl
        rw [hm] at hu
        cases j with
        | zero => exact eqAt_D I d e A x y _ _ (Nat.lt_of_le_of_lt (Nat.add_le_add_left (Nat.le_max_left _ _) _) hu) a a' c1 c2
        | succ j => exact eqAt_Ds I ds es A r q _ _ (Nat.lt_of_le_of_lt (Nat.add_le_add_left (Nat.le_max_right _ _) _) hu) b b' t1 t2 j (by simpa using g1) (by simpa using g2)
end
def rEqS (K : PySem.W.Frag) (neg : Bool) : R2 := fun x y H Q => ∃ d e, ((∃ ds es, d = .lst ds ∧ e = .lst es) ∨ ∃ ds es, d = .tup ds ∧ e = .tup es) ∧ Hv K H d x ∧ Hv K H e y ∧ dpD d ≤ 50 ∧ Q (.bl (if neg then !eqD d e else eqD d e)) H
theorem op_eqS (hr : X.A.units + 64 < cLine) : OpR X (compareOp .Eq) (rEqS X.K false) := by
  intro pins s σ H x y v u Q I rx ry h
  obtain ⟨d, e, hk, h1, h2, hd, q⟩ := h
  have hu' : X.A.units < cLine := by omega
  rcases hk with ⟨ds, es, rfl, rfl⟩ | ⟨ds, es, rfl, rfl⟩
  · obtain ⟨a, xs, rfl, q1, r⟩ := h1
    obtain ⟨b, ys, rfl, q2, r'⟩ := h2
    cases rx
    cases ry
    obtain ⟨i1, v1, p1, _⟩ := I.list q1
    obtain ⟨i2, v2, p2, _⟩ := I.list q2
    have l1 := r.length
    have l2 := r'.length
    have m1 := v1.length
    have m2 := v2.length
    have hd' : dpDs ds + 1 ≤ 50 := hd
    by_cases hl : ds.length = es.length
    · refine SeqAt.eq_listAt (e := eqAtI ds es) p1.isList p2.isList (by simp; omega) hu' (fun j g1 g2 => eqAt_Ds I ds es X.A.in1 xs ys i1 i2 (by show X.A.units + 1 + dpDs ds < cLine; omega) r r' v1 v2 j (by simpa using g1) (by simpa using g2)) ?_
      rw [List.size_toArray, ← m1, ← l1, all_eqAtI hl]
      exact ⟨.bl _, H, I, rfl, q⟩
    · refine SeqAt.eq_list_lengthsAt p1.isList p2.isList (by simp; omega) hu' ⟨.bl _, H, I, rfl, ?_⟩
      have z : eqD (.lst ds) (.lst es) = false := eqDs_len hl
      rw [z] at q
      exact q
  · obtain ⟨a, xs, rfl, q1, r⟩ := h1
    obtain ⟨b, ys, rfl, q2, r'⟩ := h2
    cases rx
    cases ry
    obtain ⟨i1, v1, p1, _⟩ := I.tuple q1
    obtain ⟨i2, v2, p2, _⟩ := I.tuple q2
    have l1 := r.length
    have l2 := r'.length
    have m1 := v1.length
    have m2 := v2.length
    have hd' : dpDs ds + 1 ≤ 50 := hd
    refine SeqAt.eq_tupleAt (e := eqAtI ds es) p1 p2 hu' (fun j g1 g2 => eqAt_Ds I ds es X.A.in1 xs ys i1 i2 (by show X.A.units + 1 + dpDs ds < cLine; omega) r r' v1 v2 j (by simpa using g1) (by simpa using g2)) ⟨.bl _, H, I, rfl, ?_⟩
    have zz : ((List.range (min i1.toArray.size i2.toArray.size)).all (eqAtI ds es) && i1.toArray.size == i2.toArray.size) = eqDs ds es := by
      rw [List.size_toArray, List.size_toArray, ← m1, ← m2, ← l1, ← l2]
      by_cases hl : ds.length = es.length
      · rw [hl, Nat.min_self, ← hl, all_eqAtI hl]; simp [hl]
      · rw [eqDs_len hl, beq_eq_false_iff_ne.mpr hl, Bool.and_false]
    rw [zz]
    exact q
theorem op_neS (hr : X.A.units + 64 < cLine) : OpR X (compareOp .NotEq) (rEqS X.K true) := by
  intro pins s σ H x y v u Q I rx ry h
  obtain ⟨d, e, hk, h1, h2, hd, q⟩ := h
  have hu' : X.A.units < cLine := by omega
  rcases hk with ⟨ds, es, rfl, rfl⟩ | ⟨ds, es, rfl, rfl⟩
  · obtain ⟨a, xs, rfl, q1, r⟩ := h1
    obtain ⟨b, ys, rfl, q2, r'⟩ := h2
    cases rx
    cases ry
    obtain ⟨i1, v1, p1, _⟩ := I.list q1
    obtain ⟨i2, v2, p2, _⟩ := I.list q2
    have l1 := r.length
    have l2 := r'.length
    have m1 := v1.length
    have m2 := v2.length
    have hd' : dpDs ds + 1 ≤ 50 := hd
    by_cases hl : ds.length = es.length
    · refine SeqAt.RcNeAt.lists (e := eqAtI ds es) p1.isList p2.isList (by simp; omega) hu' (fun j g1 g2 => eqAt_Ds I ds es X.A.in1 xs ys i1 i2 (by show X.A.units + 1 + dpDs ds < cLine; omega) r r' v1 v2 j (by simpa using g1) (by simpa using g2)) _ _ _ _ ?_
      rw [List.size_toArray, ← m1, ← l1, all_eqAtI hl]
      exact ⟨.bl _, H, I, rfl, q⟩
    · refine SeqAt.RcNeAt.lists_lengths p1.isList p2.isList (by simp; omega) hu' _ _ _ _ ⟨.bl _, H, I, rfl, ?_⟩
      have z : eqD (.lst ds) (.lst es) = false := eqDs_len hl
      rw [z] at q
      exact q
  · obtain ⟨a, xs, rfl, q1, r⟩ := h1
    obtain ⟨b, ys, rfl, q2, r'⟩ := h2
    cases rx
    cases ry
    obtain ⟨i1, v1, p1, _⟩ := I.tuple q1
    obtain ⟨i2, v2, p2, _⟩ := I.tuple q2
    have l1 := r.length
    have l2 := r'.length
    have m1 := v1.length
    have m2 := v2.length
    have hd' : dpDs ds + 1 ≤ 50 := hd
    refine SeqAt.RcNeAt.tuples (e := eqAtI ds es) p1 p2 hu' (fun j g1 g2 => eqAt_Ds I ds es X.A.in1 xs ys i1 i2 (by show X.A.units + 1 + dpDs ds < cLine; omega) r r' v1 v2 j (by simpa using g1) (by simpa using g2)) _ _ _ _ ⟨.bl _, H, I, rfl, ?_⟩
    have zz : ((List.range (min i1.toArray.size i2.toArray.size)).all (eqAtI ds es) && i1.toArray.size == i2.toArray.size) = eqDs ds es := by
      rw [List.size_toArray, List.size_toArray, ← m1, ← m2, ← l1, ← l2]
      by_cases hl : ds.length = es.length
      · rw [hl, Nat.min_self, ← hl, all_eqAtI hl]; simp [hl]
      · rw [eqDs_len hl, beq_eq_false_iff_ne.mpr hl, Bool.and_false]
    rw [zz]
    exact q
end
end L2
namespace L2
open PySem PySem.Spec PyProof.Rows
structure FunD (K : PySem.W.Frag) (x qual : Str) (st : Stmt) (dV : Value) (f : Addr) (fd : FuncData) : Prop where
  ex : ∃ (oc : Value) (od : Option Addr) (kV doc pm : Value) (an : Option Addr) (cdv ct : Value) (osl : Array (Option Value)),
    fd = PySem.W.fnOf x qual (defArgs st) (defBody st) (defScope st) dV kV doc pm an cdv ct ∧ K.lookup f = some ⟨oc, od, .func fd, osl⟩ ∧ PySem.W.codeIn K cdv qual = true
  kp : PySem.W.keepIn K (.ref f) = true
structure Kn (P : Program) (w : World) (K : PySem.W.Frag) (mg : Str → Option Value) (base : Heap) (CX : CXT) (k : Nat) (x : Str) (f : Addr) (fd : FuncData) (ps : List Str) (sp : Sp) : Prop where
  ok : FnOk P w K mg base CX k f fd ps sp
  mgx : mg x = some (.ref f)
  kp : PySem.W.keepIn K (.ref f) = true
  bd : Binds K fd ps []
section
variable {P : Program} {w : World} {K : PySem.W.Frag} {mg : Str → Option Value} {base : Heap}
theorem FunD.ok {x qual : Str} {st : Stmt} {dV : Value} {f : Addr} {fd : FuncData} {N ps : List Str} {k : Nat} {sp : Sp} (F : FunD K x qual st dV f fd) (S : FnScope N ps (defScope st)) (len : ∀ vs H Q E, sp vs H Q E → vs.length = ps.length)
    (hbody : ∀ (cdv : Value) (A : Around) (outer : List Env) (s : Shared) (H : Hp) (vs : List V) (Q : VK) (E : XK), Room k (A.deeper (envOfC qual (defScope st) s.heap.objs.size f cdv)) → sp vs H Q E →
      ∃ t, PSs (cxOf CX0 P w K mg base N qual (defScope st) f cdv A outer s H E).nox (defBody st) t ∧ t { nx := fun _ H' => Q .non H', rt := Q } (start N vs) H) : FnOk P w K mg base CX0 (k + 1) f fd ps sp := by
  obtain ⟨oc, od, kV, doc, pm, an, cdv, ct, osl, rfl, lk, hcd⟩ := F.ex
  refine fn_of lk hcd S len fun A outer s H vs Q E hr hsp => ?_
  obtain ⟨t, h, q⟩ := hbody cdv A outer s H vs Q E hr hsp
  exact ⟨t, h.nox, q⟩
end
section
variable {X : Cx} {CX : CXT} {k : Nat} {f : Addr} {fd : FuncData} {ps : List Str} {sp : Sp} {E : XK} {x : Str} {p pos : Pos} {e : Expr} {es : List Expr} {t : TA}
theorem pe_kn (F : Kn X.prog X.w X.K X.mg X.base CX0 k x f fd ps sp) (hr : Room k X.A) (hg : Gl X x) (ha : PA X (e :: es) t) (hdb : (x == ("__debug__" : Str)) = false := by decide)
    (he : starEach (e :: es) X.env = (false, eval e X.env) :: starEach es X.env := by rfl) (hpl : (backTo pos (starEach es X.env)).any (·.1) = false := by rfl) :
    PE X (.Call (.Name x p) (e :: es) [] pos) (tCall sp [] E0 t) := pe_call F.ok hr hg F.mgx F.kp F.bd .nil pass0 ha hdb he hpl
end
section
variable {K : PySem.W.Frag} {g : TG} {tb : TS} {D : Ends} {σ : St} {H : Hp}
theorem tFor_list {tl : TE} {a : Addr} {xs : List V} (hl : tl σ H (fun x H1 => x = .ref a ∧ H1 = H)) (hm : ∀ Q : VK, Q (.ref a) H → tl σ H Q) (hx : SqL K H a xs) (Pv : Nat → St → Hp → Prop) (h0 : Pv 0 σ H) (hk : ∀ i σ H, i ≤ xs.length → Pv i σ H → SqL K H a xs)
    (hs : ∀ i x σ H, xs[i]? = some x → Pv i σ H → g x σ H fun σ2 H2 => tb { D with nx := Pv (i + 1), ct := Pv (i + 1), bk := D.nx } σ2 H2) (hd : ∀ σ H, Pv xs.length σ H → D.nx σ H) : tFor (iList K tl) g tb D σ H :=
  hm _ ⟨a, rfl, ⟨xs, hx⟩, for_list Pv h0 hk hs hd⟩
theorem tFor_name {j : Nat} {a : Addr} {xs : List V} (hj : σ[j]? = some (some (.ref a))) (hx : SqL K H a xs) (Pv : Nat → St → Hp → Prop) (h0 : Pv 0 σ H) (hk : ∀ i σ H, i ≤ xs.length → Pv i σ H → SqL K H a xs)
    (hs : ∀ i x σ H, xs[i]? = some x → Pv i σ H → g x σ H fun σ2 H2 => tb { D with nx := Pv (i + 1), ct := Pv (i + 1), bk := D.nx } σ2 H2) (hd : ∀ σ H, Pv xs.length σ H → D.nx σ H) : tFor (iList K (tVar j)) g tb D σ H :=
  ⟨_, hj, a, rfl, ⟨xs, hx⟩, for_list Pv h0 hk hs hd⟩
end
def rCatL (K : PySem.W.Frag) : R2 := fun x y H Q => ∃ l b xs zs, x = .ref l ∧ y = .ref b ∧ SqL K H l xs ∧ SqL K H b zs ∧ xs.length + zs.length ≤ sizeLine ∧ ∀ p, H p = none → Q (.ref p) (upd H p (.lst (xs ++ zs)))
end L2
namespace L2
open PySem PySem.Spec PyProof.Rows
section
variable {Y : Cx} {c : Expr} {tt : TT}
theorem lc_t0 (pins : List (Addr × Obj)) (s1 : Shared) (σ1 : St) (H1 : Hp) (Q : Bool → Hp → Prop) (I : Inv Y pins σ1 H1 s1) (h : Q true H1) : wpAny (model Y.prog Y.w) Y.A (lcTests [] Y.env) (TP Y pins σ1 Q) NoX s1 :=
  wpAny_pure ⟨H1, I, h⟩
theorem lc_t1 (ht : PT Y c tt) (hx : Y.xe = NoX) (pins : List (Addr × Obj)) (s1 : Shared) (σ1 : St) (H1 : Hp) (Q : Bool → Hp → Prop) (I : Inv Y pins σ1 H1 s1) (h : tt σ1 H1 Q) : wpAny (model Y.prog Y.w) Y.A (lcTests [c] Y.env) (TP Y pins σ1 Q) NoX s1 := by
  have z := ht pins s1 σ1 H1 Q I h
  rw [hx] at z
  unfold lcTests
  rw [List.forIn_cons]
  simp only [if_true]
  refine wpAny_bind (wpAny_bind (thn z fun b s2 q => wpAny_pure ?_))
  exact wpAny_pure q
end
def tNoTest : TT := fun _ H Q => Q true H
section
variable {K : PySem.W.Frag} {g : TG} {tb : TS} {D : Ends} {σ : St} {H : Hp}
end
section
variable {X : Cx} {e st : Expr} {te ts : TE} {p2 pos : Pos}
end
section
variable {X : Cx}
theorem op_catL : OpR X (binaryOp .Add) (rCatL X.K) := by
  intro pins s σ H x y v u Q I rx ry h
  obtain ⟨l, b, xs, zs, rfl, rfl, hH, hB, hz, q⟩ := h
  cases rx
  cases ry
  obtain ⟨its, r, ⟨⟨cl, dd, da, sl⟩, n, e, c1, c2, d1⟩, z⟩ := I.list hH
  obtain ⟨its2, r2, ⟨⟨cl2, dd2, da2, sl2⟩, n2, e2, c3, c4, d2⟩, z2⟩ := I.list hB
  simp only at c1 d1 c3 d2
  subst c1 d1 c3 d2
  have l1 := r.length
  have l2 := r2.length
  refine concat_meets ⟨_, e, rfl⟩ ⟨_, e2, rfl⟩ noFill_list_add seq_list_add PySem.F.slot_list_add PySem.F.entry_list_add (PySem.F.args_list_add_2 _ _) (list_addW l b its.toArray its2.toArray n n2 dd dd2 sl sl2 (by simp; omega)) ⟨e, e2, ?_⟩
  have ea : its.toArray ++ its2.toArray = (its ++ its2).toArray := by simp
  rw [ea]
  exact ⟨.ref _, _, I.lnew (t' := s.toks) (r.append r2) (by rw [List.length_append]; omega), rfl, q _ I.fresh⟩
end
end L2
namespace L2
open PySem
theorem bt_isinstance : bootBuiltins "isinstance" = some (.builtin "isinstance") := by decide +kernel
theorem bt_len : bootBuiltins "len" = some (.builtin "len") := by decide +kernel
theorem bt_sum : bootBuiltins "sum" = some (.builtin "sum") := by decide +kernel
theorem bt_min : bootBuiltins "min" = some (.builtin "min") := by decide +kernel
theorem bt_max : bootBuiltins "max" = some (.builtin "max") := by decide +kernel
theorem bt_sorted : bootBuiltins "sorted" = some (.builtin "sorted") := by decide +kernel
theorem bt_int : bootBuiltins "int" = some (.type "int") := by decide +kernel
theorem bt_bool : bootBuiltins "bool" = some (.type "bool") := by decide +kernel
theorem bt_str : bootBuiltins "str" = some (.type "str") := by decide +kernel
theorem bt_list : bootBuiltins "list" = some (.type "list") := by decide +kernel
theorem bt_tuple : bootBuiltins "tuple" = some (.type "tuple") := by decide +kernel
theorem bt_enumerate : bootBuiltins "enumerate" = some (.type "enumerate") := by decide +kernel
end L2
namespace L2
open PySem PySem.Spec PyProof.Rows
def closF (cells : List (Str × Addr)) : List (Str × NameKind) → List (Str × Addr) → List (Str × Addr)
  | [], cs => cs
  | (n, k) :: r, cs => closF cells r (if k == .free then (n, (cells.lookup n).getD 0) :: cs else cs)
theorem clos_eq {sc : Scope} {env : Env} (h : ∀ p ∈ sc.names, p.2 = .free → ∃ c, env.cells.lookup p.1 = some c) : closureFor sc env = pure (closF env.cells sc.names []) := by
  have key : ∀ (names : List (Str × NameKind)) (cs : List (Str × Addr)), (∀ p ∈ names, p.2 = .free → ∃ c, env.cells.lookup p.1 = some c) →
      (forIn names cs fun x t => match x with
        | (name, kind) => if (kind == NameKind.free) = true then do
              let a ← cellOf env name
              pure (ForInStep.yield ((name, a) :: t))
            else pure (ForInStep.yield t)) = (pure (closF env.cells names cs) : Sem (List (Str × Addr))) := by
    intro names
    induction names with
    | nil => intro cs _; rfl
    | cons p r ih =>
      intro cs hp
      obtain ⟨n, k⟩ := p
      rw [List.forIn_cons]
      cases hk : k == NameKind.free with
      | true =>
        obtain ⟨c, hc⟩ := hp (n, k) (.head _) (beq_iff_eq.mp hk)
        have hc' : env.cells.lookup n = some c := hc
        have e1 : cellOf env n = pure c := by unfold cellOf; rw [hc']
        have e2 : closF env.cells ((n, k) :: r) cs = closF env.cells r ((n, c) :: cs) := by
          show closF env.cells r (if (k == NameKind.free) = true then _ else _) = _
          rw [hk, hc', if_pos rfl]
          rfl
        rw [e2, ← ih ((n, c) :: cs) fun q hq => hp q (.tail _ hq)]
        simp only [hk, if_true, e1]
        rfl
      | false =>
        have e2 : closF env.cells ((n, k) :: r) cs = closF env.cells r cs := by
          show closF env.cells r (if (k == NameKind.free) = true then _ else _) = _
          rw [hk, if_neg (by decide)]
        rw [e2, ← ih cs fun q hq => hp q (.tail _ hq)]
        simp only [hk, Bool.false_eq_true, if_false]
        rfl
  simp only [closureFor]
  rw [key sc.names [] h]
  rfl
theorem closF_sub {cells : List (Str × Addr)} : ∀ (names : List (Str × NameKind)) (cs : List (Str × Addr)), (∀ p ∈ names, p.2 = .free → ∃ c, cells.lookup p.1 = some c) → (∀ y c, cs.lookup y = some c → cells.lookup y = some c) →
    ∀ y c, (closF cells names cs).lookup y = some c → cells.lookup y = some c
  | [], _, _, h => h
  | (n, k) :: r, cs, hp, h => by
    refine closF_sub r _ (fun q hq => hp q (.tail _ hq)) fun y c e => ?_
    split at e
    · rename_i hk
      obtain ⟨c0, hc⟩ := hp (n, k) (.head _) (beq_iff_eq.mp hk)
      have hc' : cells.lookup n = some c0 := hc
      rw [List.lookup_cons] at e
      split at e
      · rename_i hy
        have : y = n := beq_iff_eq.mp hy
        subst this
        rw [hc'] at e
        cases e
        exact hc'
      · exact h y c e
    · exact h y c e
theorem closF_keep {cells : List (Str × Addr)} : ∀ (names : List (Str × NameKind)) (cs : List (Str × Addr)) (y : Str), (∃ c, cs.lookup y = some c) → ∃ c, (closF cells names cs).lookup y = some c
  | [], _, _, h => h
  | (n, k) :: r, cs, y, ⟨c, h⟩ => by
    refine closF_keep r _ y ?_
    split
    · rw [List.lookup_cons]
      split
      · exact ⟨_, rfl⟩
      · exact ⟨c, h⟩
    · exact ⟨c, h⟩
theorem closF_has {cells : List (Str × Addr)} : ∀ (names : List (Str × NameKind)) (cs : List (Str × Addr)) (y : Str), (y, NameKind.free) ∈ names → ∃ c, (closF cells names cs).lookup y = some c
  | [], _, _, h => nomatch h
  | (n, k) :: r, cs, y, h => by
    rcases List.mem_cons.mp h with e | h
    · have e1 : y = n := congrArg (·.1) e
      have e2 : NameKind.free = k := congrArg (·.2) e
      subst e1 e2
      refine closF_keep r _ _ ?_
      rw [if_pos (by decide), List.lookup_cons_self]
      exact ⟨_, rfl⟩
    · exact closF_has r _ y h
theorem mem_of_lookup {κ β : Type} [BEq κ] [LawfulBEq κ] {l : List (κ × β)} {y : κ} {k : β} (h : l.lookup y = some k) : (y, k) ∈ l := by
  induction l with
  | nil => cases h
  | cons p r ih =>
    obtain ⟨n, b⟩ := p
    rw [List.lookup_cons] at h
    split at h
    · rename_i hy
      have : y = n := beq_iff_eq.mp hy
      subst this
      cases h
      exact .head _
    · exact .tail _ (ih h)
section
variable {CX : CXT} {P : Program} {w : World} {K : PySem.W.Frag} {mg : Str → Option Value} {base : Heap} {N : List Str} {qual : Str} {sc0 : Scope} {f : Addr} {cd : Value} {A : Around} {outer : List Env} {s : Shared} {H : Hp} {E : XK} {XE : Value → Shared → Prop}
structure LcNames (N : List Str) (sc0 sc : Scope) (fr : List Nat) : Prop where
  kind : sc.kind = .function
  kind0 : sc0.kind = .function
  nocell : ∀ y ∈ sc.names, y.2 ≠ .cell
  loc : ∀ y ∈ sc.names, y.2 = .local → sc.names.lookup y.1 = some .local
  fre : ∀ y ∈ sc.names, y.2 = .free → sc0.names.lookup y.1 = some .cell
  frs : ∀ j ∈ fr, sc.names.lookup (N.getD j "") = some .free ∧ j < N.length
theorem lookup_relabel {env : Env} : ∀ {names : List (Str × NameKind)} {y : Str} {k : NameKind}, (names.map fun (n, k) => if (k == NameKind.free && env.scope.kind == .function && env.kindOf n == some .cell) then (n, NameKind.cell) else (n, k)).lookup y = some k →
    ∃ k0, names.lookup y = some k0 ∧ (k = k0 ∨ (k = .cell ∧ k0 = .free))
  | [], _, _, h => by cases h
  | (n, k0) :: r, y, k, h => by
    rw [List.map_cons] at h
    simp only at h
    split at h
    · rename_i hc
      rw [List.lookup_cons] at h ⊢
      split at h
      · cases h
        simp only [Bool.and_eq_true, beq_iff_eq] at hc
        exact ⟨k0, rfl, .inr ⟨rfl, hc.1.1⟩⟩
      · exact lookup_relabel h
    · rw [List.lookup_cons] at h ⊢
      split at h
      · cases h
        exact ⟨k0, rfl, .inl rfl⟩
      · exact lookup_relabel h
theorem lookup_relabel_free {env : Env} : ∀ {names : List (Str × NameKind)} {y : Str}, names.lookup y = some .free →
    (names.map fun (n, k) => if (k == NameKind.free && env.scope.kind == .function && env.kindOf n == some .cell) then (n, NameKind.cell) else (n, k)).lookup y = some .cell ∨
    (names.map fun (n, k) => if (k == NameKind.free && env.scope.kind == .function && env.kindOf n == some .cell) then (n, NameKind.cell) else (n, k)).lookup y = some .free
  | [], _, h => by cases h
  | (n, k0) :: r, y, h => by
    rw [List.map_cons]
    rw [List.lookup_cons] at h
    simp only
    split at h
    · rename_i hy
      cases h
      split
      · left; rw [List.lookup_cons, hy]
      · right; rw [List.lookup_cons, hy]
    · rename_i hy
      split
      · rw [List.lookup_cons, hy]; exact lookup_relabel_free h
      · rw [List.lookup_cons, hy]; exact lookup_relabel_free h
structure LcNamesC (N : List Str) (sc0 sc : Scope) (fr : List Nat) : Prop where
  kind : sc.kind = .function
  kind0 : sc0.kind = .function
  own : ∀ y ∈ sc.names, y.2 = .cell → ∀ z ∈ sc.names, z.2 = .free → z.1 ≠ y.1
  loc : ∀ y ∈ sc.names, y.2 = .local → sc.names.lookup y.1 = some .local
  fre : ∀ y ∈ sc.names, y.2 = .free → sc0.names.lookup y.1 = some .cell
  frs : ∀ j ∈ fr, sc.names.lookup (N.getD j "") = some .free ∧ j < N.length
theorem closF_none {cells : List (Str × Addr)} : ∀ (names : List (Str × NameKind)) (cs : List (Str × Addr)) (y : Str), (∀ z ∈ names, z.2 = .free → z.1 ≠ y) → cs.lookup y = none → (closF cells names cs).lookup y = none
  | [], _, _, _, h => h
  | (n, k) :: r, cs, y, hn, h => by
    refine closF_none r _ y (fun z hz => hn z (.tail _ hz)) ?_
    split
    · rename_i hk
      have hne : n ≠ y := hn (n, k) (.head _) (beq_iff_eq.mp hk)
      have hb : (y == n) = false := beq_eq_false_iff_ne.mpr fun e => hne e.symm
      rw [List.lookup_cons, hb]
      exact h
    · exact h
theorem lookup_relabel_cell {env : Env} : ∀ {names : List (Str × NameKind)} {y : Str}, names.lookup y = some .cell →
    (names.map fun (n, k) => if (k == NameKind.free && env.scope.kind == .function && env.kindOf n == some .cell) then (n, NameKind.cell) else (n, k)).lookup y = some .cell
  | [], _, h => by cases h
  | (n, k0) :: r, y, h => by
    rw [List.map_cons]
    rw [List.lookup_cons] at h
    simp only
    split at h
    · rename_i hy
      cases h
      rw [if_neg (by intro z; rw [Bool.and_eq_true, Bool.and_eq_true] at z; exact absurd z.1.1 (by decide)), List.lookup_cons, hy]
    · rename_i hy
      split
      · rw [List.lookup_cons, hy]; exact lookup_relabel_cell h
      · rw [List.lookup_cons, hy]; exact lookup_relabel_cell h
theorem lcsC {sc : Scope} {fr : List Nat} (L : LcNamesC N sc0 sc fr) : LcScope ((cxOf CX P w K mg base N qual sc0 f cd A outer s H E).wish XE) sc (closF (cellsFrom (s.heap.objs.size + 1) sc0.names []) sc.names []) fr := by
  have hfree : ∀ p ∈ sc.names, p.2 = .free → ∃ c, (cellsFrom (s.heap.objs.size + 1) sc0.names []).lookup p.1 = some c := fun p hp e => cell_has (L.fre p hp e)
  refine ⟨clos_eq hfree, L.kind, fun y hy => closF_none _ _ y (L.own _ hy rfl) rfl, L.loc, closF_sub _ _ hfree (fun _ _ e => nomatch e), fun y hy => ?_, fun j hj => ?_⟩
  · have hk : sc.names.lookup y = some .free ∨ sc.names.lookup y = some .cell := by
      rcases hy with hy | hy
      · obtain ⟨k0, h1, h2⟩ := lookup_relabel hy
        rcases h2 with h2 | ⟨_, h2⟩
        · rw [← h2] at h1; exact .inr h1
        · rw [h2] at h1; exact .inl h1
      · obtain ⟨k0, h1, h2⟩ := lookup_relabel hy
        rcases h2 with h2 | ⟨h2, _⟩
        · rw [← h2] at h1; exact .inl h1
        · cases h2
    exact hk.imp (fun q => closF_has _ _ y (mem_of_lookup q)) mem_of_lookup
  · obtain ⟨h1, h2⟩ := L.frs j hj
    have hm := mem_of_lookup h1
    have h3 := L.fre _ hm rfl
    refine ⟨N.getD j "", ?_, ?_, .inr (.inl h3), ?_, closF_has _ _ _ hm⟩
    · show N[j]? = some (N.getD j "")
      rw [List.getD_eq_getElem?_getD, List.getElem?_eq_getElem h2]
      rfl
    · exact lookup_relabel_free h1
    · intro z
      have z' : sc0.names.lookup (N.getD j "") = some .local := z
      have h3' : sc0.names.lookup (N.getD j "") = some .cell := h3
      rw [h3'] at z'
      cases z'
theorem lcs {sc : Scope} {fr : List Nat} (L : LcNames N sc0 sc fr) : LcScope ((cxOf CX P w K mg base N qual sc0 f cd A outer s H E).wish XE) sc (closF (cellsFrom (s.heap.objs.size + 1) sc0.names []) sc.names []) fr :=
  lcsC ⟨L.kind, L.kind0, fun y hy e => absurd e (L.nocell y hy), L.loc, L.fre, L.frs⟩
end
structure LcNames2 (N : List Str) (sc0 sc : Scope) (fr : List Nat) : Prop where
  kind : sc.kind = .function
  own : ∀ y ∈ sc.names, y.2 = .cell → ∀ z ∈ sc.names, z.2 = .free → z.1 ≠ y.1
  loc : ∀ y ∈ sc.names, y.2 = .local → sc.names.lookup y.1 = some .local
  fre : ∀ y ∈ sc.names, y.2 = .free → sc0.names.lookup y.1 = some .cell ∨ sc0.names.lookup y.1 = some .free
  frs : ∀ j ∈ fr, sc.names.lookup (N.getD j "") = some .free ∧ j < N.length
theorem lcs2 {X : Cx} {own0 : List Str} {fr0 : List Nat} {sc0 : Scope} {cl0 : List (Str × Addr)} {C : Addr} {s : Shared} {H : Hp} {ex : List Addr} {pn : List (Addr × Obj)} {sc : Scope} {fr : List Nat}
    (L : LcNames2 (own0 ++ fr0.map fun j => X.N.getD j "") sc0 sc fr) (hcl : ∀ y, (y, NameKind.free) ∈ sc0.names → ∃ c, cl0.lookup y = some c) :
    LcScope (cxLc X own0 fr0 sc0 cl0 C s H ex pn) sc (closF (cellsFrom (C + 1) sc0.names cl0) sc.names []) fr := by
  have hfree : ∀ p ∈ sc.names, p.2 = .free → ∃ c, (cellsFrom (C + 1) sc0.names cl0).lookup p.1 = some c := fun p hp e => by
    rcases L.fre p hp e with q | q
    · exact cf_has _ _ _ _ (mem_of_lookup q)
    · exact cf_some _ _ _ _ (hcl _ (mem_of_lookup q))
  refine ⟨clos_eq hfree, L.kind, fun y hy => closF_none _ _ y (L.own _ hy rfl) rfl, L.loc, closF_sub _ _ hfree (fun _ _ e => nomatch e), fun y hy => ?_, fun j hj => ?_⟩
  · have hk : sc.names.lookup y = some .free ∨ sc.names.lookup y = some .cell := by
      rcases hy with hy | hy
      · obtain ⟨k0, h1, h2⟩ := lookup_relabel hy
        rcases h2 with h2 | ⟨_, h2⟩
        · rw [← h2] at h1; exact .inr h1
        · rw [h2] at h1; exact .inl h1
      · obtain ⟨k0, h1, h2⟩ := lookup_relabel hy
        rcases h2 with h2 | ⟨h2, _⟩
        · rw [← h2] at h1; exact .inl h1
        · cases h2
    exact hk.imp (fun q => closF_has _ _ y (mem_of_lookup q)) mem_of_lookup
  · obtain ⟨h1, h2⟩ := L.frs j hj
    have hm := mem_of_lookup h1
    have hv : (relabel sc0 X.env).names.lookup ((own0 ++ fr0.map fun j => X.N.getD j "").getD j "") = some .cell ∨ (relabel sc0 X.env).names.lookup ((own0 ++ fr0.map fun j => X.N.getD j "").getD j "") = some .free := by
      rcases L.fre _ hm rfl with q | q
      · exact .inl (lookup_relabel_cell q)
      · exact lookup_relabel_free q
    refine ⟨_, ?_, lookup_relabel_free h1, .inr hv, fun z => ?_, closF_has _ _ _ hm⟩
    · show (own0 ++ fr0.map fun j => X.N.getD j "")[j]? = some _
      rw [List.getD_eq_getElem?_getD, List.getElem?_eq_getElem h2]
      rfl
    · have z' : (relabel sc0 X.env).names.lookup ((own0 ++ fr0.map fun j => X.N.getD j "").getD j "") = some .local := z
      rcases hv with q | q <;> rw [q] at z' <;> cases z'
section
variable {g : TG} {tb : TS} {D : Ends} {σ : St} {H : Hp} {ta : TA}
end
section
variable {X : Cx} {K : PySem.W.Frag}
theorem ix_tupK (h : X.K = K) : IxR X (rIxT K) := h ▸ ix_tup
theorem ix_listK (h : X.K = K) : IxR X (rIxL K) := h ▸ ix_list
theorem call_lenK (h : X.K = K) : CallR X (.builtin "len") (fun xs H Q => ∃ p ys, xs = [.ref p] ∧ (SqL K H p ys ∨ SqT K H p ys) ∧ Q (.int ys.length) H) := h ▸ call_len_seq
end
end L2
namespace L2
open PySem PySem.Spec PyProof.Rows
section
variable {P : Program} {w : World} {outer : List Env} {H H' : Hp} {s s' : Shared} {x C : Addr}
end
section
variable {X : Cx} {pins : List (Addr × Obj)} {σ : St} {H H' : Hp} {s s' : Shared}
end
section
variable {P : Program} {w : World} {K : PySem.W.Frag} {mg : Str → Option Value} {base : Heap} {N : List Str} {qual : Str} {sc : Scope} {f : Addr} {cd : Value} {A : Around} {outer : List Env} {s : Shared} {H : Hp} {E : XK}
end
end L2
namespace L2
open PySem PySem.Spec PyProof.Rows
section
variable {X : Cx} {E : XK} {C : Addr} {x : Str} {np cpos pos : Pos} {e₀ : Expr} {rest : List Expr} {ta : TA}
end
section
variable {X : Cx} {CX : CXT} {k : Nat} {f : Addr} {fd : FuncData} {ps : List Str} {sp : Sp} {dvs : List V} {ds : List Value} {E : St → XK} {x : Str} {p pos : Pos} {e : Expr} {es : List Expr} {t : TA}
end
section
variable {X : Cx} {D : Addr} {i : Nat} {n x : Str} {np hpos pos : Pos} {body suite : List Stmt} {b₀ : Stmt} {tb : (St → XK) → TS} {th : TS} {L : Addr} {outer : List Env}
end
end L2
namespace L2
open PySem PySem.Spec PyProof.Rows PySem.W PySem.Builtin PySem.Builtin.ObjectAttr PySem.Builtin.Getset_descriptor
section
variable {K : PySem.W.Frag} {x C : Addr}
variable {prog : Program} {w : World} {A : Around} {E : Value → Shared → Prop} {s : Shared}
end
section
variable {X : Cx}
end
end L2
namespace L2
open PySem PySem.Spec PyProof.Rows
theorem Same.tup {K : PySem.W.Frag} {H H' : Hp} {a : Addr} {xs : List V} (e : Same H H') (h : SqT K H a xs) : SqT K H' a xs := by
  rcases h with (h | ⟨o, h⟩) | h
  · exact .inl (.inl (e _ _ h))
  · exact .inl (.inr ⟨o, e _ _ h⟩)
  · exact .inr h
theorem Same.upd {H H' : Hp} {p : Addr} {o : HO} (e : Same H H') (hp : H p = none) : Same H (L2.upd H' p o) := fun b u h => by
  rw [upd_ne (ne_of_none h hp)]; exact e b u h
theorem Same.new {H : Hp} {p : Addr} {o : HO} (hp : H p = none) : Same H (L2.upd H p o) := (Same.refl H).upd hp
theorem small_lt {a : Int} (h0 : 0 ≤ a) (h : a < 2 ^ 60) : a.natAbs < 2 ^ 8000 := by
  have big : (2 : Nat) ^ 60 < 2 ^ 8000 := Nat.pow_lt_pow_right (by decide) (by decide)
  omega
section
variable {P : Program} {w : World} {K : PySem.W.Frag} {mg : Str → Option Value} {base : Heap}
theorem Fun.d {x qual : Str} {st : Stmt} {f : Addr} {fd : FuncData} (F : Fun K x qual st f fd) : FunD K x qual st .none f fd := ⟨F.ex, F.kp⟩
end
end L2
namespace L2
open PySem
section
variable {X : Cx}
end
end L2
namespace L2
open PySem PySem.Spec PyProof.Rows
section
variable {X : Cx} {tg : Expr}
end
end L2
namespace L2
open PySem PySem.Spec PyProof.Rows
inductive Tr where
  | fz (d : Dv)
  | ow (ts : List Tr)
  | tp (ts : List Tr)
mutual
def Ow (K : PySem.W.Frag) (G H : Hp) : Tr → V → List Addr → Prop
  | .fz d, v, fp => fp = [] ∧ Hv K G d v
  | .ow ts, v, fp => ∃ a vs fq, v = .ref a ∧ H a = some (.lst vs) ∧ OwL K G H ts vs fq ∧ fp = a :: fq
  | .tp ts, v, fp => ∃ a vs fq, v = .ref a ∧ H a = some (.tup vs) ∧ OwL K G H ts vs fq ∧ fp = a :: fq
def OwL (K : PySem.W.Frag) (G H : Hp) : List Tr → List V → List Addr → Prop
  | [], vs, fp => vs = [] ∧ fp = []
  | t :: ts, vs, fp => ∃ v r f1 f2, vs = v :: r ∧ fp = f1 ++ f2 ∧ Ow K G H t v f1 ∧ OwL K G H ts r f2
end
mutual
def er : Tr → Dv
  | .fz d => d
  | .ow ts => .lst (ers ts)
  | .tp ts => .tup (ers ts)
def ers : List Tr → List Dv
  | [] => []
  | t :: ts => er t :: ers ts
end
theorem ers_map : ∀ ts : List Tr, ers ts = ts.map er
  | [] => rfl
  | t :: ts => by rw [ers, ers_map ts]; rfl
mutual
theorem Hv.mono {K : PySem.W.Frag} {G G' : Hp} (e : Same G G') : ∀ {d : Dv} {v : V}, Hv K G d v → Hv K G' d v
  | .fl _, _, h => h
  | .lst ds, _, ⟨a, xs, h1, h2, h3⟩ => ⟨a, xs, h1, e.seq h2, HvL.mono e h3⟩
  | .tup ds, _, ⟨a, xs, h1, h2, h3⟩ => ⟨a, xs, h1, e.tup h2, HvL.mono e h3⟩
theorem HvL.mono {K : PySem.W.Frag} {G G' : Hp} (e : Same G G') : ∀ {ds : List Dv} {vs : List V}, HvL K G ds vs → HvL K G' ds vs
  | [], _, h => h
  | _ :: _, _, ⟨x, r, h1, h2, h3⟩ => ⟨x, r, h1, h2.mono e, HvL.mono e h3⟩
end
mutual
theorem Ow.mono {K : PySem.W.Frag} {G G' H H' : Hp} (e : Same G G') (e' : Same H H') : ∀ {t : Tr} {v : V} {fp : List Addr}, Ow K G H t v fp → Ow K G' H' t v fp
  | .fz _, _, _, ⟨h1, h2⟩ => ⟨h1, h2.mono e⟩
  | .ow _, _, _, ⟨a, vs, fq, h1, h2, h3, h4⟩ => ⟨a, vs, fq, h1, e' _ _ h2, OwL.mono e e' h3, h4⟩
  | .tp _, _, _, ⟨a, vs, fq, h1, h2, h3, h4⟩ => ⟨a, vs, fq, h1, e' _ _ h2, OwL.mono e e' h3, h4⟩
theorem OwL.mono {K : PySem.W.Frag} {G G' H H' : Hp} (e : Same G G') (e' : Same H H') : ∀ {ts : List Tr} {vs : List V} {fp : List Addr}, OwL K G H ts vs fp → OwL K G' H' ts vs fp
  | [], _, _, h => h
  | _ :: _, _, _, ⟨v, r, f1, f2, h1, h2, h3, h4⟩ => ⟨v, r, f1, f2, h1, h2, h3.mono e e', OwL.mono e e' h4⟩
end
mutual
theorem Ow.frame {K : PySem.W.Frag} {G H : Hp} {a : Addr} {o : HO} : ∀ {t : Tr} {v : V} {fp : List Addr}, Ow K G H t v fp → a ∉ fp → Ow K G (upd H a o) t v fp
  | .fz _, _, _, h, _ => h
  | .ow _, _, _, ⟨b, vs, fq, h1, h2, h3, h4⟩, n => by
    subst h4
    refine ⟨b, vs, fq, h1, ?_, OwL.frame h3 fun z => n (.tail _ z), rfl⟩
    rw [upd_ne fun z => n (by rw [z]; exact .head _)]
    exact h2
  | .tp _, _, _, ⟨b, vs, fq, h1, h2, h3, h4⟩, n => by
    subst h4
    refine ⟨b, vs, fq, h1, ?_, OwL.frame h3 fun z => n (.tail _ z), rfl⟩
    rw [upd_ne fun z => n (by rw [z]; exact .head _)]
    exact h2
theorem OwL.frame {K : PySem.W.Frag} {G H : Hp} {a : Addr} {o : HO} : ∀ {ts : List Tr} {vs : List V} {fp : List Addr}, OwL K G H ts vs fp → a ∉ fp → OwL K G (upd H a o) ts vs fp
  | [], _, _, h, _ => h
  | _ :: _, _, _, ⟨v, r, f1, f2, h1, h2, h3, h4⟩, n => by
    subst h2
    exact ⟨v, r, f1, f2, h1, rfl, h3.frame fun z => n (List.mem_append_left _ z), OwL.frame h4 fun z => n (List.mem_append_right _ z)⟩
end
mutual
theorem Ow.there {K : PySem.W.Frag} {G H : Hp} : ∀ {t : Tr} {v : V} {fp : List Addr}, Ow K G H t v fp → ∀ a ∈ fp, ∃ o, H a = some o
  | .fz _, _, _, ⟨h, _⟩, a, ha => by subst h; cases ha
  | .ow _, _, _, ⟨b, vs, fq, h1, h2, h3, h4⟩, a, ha => by
    subst h4
    rcases List.mem_cons.mp ha with rfl | ha
    · exact ⟨_, h2⟩
    · exact OwL.there h3 a ha
  | .tp _, _, _, ⟨b, vs, fq, h1, h2, h3, h4⟩, a, ha => by
    subst h4
    rcases List.mem_cons.mp ha with rfl | ha
    · exact ⟨_, h2⟩
    · exact OwL.there h3 a ha
theorem OwL.there {K : PySem.W.Frag} {G H : Hp} : ∀ {ts : List Tr} {vs : List V} {fp : List Addr}, OwL K G H ts vs fp → ∀ a ∈ fp, ∃ o, H a = some o
  | [], _, _, ⟨_, h⟩, a, ha => by subst h; cases ha
  | _ :: _, _, _, ⟨v, r, f1, f2, h1, h2, h3, h4⟩, a, ha => by
    subst h2
    rcases List.mem_append.mp ha with ha | ha
    · exact h3.there a ha
    · exact OwL.there h4 a ha
end
mutual
theorem Ow.hv {K : PySem.W.Frag} {G H G' : Hp} (e : Same G G') : ∀ {t : Tr} {v : V} {fp : List Addr}, Ow K G H t v fp → (∀ a ∈ fp, G' a = H a) → Hv K G' (er t) v
  | .fz _, _, _, ⟨_, h⟩, _ => h.mono e
  | .ow _, _, _, ⟨b, vs, fq, h1, h2, h3, h4⟩, q => by
    subst h4
    exact ⟨b, vs, h1, SqL.of ((q b (.head _)).trans h2), OwL.hv e h3 fun a ha => q a (.tail _ ha)⟩
  | .tp _, _, _, ⟨b, vs, fq, h1, h2, h3, h4⟩, q => by
    subst h4
    exact ⟨b, vs, h1, SqT.of ((q b (.head _)).trans h2), OwL.hv e h3 fun a ha => q a (.tail _ ha)⟩
theorem OwL.hv {K : PySem.W.Frag} {G H G' : Hp} (e : Same G G') : ∀ {ts : List Tr} {vs : List V} {fp : List Addr}, OwL K G H ts vs fp → (∀ a ∈ fp, G' a = H a) → HvL K G' (ers ts) vs
  | [], _, _, ⟨h, _⟩, _ => h
  | _ :: _, _, _, ⟨v, r, f1, f2, h1, h2, h3, h4⟩, q => by
    subst h2
    exact ⟨v, r, h1, h3.hv e fun a ha => q a (List.mem_append_left _ ha), OwL.hv e h4 fun a ha => q a (List.mem_append_right _ ha)⟩
end
theorem OwL.length {K : PySem.W.Frag} {G H : Hp} : ∀ {ts : List Tr} {vs : List V} {fp : List Addr}, OwL K G H ts vs fp → ts.length = vs.length
  | [], _, _, ⟨h, _⟩ => by subst h; rfl
  | _ :: _, _, _, ⟨v, r, f1, f2, h1, h2, h3, h4⟩ => by subst h1; rw [List.length_cons, List.length_cons, OwL.length h4]
theorem OwL.append {K : PySem.W.Frag} {G H : Hp} : ∀ {ts us : List Tr} {vs ws : List V} {f1 f2 : List Addr}, OwL K G H ts vs f1 → OwL K G H us ws f2 → OwL K G H (ts ++ us) (vs ++ ws) (f1 ++ f2)
  | [], us, _, ws, _, f2, ⟨h, h'⟩, q => by subst h h'; exact q
  | _ :: _, us, _, ws, _, f2, ⟨v, r, g1, g2, h1, h2, h3, h4⟩, q => by
    subst h1 h2
    exact ⟨v, r ++ ws, g1, g2 ++ f2, rfl, by rw [List.append_assoc], h3, OwL.append h4 q⟩
theorem HvL.owl {K : PySem.W.Frag} {G H : Hp} : ∀ {ds : List Dv} {vs : List V}, HvL K G ds vs → OwL K G H (ds.map .fz) vs []
  | [], _, h => ⟨h, rfl⟩
  | _ :: _, _, ⟨x, r, h1, h2, h3⟩ => ⟨x, r, [], [], h1, rfl, ⟨rfl, h2⟩, HvL.owl h3⟩
structure Step (G H G' H' : Hp) : Prop where
  g : Same G G'
  h : Same H H'
  s : Same G' H'
  n : ∀ a, G a = none → G' a ≠ none → H a = none
theorem Step.refl {G H : Hp} (s : Same G H) : Step G H G H := ⟨Same.refl _, Same.refl _, s, fun a h h' => absurd h h'⟩
theorem Step.trans {G H G1 H1 G2 H2 : Hp} (a : Step G H G1 H1) (b : Step G1 H1 G2 H2) : Step G H G2 H2 :=
  ⟨a.g.trans b.g, a.h.trans b.h, b.s, fun x h h' => by
    cases q : G1 x with
    | none => exact a.h.free (b.n x q h')
    | some o => exact a.n x h (by rw [q]; exact fun z => nomatch z)⟩
theorem Same.upd2 {G H : Hp} {p : Addr} {o : HO} (s : Same G H) : Same (L2.upd G p o) (L2.upd H p o) := fun b u h => by
  unfold L2.upd at h ⊢
  split
  · rename_i e; rw [if_pos e] at h; exact h
  · rename_i e; rw [if_neg e] at h; exact s b u h
theorem Step.new {G H : Hp} {p : Addr} {o : HO} (s : Same G H) (hp : H p = none) : Step G H (upd G p o) (upd H p o) :=
  ⟨Same.new (s.free hp), Same.new hp, s.upd2, fun a h h' => by
    by_cases e : a = p
    · subst e; exact hp
    · rw [upd_ne e] at h'; exact absurd h h'⟩
theorem Step.newO {G H : Hp} {p : Addr} {o : HO} (s : Same G H) (hp : H p = none) : Step G H G (upd H p o) :=
  ⟨Same.refl _, Same.new hp, s.trans (Same.new hp), fun a h h' => absurd h h'⟩
structure Nw (H G' : Hp) (fq : List Addr) : Prop where
  n : ∀ a ∈ fq, H a = none
  g : ∀ a ∈ fq, G' a = none
  d : fq.Nodup
theorem Nw.nil {H G : Hp} : Nw H G [] := ⟨fun _ h => (nomatch h), fun _ h => (nomatch h), .nil⟩
def Kv (K : PySem.W.Frag) (G H : Hp) (t : Tr) (Q : VK) : Prop := ∀ v G' H' fq, Step G H G' H' → Ow K G' H' t v fq → Nw H G' fq → Q v H'
theorem Kv.step {K : PySem.W.Frag} {G H G1 H1 : Hp} {t : Tr} {Q : VK} (k : Kv K G H t Q) (e : Step G H G1 H1) : Kv K G1 H1 t Q := fun v G' H' fq st o w =>
  k v G' H' fq (e.trans st) o ⟨fun a ha => e.h.free (w.n a ha), w.g, w.d⟩
def frzd (G H : Hp) (fq : List Addr) : Hp := fun a => if a ∈ fq then H a else G a
theorem frzd_in {G H : Hp} {fq : List Addr} {a : Addr} (h : a ∈ fq) : frzd G H fq a = H a := by unfold frzd; rw [if_pos h]
theorem frzd_out {G H : Hp} {fq : List Addr} {a : Addr} (h : a ∉ fq) : frzd G H fq a = G a := by unfold frzd; rw [if_neg h]
theorem frzd_same {G H : Hp} {fq : List Addr} (h : ∀ a ∈ fq, G a = none) : Same G (frzd G H fq) := fun b o e => by
  by_cases q : b ∈ fq
  · rw [h b q] at e; cases e
  · rw [frzd_out q]; exact e
theorem frzd_sub {G H : Hp} {fq : List Addr} (s : Same G H) : Same (frzd G H fq) H := fun b o e => by
  by_cases q : b ∈ fq
  · rw [frzd_in q] at e; exact e
  · rw [frzd_out q] at e; exact s b o e
theorem Step.frz {G H G' H' : Hp} {fq : List Addr} (e : Step G H G' H') (w : Nw H G' fq) : Step G H (frzd G' H' fq) H' :=
  ⟨e.g.trans (frzd_same w.g), e.h, frzd_sub e.s, fun a h h' => by
    by_cases q : a ∈ fq
    · exact w.n a q
    · rw [frzd_out q] at h'; exact e.n a h h'⟩
structure Fam (ι : Type) where
  cx : ι → Cx
  P : Program
  w : World
  K : PySem.W.Frag
  mg : Str → Option Value
  base : Heap
  room : Nat
  hP : ∀ i, (cx i).prog = P
  hw : ∀ i, (cx i).w = w
  hK : ∀ i, (cx i).K = K
  hm : ∀ i, (cx i).mg = mg
  hb : ∀ i, (cx i).base = base
  hr : ∀ i, Room room (cx i).A
  calm : ∀ i, (cx i).calm = true
abbrev En := List (Option Tr)
def RpD (K : PySem.W.Frag) (G : Hp) (ρ : En) (σ : St) : Prop := ∀ (j : Nat) (d : Dv), ρ[j]? = some (some (Tr.fz d)) → ∃ v, σ[j]? = some (some v) ∧ Hv K G d v
theorem RpD.mono {K : PySem.W.Frag} {G G' : Hp} {ρ : En} {σ : St} (e : Same G G') (r : RpD K G ρ σ) : RpD K G' ρ σ := fun j d h => by
  obtain ⟨v, h1, h2⟩ := r j d h
  exact ⟨v, h1, h2.mono e⟩
section
variable {ι : Type}
def Ev (F : Fam ι) (e : Expr) (ρ : En) (t : Tr) : Prop := ∃ τ : TE, (∀ i, PE (F.cx i) e τ) ∧ ∀ σ G H Q, Same G H → RpD F.K G ρ σ → Kv F.K G H t Q → τ σ H Q
def Et (F : Fam ι) (e : Expr) (ρ : En) (b : Bool) : Prop := ∃ τ : TT, (∀ i, PT (F.cx i) e τ) ∧ ∀ σ G H Q, Same G H → RpD F.K G ρ σ → (∀ G' H', Step G H G' H' → Q b H') → τ σ H Q
def EvA (F : Fam ι) (es : List Expr) (ρ : En) (ts : List Tr) : Prop := ∃ τ : TA, (∀ i, PA (F.cx i) es τ) ∧ ∀ σ G H Q, Same G H → RpD F.K G ρ σ →
  (∀ vs G' H' fq, Step G H G' H' → OwL F.K G' H' ts vs fq → Nw H G' fq → Q vs H') → τ σ H Q
variable {F : Fam ι} {e a b : Expr} {es : List Expr} {ρ : En} {t ta tb : Tr} {ts : List Tr}
theorem Ev.use (h : Ev F e ρ t) : ∃ τ : TE, (∀ i, PE (F.cx i) e τ) ∧ ∀ σ G H (Q : VK), Same G H → RpD F.K G ρ σ → (∀ v G' H', Step G H G' H' → Hv F.K G' (er t) v → Q v H') → τ σ H Q := by
  obtain ⟨τ, p, q⟩ := h
  refine ⟨τ, p, fun σ G H Q s r k => q σ G H Q s r fun v G' H' fq st o w => ?_⟩
  exact k v (frzd G' H' fq) H' (st.frz w) (o.hv (frzd_same w.g) fun a ha => frzd_in ha)
theorem Ev.fz (h : Ev F e ρ t) : Ev F e ρ (.fz (er t)) := by
  obtain ⟨τ, p, q⟩ := h.use
  exact ⟨τ, p, fun σ G H Q s r k => q σ G H Q s r fun v G' H' st hv => k v G' H' [] st ⟨rfl, hv⟩ .nil⟩
theorem Ev.as {d : Dv} (h : Ev F e ρ t) (ed : er t = d) : Ev F e ρ (.fz d) := ed ▸ h.fz
theorem EvA.use (h : EvA F es ρ ts) : ∃ τ : TA, (∀ i, PA (F.cx i) es τ) ∧ ∀ σ G H (Q : List V → Hp → Prop), Same G H → RpD F.K G ρ σ → (∀ vs G' H', Step G H G' H' → HvL F.K G' (ers ts) vs → Q vs H') → τ σ H Q := by
  obtain ⟨τ, p, q⟩ := h
  refine ⟨τ, p, fun σ G H Q s r k => q σ G H Q s r fun v G' H' fq st o w => ?_⟩
  exact k v (frzd G' H' fq) H' (st.frz w) (o.hv (frzd_same w.g) fun a ha => frzd_in ha)
theorem eva_nil : EvA F [] ρ [] := ⟨tNil, fun i => pa_nil, fun σ G H Q s r k => k [] G H [] (.refl s) ⟨rfl, rfl⟩ .nil⟩
theorem Nw.app {H G1 H1 G2 : Hp} {f1 f2 : List Addr} (w1 : Nw H G1 f1) (w2 : Nw H1 G2 f2) (hh : Same H H1) (th : ∀ a ∈ f1, ∃ o, H1 a = some o) (hg : ∀ a, G1 a = none → G2 a ≠ none → H1 a = none) : Nw H G2 (f1 ++ f2) :=
  ⟨fun a ha => (List.mem_append.mp ha).elim (w1.n a) fun z => hh.free (w2.n a z), fun a ha => (List.mem_append.mp ha).elim (fun z => by
      cases q : G2 a with
      | none => rfl
      | some o =>
        obtain ⟨u, hu⟩ := th a z
        have := hg a (w1.g a z) (by rw [q]; exact fun z => nomatch z)
        rw [hu] at this; cases this) (w2.g a),
    List.nodup_append.mpr ⟨w1.d, w2.d, fun a ha b hb e => by
      subst e
      obtain ⟨u, hu⟩ := th a ha
      rw [w2.n a hb] at hu; cases hu⟩⟩
theorem eva_cons (ha : Ev F e ρ t) (hr : EvA F es ρ ts) (hs : ∀ i, starEach (e :: es) (F.cx i).env = (false, eval e (F.cx i).env) :: starEach es (F.cx i).env := by intro _; rfl) : EvA F (e :: es) ρ (t :: ts) := by
  obtain ⟨τ, p, q⟩ := ha
  obtain ⟨τ', p', q'⟩ := hr
  refine ⟨tCons τ τ', fun i => pa_cons (p i) (p' i) (hs i), fun σ G H Q s r k => ?_⟩
  refine q σ G H _ s r fun v G1 H1 f1 s1 o1 w1 => q' σ G1 H1 _ s1.s (r.mono s1.g) fun vs G2 H2 f2 s2 o2 w2 => ?_
  exact k (v :: vs) G2 H2 (f1 ++ f2) (s1.trans s2) ⟨v, vs, f1, f2, rfl, rfl, o1.mono s2.g s2.h, o2⟩ (w1.app w2 s1.h (fun a ha => o1.there a ha) s2.n)
end
end L2
namespace L2
open PySem PySem.Spec PyProof.Rows
abbrev di (n : Int) : Dv := .fl (.int n)
abbrev db (b : Bool) : Dv := .fl (.bl b)
abbrev dn : Dv := .fl .non
abbrev ds (x : Str) : Dv := .fl (.str x)
abbrev dis (ns : List Int) : Dv := .lst (ns.map di)
abbrev ti (n : Int) : Tr := .fz (di n)
abbrev tb (b : Bool) : Tr := .fz (db b)
abbrev tn : Tr := .fz dn
abbrev tx (x : Str) : Tr := .fz (ds x)
theorem Kv.sc {K : PySem.W.Frag} {G H : Hp} {v : V} {Q : VK} (k : Kv K G H (.fz (.fl v)) Q) (s : Same G H) (f : flatV v = true) : Q v H := k v G H [] (.refl s) ⟨rfl, rfl, f⟩ .nil
theorem Kv.dat {K : PySem.W.Frag} {G H : Hp} {d : Dv} {v : V} {Q : VK} (k : Kv K G H (.fz d) Q) (s : Same G H) (h : Hv K G d v) : Q v H := k v G H [] (.refl s) ⟨rfl, h⟩ .nil
theorem Kv.lst {K : PySem.W.Frag} {G H : Hp} {ts : List Tr} {vs : List V} {Q : VK} (k : Kv K G H (.ow ts) Q) (s : Same G H) (h : OwL K G H ts vs []) {p : Addr} (hp : H p = none) : Q (.ref p) (upd H p (.lst vs)) :=
  k (.ref p) G _ [p] (.newO s hp) ⟨p, vs, [], rfl, upd_same, h.mono (Same.refl _) (Same.new hp), rfl⟩ ⟨fun a ha => by rw [List.mem_singleton.mp ha]; exact hp, fun a ha => by rw [List.mem_singleton.mp ha]; exact s.free hp, by simp⟩
theorem hvi {K : PySem.W.Frag} {G : Hp} {v x : V} (h : Hv K G (.fl v) x) : x = v := h.1
section
variable {ι : Type} {F : Fam ι} {e a b c : Expr} {es : List Expr} {ρ : En} {t ta tb' : Tr} {ts : List Tr} {pos : Pos}
theorem ev_nm (j : Nat) {d : Dv} {x : Str} (h : ρ[j]? = some (some (.fz d))) (hN : ∀ i, (F.cx i).N[j]? = some x := by intro _; rfl)
    (hv : ∀ i, Vis (F.cx i).env.scope x := by intro _; first | exact Or.inl rfl | exact Or.inr (Or.inl rfl) | exact Or.inr (Or.inr rfl)) (hd : (x == ("__debug__" : Str)) = false := by decide) (hc : (x == ("__classdict__" : Str)) = false := by decide) : Ev F (.Name x pos) ρ (.fz d) :=
  ⟨tVar j, fun i => pe_var (hN i) (hv i) hd hc, fun σ G H Q s r k => by
    obtain ⟨v, h1, h2⟩ := r j d h
    exact ⟨v, h1, k.dat s h2⟩⟩
theorem ev_int {n : Int} {j : Nat} : Ev F (.Constant (.int n) j pos) ρ (ti n) := ⟨_, fun i => pe_int, fun σ G H Q s r k => k.sc s rfl⟩
theorem ev_non {j : Nat} : Ev F (.Constant .none j pos) ρ tn := ⟨_, fun i => pe_non, fun σ G H Q s r k => k.sc s rfl⟩
theorem ev_str {n : Str} {j : Nat} : Ev F (.Constant (.str n) j pos) ρ (tx n) := ⟨_, fun i => pe_str, fun σ G H Q s r k => k.sc s rfl⟩
theorem ev_bin {op : Operator} {r : R2} (ho : ∀ i, OpR (F.cx i) (binaryOp op) r) (ha : Ev F a ρ ta) (hb : Ev F b ρ tb')
    (h : ∀ G H x y Q, Same G H → Hv F.K G (er ta) x → Hv F.K G (er tb') y → Kv F.K G H t Q → r x y H Q) : Ev F (.BinOp a op b pos) ρ t := by
  obtain ⟨τ, p, q⟩ := ha.use
  obtain ⟨τ', p', q'⟩ := hb.use
  refine ⟨tOp r τ τ', fun i => pe_op (ho i) (p i) (p' i), fun σ G H Q s rr k => ?_⟩
  refine q σ G H _ s rr fun x G1 H1 s1 hx => q' σ G1 H1 _ s1.s (rr.mono s1.g) fun y G2 H2 s2 hy => ?_
  exact h G2 H2 x y Q s2.s (hx.mono s2.g) hy (k.step (s1.trans s2))
theorem ev_add {i j : Int} (ha : Ev F a ρ (ti i)) (hb : Ev F b ρ (ti j)) : Ev F (.BinOp a .Add b pos) ρ (ti (i + j)) := ev_bin (fun _ => op_add) ha hb fun G H x y Q s hx hy k => ⟨i, j, hvi hx, hvi hy, k.sc s rfl⟩
theorem ev_sub {i j : Int} (ha : Ev F a ρ (ti i)) (hb : Ev F b ρ (ti j)) : Ev F (.BinOp a .Sub b pos) ρ (ti (i - j)) := ev_bin (fun _ => op_sub) ha hb fun G H x y Q s hx hy k => ⟨i, j, hvi hx, hvi hy, k.sc s rfl⟩
theorem ev_div {i j : Int} (ha : Ev F a ρ (ti i)) (hb : Ev F b ρ (ti j)) (hc : CDivB i j) : Ev F (.BinOp a .FloorDiv b pos) ρ (ti (i / j)) := ev_bin (fun _ => op_fdivB) ha hb fun G H x y Q s hx hy k => ⟨i, j, hvi hx, hvi hy, hc, k.sc s rfl⟩
theorem ev_mod {i j : Int} (ha : Ev F a ρ (ti i)) (hb : Ev F b ρ (ti j)) (hc : 0 < j) : Ev F (.BinOp a .Mod b pos) ρ (ti (i % j)) := ev_bin (fun _ => op_mod) ha hb fun G H x y Q s hx hy k => ⟨i, j, hvi hx, hvi hy, hc, k.sc s rfl⟩
theorem ev_neg {i : Int} (ha : Ev F a ρ (ti i)) : Ev F (.UnaryOp .USub a pos) ρ (ti (-i)) := by
  obtain ⟨τ, p, q⟩ := ha.use
  exact ⟨_, fun i => pe_un un_neg (p i), fun σ G H Q s rr k => q σ G H _ s rr fun x G1 H1 s1 hx => ⟨i, hvi hx, (k.step s1).sc s1.s rfl⟩⟩
theorem ev_cat {xs ys : List Dv} (ha : Ev F a ρ ta) (hb : Ev F b ρ tb') (ea : er ta = .lst xs) (eb : er tb' = .lst ys) (hz : xs.length + ys.length ≤ sizeLine) : Ev F (.BinOp a .Add b pos) ρ (.ow ((xs ++ ys).map .fz)) :=
  ev_bin (r := rCatL F.K) (fun i => F.hK i ▸ op_catL) ha hb fun G H x y Q s hx hy k => by
    rw [ea] at hx
    rw [eb] at hy
    obtain ⟨l, vs, rfl, h1, h2⟩ := hx
    obtain ⟨l', ws, rfl, h3, h4⟩ := hy
    refine ⟨l, l', vs, ws, rfl, rfl, s.seq h1, s.seq h3, by rw [← h2.length, ← h4.length]; exact hz, fun p hp => ?_⟩
    refine k.lst s ?_ hp
    rw [List.map_append]
    exact h2.owl.append h4.owl
theorem ev_cmp {op : CmpOp} {r : R2} {c : Bool} (ho : ∀ i, OpR (F.cx i) (compareOp op) r) (ha : Ev F a ρ ta) (hb : Ev F b ρ tb')
    (h : ∀ G H x y (Q : VK), Same G H → Hv F.K G (er ta) x → Hv F.K G (er tb') y → Q (.bl c) H → r x y H Q) (hm : behindInMarks op b = false) : Ev F (.Compare a [op] [b] pos) ρ (tb c) := by
  obtain ⟨τ, p, q⟩ := ha.use
  obtain ⟨τ', p', q'⟩ := hb.use
  refine ⟨tOp r τ τ', fun i => pe_cmpR (ho i) (p i) (p' i) hm, fun σ G H Q s rr k => ?_⟩
  refine q σ G H _ s rr fun x G1 H1 s1 hx => q' σ G1 H1 _ s1.s (rr.mono s1.g) fun y G2 H2 s2 hy => ?_
  exact h G2 H2 x y Q s2.s (hx.mono s2.g) hy ((k.step (s1.trans s2)).sc s2.s rfl)
theorem et_cmp {op : CmpOp} {r : R2} {c : Bool} (ho : ∀ i, OpR (F.cx i) (compareOp op) r) (ha : Ev F a ρ ta) (hb : Ev F b ρ tb')
    (h : ∀ G H x y (Q : VK), Same G H → Hv F.K G (er ta) x → Hv F.K G (er tb') y → Q (.bl c) H → r x y H Q) (hm : behindInMarks op b = false) : Et F (.Compare a [op] [b] pos) ρ c := by
  obtain ⟨τ, p, q⟩ := ha.use
  obtain ⟨τ', p', q'⟩ := hb.use
  refine ⟨tTest (tOp r τ τ'), fun i => pt_cmpR (ho i) (p i) (p' i) hm, fun σ G H Q s rr k => ?_⟩
  refine q σ G H _ s rr fun x G1 H1 s1 hx => q' σ G1 H1 _ s1.s (rr.mono s1.g) fun y G2 H2 s2 hy => ?_
  exact h G2 H2 x y _ s2.s (hx.mono s2.g) hy ⟨c, rfl, k G2 H2 (s1.trans s2)⟩
theorem et_lt {i j : Int} (ha : Ev F a ρ (ti i)) (hb : Ev F b ρ (ti j)) : Et F (.Compare a [.Lt] [b] pos) ρ (decide (i < j)) := et_cmp (fun _ => op_lt) ha hb (fun G H x y Q s hx hy k => ⟨i, j, hvi hx, hvi hy, k⟩) (nomark _)
theorem et_gt {i j : Int} (ha : Ev F a ρ (ti i)) (hb : Ev F b ρ (ti j)) : Et F (.Compare a [.Gt] [b] pos) ρ (decide (j < i)) := et_cmp (fun _ => op_gt) ha hb (fun G H x y Q s hx hy k => ⟨i, j, hvi hx, hvi hy, k⟩) (nomark _)
theorem et_ge {i j : Int} (ha : Ev F a ρ (ti i)) (hb : Ev F b ρ (ti j)) : Et F (.Compare a [.GtE] [b] pos) ρ (decide (j ≤ i)) := et_cmp (fun _ => op_ge) ha hb (fun G H x y Q s hx hy k => ⟨i, j, hvi hx, hvi hy, k⟩) (nomark _)
theorem et_eq {i j : Int} (ha : Ev F a ρ (ti i)) (hb : Ev F b ρ (ti j)) : Et F (.Compare a [.Eq] [b] pos) ρ (decide (i = j)) := et_cmp (fun _ => op_eq) ha hb (fun G H x y Q s hx hy k => by
  rw [hvi hx, hvi hy]; exact ⟨rfl, by simpa using k⟩) (nomark _)
theorem et_ne {i j : Int} (ha : Ev F a ρ (ti i)) (hb : Ev F b ρ (ti j)) : Et F (.Compare a [.NotEq] [b] pos) ρ (!decide (i = j)) := et_cmp (fun _ => op_ne) ha hb (fun G H x y Q s hx hy k => by
  rw [hvi hx, hvi hy]; exact ⟨rfl, by simpa using k⟩) (nomark _)
theorem ev_lt {i j : Int} (ha : Ev F a ρ (ti i)) (hb : Ev F b ρ (ti j)) : Ev F (.Compare a [.Lt] [b] pos) ρ (tb (decide (i < j))) := ev_cmp (fun _ => op_lt) ha hb (fun G H x y Q s hx hy k => ⟨i, j, hvi hx, hvi hy, k⟩) (nomark _)
theorem ev_gt {i j : Int} (ha : Ev F a ρ (ti i)) (hb : Ev F b ρ (ti j)) : Ev F (.Compare a [.Gt] [b] pos) ρ (tb (decide (j < i))) := ev_cmp (fun _ => op_gt) ha hb (fun G H x y Q s hx hy k => ⟨i, j, hvi hx, hvi hy, k⟩) (nomark _)
theorem ev_eq {i j : Int} (ha : Ev F a ρ (ti i)) (hb : Ev F b ρ (ti j)) : Ev F (.Compare a [.Eq] [b] pos) ρ (tb (decide (i = j))) := ev_cmp (fun _ => op_eq) ha hb (fun G H x y Q s hx hy k => by
  rw [hvi hx, hvi hy]; exact ⟨rfl, by simpa using k⟩) (nomark _)
def alikeD (d e : Dv) : Prop := (∃ xs ys, d = .lst xs ∧ e = .lst ys) ∨ ∃ xs ys, d = .tup xs ∧ e = .tup ys
theorem et_eqS (ha : Ev F a ρ ta) (hb : Ev F b ρ tb') (hk : alikeD (er ta) (er tb')) (hd : dpD (er ta) ≤ 50) : Et F (.Compare a [.Eq] [b] pos) ρ (eqD (er ta) (er tb')) :=
  et_cmp (r := rEqS F.K false) (fun i => F.hK i ▸ op_eqS (F.hr i).units) ha hb (fun G H x y Q s hx hy k => ⟨_, _, hk, hx.mono s, hy.mono s, hd, k⟩) (nomark _)
theorem et_neS (ha : Ev F a ρ ta) (hb : Ev F b ρ tb') (hk : alikeD (er ta) (er tb')) (hd : dpD (er ta) ≤ 50) : Et F (.Compare a [.NotEq] [b] pos) ρ (!eqD (er ta) (er tb')) :=
  et_cmp (r := rEqS F.K true) (fun i => F.hK i ▸ op_neS (F.hr i).units) ha hb (fun G H x y Q s hx hy k => ⟨_, _, hk, hx.mono s, hy.mono s, hd, k⟩) (nomark _)
theorem ev_eqS (ha : Ev F a ρ ta) (hb : Ev F b ρ tb') (hk : alikeD (er ta) (er tb')) (hd : dpD (er ta) ≤ 50) : Ev F (.Compare a [.Eq] [b] pos) ρ (tb (eqD (er ta) (er tb'))) :=
  ev_cmp (r := rEqS F.K false) (fun i => F.hK i ▸ op_eqS (F.hr i).units) ha hb (fun G H x y Q s hx hy k => ⟨_, _, hk, hx.mono s, hy.mono s, hd, k⟩) (nomark _)
theorem hvl_ints {K : PySem.W.Frag} {G : Hp} : ∀ {ns : List Int} {vs : List V}, HvL K G (ns.map di) vs → vs = ns.map V.int
  | [], _, h => h
  | _ :: _, _, ⟨x, r, h1, h2, h3⟩ => by subst h1; rw [hvi h2, hvl_ints h3]; rfl
theorem ints_hvl {K : PySem.W.Frag} {G : Hp} : ∀ {ns : List Int}, HvL K G (ns.map di) (ns.map V.int)
  | [] => rfl
  | _ :: _ => ⟨_, _, rfl, ⟨rfl, rfl⟩, ints_hvl⟩
theorem inV_ints (n : Int) : ∀ ns : List Int, inV (.int n) (ns.map V.int) = ns.any fun m => m == n
  | [] => rfl
  | m :: ms => by
    show (eqV (.int m) (.int n) || inV (.int n) (ms.map V.int)) = _
    rw [inV_ints n ms]; rfl
theorem flat_ints (ns : List Int) : (ns.map V.int).all flatV = true := by rw [List.all_map]; exact List.all_eq_true.mpr fun _ _ => rfl
theorem any_contains (n : Int) (ns : List Int) : (ns.any fun m => m == n) = ns.contains n := by
  induction ns with
  | nil => rfl
  | cons m ms ih => rw [List.any_cons, ih, List.contains_cons]; congr 1; exact Bool.beq_comm
theorem in_int {n : Int} {ns : List Int} {neg : Bool} (eb : er tb' = dis ns) {G H : Hp} {x y : V} {Q : VK} (s : Same G H) (hx : Hv F.K G (er (ti n)) x) (hy : Hv F.K G (er tb') y) (k : Q (.bl (if neg then !ns.contains n else ns.contains n)) H) : rIn F.K neg x y H Q := by
  rw [eb] at hy
  obtain ⟨l, vs, rfl, h1, h2⟩ := hy
  have := hvl_ints h2
  subst this
  rw [hvi hx]
  refine ⟨l, _, rfl, .inl (s.seq h1), rfl, flat_ints ns, ?_⟩
  rw [inV_ints, any_contains]
  exact k
theorem et_in {n : Int} {ns : List Int} (ha : Ev F a ρ (ti n)) (hb : Ev F b ρ tb') (eb : er tb' = dis ns) (hm : behindInMarks .In b = false) : Et F (.Compare a [.In] [b] pos) ρ (ns.contains n) :=
  et_cmp (r := rIn F.K false) (fun i => F.hK i ▸ op_in_seq) ha hb (fun G H x y Q s hx hy k => in_int eb s hx hy k) hm
theorem et_notin {n : Int} {ns : List Int} (ha : Ev F a ρ (ti n)) (hb : Ev F b ρ tb') (eb : er tb' = dis ns) (hm : behindInMarks .NotIn b = false) : Et F (.Compare a [.NotIn] [b] pos) ρ (!ns.contains n) :=
  et_cmp (r := rIn F.K true) (fun i => F.hK i ▸ op_notIn_seq) ha hb (fun G H x y Q s hx hy k => in_int eb s hx hy k) hm
theorem et_val {c : Bool} (h : Ev F e ρ (tb c)) (he : ∀ i whole, isTrue e (F.cx i).env whole = (do let v ← whole; standAt e.pos; holding [v] (truthy v)) := by intro _ _; rfl) : Et F e ρ c := by
  obtain ⟨τ, p, q⟩ := h
  exact ⟨tB τ, fun i => pt_val (p i) (he i), fun σ G H Q s r k => q σ G H _ s r fun v G' H' fq st o w => ⟨c, hvi o.2, k G' H' st⟩⟩
def Ew (F : Fam ι) (e : Expr) (ρ : En) (b : Bool) : Prop := ∃ τ : TT, (∀ i, PW (F.cx i) e τ) ∧ ∀ σ G H Q, Same G H → RpD F.K G ρ σ → (∀ G' H', Step G H G' H' → Q b H') → τ σ H Q
theorem Ew.et {p : Bool} (h : Ew F e ρ p) : Et F e ρ p := let ⟨τ, a, b⟩ := h; ⟨τ, fun i => (a i).pt, b⟩
theorem pw_never {X : Cx} : PW X e (fun _ _ _ => False) := fun _ _ _ _ _ _ _ h => h.elim
theorem ew_and1 {p : Bool} (h : Et F a ρ p) : Ew F (.BoolOp .And [a] pos) ρ p := let ⟨τ, x, y⟩ := h; ⟨τ, fun i => pw_and1 (x i), y⟩
theorem ew_or1 {p : Bool} (h : Et F a ρ p) : Ew F (.BoolOp .Or [a] pos) ρ p := let ⟨τ, x, y⟩ := h; ⟨τ, fun i => pw_or1 (x i), y⟩
theorem ew_and {p q : Bool} {rest : List Expr} (h : Et F a ρ p) (h2 : p = true → Ew F (.BoolOp .And (b :: rest) pos) ρ q) : Ew F (.BoolOp .And (a :: b :: rest) pos) ρ (p && q) := by
  obtain ⟨τ, x, y⟩ := h
  cases p with
  | false => exact ⟨tAnd τ _, fun i => pw_and (x i) pw_never, fun σ G H Q s r k => y σ G H _ s r fun G' H' st => iteF (k G' H' st)⟩
  | true =>
    obtain ⟨τ', x', y'⟩ := h2 rfl
    exact ⟨tAnd τ τ', fun i => pw_and (x i) (x' i), fun σ G H Q s r k => y σ G H _ s r fun G1 H1 s1 => iteT (y' σ G1 H1 _ s1.s (r.mono s1.g) fun G2 H2 s2 => k G2 H2 (s1.trans s2))⟩
theorem ew_or {p q : Bool} {rest : List Expr} (h : Et F a ρ p) (h2 : p = false → Ew F (.BoolOp .Or (b :: rest) pos) ρ q) : Ew F (.BoolOp .Or (a :: b :: rest) pos) ρ (p || q) := by
  obtain ⟨τ, x, y⟩ := h
  cases p with
  | true => exact ⟨tOr τ _, fun i => pw_or (x i) pw_never, fun σ G H Q s r k => y σ G H _ s r fun G' H' st => iteT (k G' H' st)⟩
  | false =>
    obtain ⟨τ', x', y'⟩ := h2 rfl
    exact ⟨tOr τ τ', fun i => pw_or (x i) (x' i), fun σ G H Q s r k => y σ G H _ s r fun G1 H1 s1 => iteF (y' σ G1 H1 _ s1.s (r.mono s1.g) fun G2 H2 s2 => k G2 H2 (s1.trans s2))⟩
theorem et_not {p : Bool} (h : Et F a ρ p) : Et F (.UnaryOp .Not a pos) ρ (!p) := by
  obtain ⟨τ, x, y⟩ := h
  exact ⟨tNot τ, fun i => pt_not (x i), fun σ G H Q s r k => y σ G H _ s r k⟩
theorem pe_never {X : Cx} : PE X e (fun _ _ _ => False) := fun _ _ _ _ _ _ h => h.elim
theorem ev_one {op : BoolOp} {t : Tr} (h : Ev F a ρ t) : Ev F (.BoolOp op [a] pos) ρ t := let ⟨τ, x, y⟩ := h; ⟨τ, fun i => pe_one (x i), y⟩
theorem ev_and {p q : Bool} {rest : List Expr} (h : Ev F a ρ (tb p)) (h2 : p = true → Ev F (.BoolOp .And (b :: rest) pos) ρ (tb q)) : Ev F (.BoolOp .And (a :: b :: rest) pos) ρ (tb (p && q)) := by
  obtain ⟨τ, x, y⟩ := h.use
  cases p with
  | false => exact ⟨tAndV τ _, fun i => pe_and (x i) pe_never, fun σ G H Q s r k => y σ G H _ s r fun v G' H' st hv => ⟨false, hvi hv, iteF ((k.step st).sc st.s rfl)⟩⟩
  | true =>
    obtain ⟨τ', x', y'⟩ := h2 rfl
    exact ⟨tAndV τ τ', fun i => pe_and (x i) (x' i), fun σ G H Q s r k => y σ G H _ s r fun v G1 H1 s1 hv => ⟨true, hvi hv, iteT (y' σ G1 H1 _ s1.s (r.mono s1.g) (k.step s1))⟩⟩
theorem ev_if {p : Bool} (hc : Et F c ρ p) (h1 : p = true → Ev F a ρ t) (h2 : p = false → Ev F b ρ t) : Ev F (.IfExp c a b pos) ρ t := by
  obtain ⟨τ, x, y⟩ := hc
  cases p with
  | true =>
    obtain ⟨τ', x', y'⟩ := h1 rfl
    exact ⟨tIf τ τ' _, fun i => pe_ifExp (x i) (x' i) pe_never, fun σ G H Q s r k => y σ G H _ s r fun G1 H1 s1 => iteT (y' σ G1 H1 _ s1.s (r.mono s1.g) (k.step s1))⟩
  | false =>
    obtain ⟨τ', x', y'⟩ := h2 rfl
    exact ⟨tIf τ _ τ', fun i => pe_ifExp (x i) pe_never (x' i), fun σ G H Q s r k => y σ G H _ s r fun G1 H1 s1 => iteF (y' σ G1 H1 _ s1.s (r.mono s1.g) (k.step s1))⟩
theorem ev_lst (h : EvA F es ρ ts) (hz : ts.length ≤ sizeLine) : Ev F (.List es pos) ρ (.ow ts) := by
  obtain ⟨τ, x, y⟩ := h
  refine ⟨tLst τ, fun i => pe_lst (x i), fun σ G H Q s r k => y σ G H _ s r fun vs G1 H1 fq s1 o w => ⟨by rw [← o.length]; exact hz, fun p hp => ?_⟩⟩
  have np : p ∉ fq := fun z => by
    obtain ⟨u, hu⟩ := o.there p z
    rw [hp] at hu; cases hu
  exact k (.ref p) G1 _ (p :: fq) (s1.trans (.newO s1.s hp)) ⟨p, vs, fq, rfl, upd_same, o.mono (Same.refl _) (Same.new hp), rfl⟩
    ⟨fun a ha => (List.mem_cons.mp ha).elim (fun z => by rw [z]; exact s1.h.free hp) (w.n a), fun a ha => (List.mem_cons.mp ha).elim (fun z => by rw [z]; exact s1.s.free hp) (w.g a), List.nodup_cons.mpr ⟨np, w.d⟩⟩
theorem ev_tup {x1} (h : EvA F es ρ ts) (hz : ts.length ≤ sizeLine) : Ev F (.Tuple es x1 pos) ρ (.tp ts) := by
  obtain ⟨τ, x, y⟩ := h
  refine ⟨tTup τ, fun i => pe_tup (x i), fun σ G H Q s r k => y σ G H _ s r fun vs G1 H1 fq s1 o w => ⟨by rw [← o.length]; exact hz, fun p hp => ?_⟩⟩
  have np : p ∉ fq := fun z => by
    obtain ⟨u, hu⟩ := o.there p z
    rw [hp] at hu; cases hu
  exact k (.ref p) G1 _ (p :: fq) (s1.trans (.newO s1.s hp)) ⟨p, vs, fq, rfl, upd_same, o.mono (Same.refl _) (Same.new hp), rfl⟩
    ⟨fun a ha => (List.mem_cons.mp ha).elim (fun z => by rw [z]; exact s1.h.free hp) (w.n a), fun a ha => (List.mem_cons.mp ha).elim (fun z => by rw [z]; exact s1.s.free hp) (w.g a), List.nodup_cons.mpr ⟨np, w.d⟩⟩
theorem HvL.get {K : PySem.W.Frag} {G : Hp} : ∀ {ds : List Dv} {vs : List V} {j : Nat} {d : Dv}, HvL K G ds vs → ds[j]? = some d → ∃ v, vs[j]? = some v ∧ Hv K G d v
  | _ :: _, _, 0, _, ⟨x, r, h1, h2, h3⟩, h => by cases h; subst h1; exact ⟨x, rfl, h2⟩
  | _ :: _, _, j + 1, d, ⟨x, r, h1, h2, h3⟩, h => by
    subst h1
    obtain ⟨v, q1, q2⟩ := HvL.get (j := j) h3 h
    exact ⟨v, q1, q2⟩
theorem HvL.at {K : PySem.W.Frag} {G : Hp} {ds : List Dv} {vs : List V} {k : Int} {d : Dv} (h : HvL K G ds vs) (hk : atI ds k = some d) : ∃ v, atI vs k = some v ∧ Hv K G d v := by
  unfold atI at hk ⊢
  rw [← h.length]
  cases q : ixN ds.length k with
  | none => rw [q] at hk; cases hk
  | some j => rw [q] at hk; exact h.get hk
theorem ev_ix {xs : List Dv} {k : Int} {d : Dv} (ha : Ev F a ρ ta) (hb : Ev F b ρ (ti k)) (ea : er ta = .lst xs) (hk : atI xs k = some d) (hs : PlainIx b := by exact fun _ _ => rfl) : Ev F (.Subscript a b pos) ρ (.fz d) := by
  obtain ⟨τ, p, q⟩ := ha.use
  obtain ⟨τ', p', q'⟩ := hb.use
  refine ⟨tOp (rIxL F.K) τ τ', fun i => pe_ix (ix_listK (F.hK i)) (p i) (p' i) hs, fun σ G H Q s rr k => ?_⟩
  refine q σ G H _ s rr fun x G1 H1 s1 hx => q' σ G1 H1 _ s1.s (rr.mono s1.g) fun y G2 H2 s2 hy => ?_
  rw [ea] at hx
  obtain ⟨l, vs, rfl, h1, h2⟩ := hx
  obtain ⟨v, h3, h4⟩ := h2.at hk
  exact ⟨l, vs, _, v, rfl, hvi hy, (s2.g.trans s2.s).seq h1, h3, (k.step (s1.trans s2)).dat s2.s (h4.mono s2.g)⟩
theorem ev_ixT {xs : List Dv} {k : Int} {d : Dv} (ha : Ev F a ρ ta) (hb : Ev F b ρ (ti k)) (ea : er ta = .tup xs) (hk : atI xs k = some d) (hs : PlainIx b := by exact fun _ _ => rfl) : Ev F (.Subscript a b pos) ρ (.fz d) := by
  obtain ⟨τ, p, q⟩ := ha.use
  obtain ⟨τ', p', q'⟩ := hb.use
  refine ⟨tOp (rIxT F.K) τ τ', fun i => pe_ix (ix_tupK (F.hK i)) (p i) (p' i) hs, fun σ G H Q s rr k => ?_⟩
  refine q σ G H _ s rr fun x G1 H1 s1 hx => q' σ G1 H1 _ s1.s (rr.mono s1.g) fun y G2 H2 s2 hy => ?_
  rw [ea] at hx
  obtain ⟨l, vs, rfl, h1, h2⟩ := hx
  obtain ⟨v, h3, h4⟩ := h2.at hk
  exact ⟨l, vs, _, v, rfl, hvi hy, (s2.g.trans s2.s).tup h1, h3, (k.step (s1.trans s2)).dat s2.s (h4.mono s2.g)⟩
def cutD {α : Type} (xs : List α) (lo hi : Option Int) : List α := (xs.drop (HT.sIx xs.length 0 lo)).take (HT.sIx xs.length xs.length hi - HT.sIx xs.length 0 lo)
theorem HvL.drop {K : PySem.W.Frag} {G : Hp} : ∀ {ds : List Dv} {vs : List V} (n : Nat), HvL K G ds vs → HvL K G (ds.drop n) (vs.drop n)
  | ds, vs, 0, h => h
  | [], _, n + 1, h => by rw [show _ = [] from h]; exact rfl
  | _ :: _, _, n + 1, ⟨x, r, h1, h2, h3⟩ => by subst h1; exact HvL.drop n h3
theorem HvL.take {K : PySem.W.Frag} {G : Hp} : ∀ {ds : List Dv} {vs : List V} (n : Nat), HvL K G ds vs → HvL K G (ds.take n) (vs.take n)
  | ds, vs, 0, h => by simp only [List.take_zero]; exact rfl
  | [], _, n + 1, h => by rw [show _ = [] from h]; exact rfl
  | _ :: _, _, n + 1, ⟨x, r, h1, h2, h3⟩ => by subst h1; exact ⟨x, r.take n, rfl, h2, HvL.take n h3⟩
theorem HvL.cut {K : PySem.W.Frag} {G : Hp} {ds : List Dv} {vs : List V} (h : HvL K G ds vs) (lo hi : Option Int) : HvL K G (cutD ds lo hi) (cutV vs lo hi) := by
  unfold cutD cutV
  rw [h.length]
  exact (h.drop _).take _
def Eo (F : Fam ι) (e : Option Expr) (ρ : En) (o : Option Int) : Prop := ∃ τ : TO, (∀ i, PO (F.cx i) e τ) ∧ ∀ σ G H Q, Same G H → RpD F.K G ρ σ → (∀ G' H', Step G H G' H' → Q o H') → τ σ H Q
theorem eo_none : Eo F none ρ none := ⟨tNoPart, fun _ => po_none, fun σ G H Q s r k => k G H (.refl s)⟩
theorem eo_some {n : Int} (h : Ev F e ρ (ti n)) : Eo F (some e) ρ (some n) := by
  obtain ⟨τ, x, y⟩ := h.use
  exact ⟨tPart τ, fun i => po_some (x i), fun σ G H Q s r k => y σ G H _ s r fun v G' H' st hv => ⟨n, hvi hv, k G' H' st⟩⟩
theorem ev_slice {lo hi : Option Expr} {l u : Option Int} {xs : List Dv} {p2 : Pos} (ha : Ev F a ρ ta) (ea : er ta = .lst xs) (hl : Eo F lo ρ l) (hu : Eo F hi ρ u) : Ev F (.Subscript a (.Slice lo hi none p2) pos) ρ (.ow ((cutD xs l u).map .fz)) := by
  obtain ⟨τ, p, q⟩ := ha.use
  obtain ⟨τ1, p1, q1⟩ := hl
  obtain ⟨τ2, p2', q2⟩ := hu
  refine ⟨tSl (rSlL F.K) τ τ1 τ2, fun i => pe_slice (F.hK i ▸ sl_list) (p i) (p1 i) (p2' i), fun σ G H Q s rr k => ?_⟩
  refine q σ G H _ s rr fun x G1 H1 s1 hx => q1 σ G1 H1 _ s1.s (rr.mono s1.g) fun G2 H2 s2 => q2 σ G2 H2 _ s2.s (rr.mono (s1.trans s2).g) fun G3 H3 s3 => ?_
  rw [ea] at hx
  obtain ⟨b, vs, rfl, h1, h2⟩ := hx
  have st := s2.trans s3
  exact ⟨b, vs, rfl, (st.g.trans st.s).seq h1, fun p hp => (k.step (s1.trans st)).lst st.s ((h2.mono st.g).cut l u).owl hp⟩
theorem ev_callB {id : String} {x : Str} {r : List V → Hp → VK → Prop} (hc : ∀ i, CallR (F.cx i) (.builtin id) r) (hm : F.mg x = none) (hv : bootBuiltins x = some (.builtin id)) (ha : EvA F (e :: es) ρ ts)
    (h : ∀ G H xs Q, Same G H → HvL F.K G (ers ts) xs → Kv F.K G H t Q → r xs H Q) {p' : Pos} (hg : ∀ i, Gl (F.cx i) x := by intro _; rfl) (hn : x ≠ "__name__" := by decide) (hdb : (x == ("__debug__" : Str)) = false := by decide)
    (he : ∀ i, starEach (e :: es) (F.cx i).env = (false, eval e (F.cx i).env) :: starEach es (F.cx i).env := by intro _; rfl) (hpl : ∀ i, (backTo pos (starEach es (F.cx i).env)).any (·.1) = false := by intro _; rfl) : Ev F (.Call (.Name x p') (e :: es) [] pos) ρ t := by
  obtain ⟨τ, y, z⟩ := ha.use
  refine ⟨tCB r τ, fun i => pe_callB (hc i) (hg i) ((F.hm i).symm ▸ hm) hv (y i) hn hdb (he i) (hpl i), fun σ G H Q s rr k => z σ G H _ s rr fun vs G1 H1 s1 hx => ?_⟩
  exact h G1 H1 vs Q s1.s hx (k.step s1)
theorem ev_callT {T : String} {x : Str} {r : List V → Hp → VK → Prop} (hc : ∀ i, CallR (F.cx i) (.type T) r) (hm : F.mg x = none) (hv : bootBuiltins x = some (.type T)) (ha : EvA F (e :: es) ρ ts)
    (h : ∀ G H xs Q, Same G H → HvL F.K G (ers ts) xs → Kv F.K G H t Q → r xs H Q) {p' : Pos} (hg : ∀ i, Gl (F.cx i) x := by intro _; rfl) (hn : x ≠ "__name__" := by decide) (hdb : (x == ("__debug__" : Str)) = false := by decide)
    (he : ∀ i, starEach (e :: es) (F.cx i).env = (false, eval e (F.cx i).env) :: starEach es (F.cx i).env := by intro _; rfl) (hpl : ∀ i, (backTo pos (starEach es (F.cx i).env)).any (·.1) = false := by intro _; rfl) : Ev F (.Call (.Name x p') (e :: es) [] pos) ρ t := by
  obtain ⟨τ, y, z⟩ := ha.use
  refine ⟨tCB r τ, fun i => pe_callTy (hc i) (hg i) ((F.hm i).symm ▸ hm) hv (y i) hn hdb (he i) (hpl i), fun σ G H Q s rr k => z σ G H _ s rr fun vs G1 H1 s1 hx => ?_⟩
  exact h G1 H1 vs Q s1.s hx (k.step s1)
theorem hvl1 {K : PySem.W.Frag} {G : Hp} {d : Dv} {xs : List V} (h : HvL K G [d] xs) : ∃ x, xs = [x] ∧ Hv K G d x := by
  obtain ⟨x, r, h1, h2, h3⟩ := h
  exact ⟨x, by rw [h1, show r = [] from h3], h2⟩
theorem hvl2 {K : PySem.W.Frag} {G : Hp} {d d' : Dv} {xs : List V} (h : HvL K G [d, d'] xs) : ∃ x y, xs = [x, y] ∧ Hv K G d x ∧ Hv K G d' y := by
  obtain ⟨x, r, h1, h2, h3⟩ := h
  obtain ⟨y, rfl, h4⟩ := hvl1 h3
  exact ⟨x, y, h1, h2, h4⟩
theorem ev_len {xs : List Dv} (hm : F.mg "len" = none) (ha : Ev F e ρ ta) (ea : er ta = .lst xs ∨ er ta = .tup xs) {p' : Pos} (hg : ∀ i, Gl (F.cx i) "len" := by intro _; rfl)
    (hs : ∀ i, starEach [e] (F.cx i).env = [(false, eval e (F.cx i).env)] := by intro _; rfl) : Ev F (.Call (.Name "len" p') [e] [] pos) ρ (ti xs.length) :=
  ev_callB (r := fun xs H Q => ∃ p ys, xs = [.ref p] ∧ (SqL F.K H p ys ∨ SqT F.K H p ys) ∧ Q (.int ys.length) H) (fun i => call_lenK (F.hK i)) hm bt_len (eva_cons ha eva_nil hs) (fun G H vs Q s hx k => by
    obtain ⟨x, rfl, hxx⟩ := hvl1 hx
    replace hx := hxx
    rcases ea with ea | ea
    · rw [ea] at hx
      obtain ⟨l, ys, rfl, h1, h2⟩ := hx
      exact ⟨l, ys, rfl, .inl (s.seq h1), by rw [← h2.length]; exact k.sc s rfl⟩
    · rw [ea] at hx
      obtain ⟨l, ys, rfl, h1, h2⟩ := hx
      exact ⟨l, ys, rfl, .inr (s.tup h1), by rw [← h2.length]; exact k.sc s rfl⟩) hg (by decide) (by decide) hs (fun _ => rfl)
theorem ev_list {xs : List Dv} (hm : F.mg "list" = none) (ha : Ev F e ρ ta) (ea : er ta = .lst xs ∨ er ta = .tup xs) {p' : Pos} (hg : ∀ i, Gl (F.cx i) "list" := by intro _; rfl)
    (hs : ∀ i, starEach [e] (F.cx i).env = [(false, eval e (F.cx i).env)] := by intro _; rfl) : Ev F (.Call (.Name "list" p') [e] [] pos) ρ (.ow (xs.map .fz)) :=
  ev_callT (r := fun xs H Q => ∃ p ys, xs = [.ref p] ∧ (SqL F.K H p ys ∨ SqT F.K H p ys) ∧ ∀ l, H l = none → Q (.ref l) (upd H l (.lst ys))) (fun i => F.hK i ▸ call_list_of) hm bt_list (eva_cons ha eva_nil hs) (fun G H vs Q s hx k => by
    obtain ⟨x, rfl, hxx⟩ := hvl1 hx
    replace hx := hxx
    rcases ea with ea | ea
    · rw [ea] at hx
      obtain ⟨l, ys, rfl, h1, h2⟩ := hx
      exact ⟨l, ys, rfl, .inl (s.seq h1), fun p hp => k.lst s h2.owl hp⟩
    · rw [ea] at hx
      obtain ⟨l, ys, rfl, h1, h2⟩ := hx
      exact ⟨l, ys, rfl, .inr (s.tup h1), fun p hp => k.lst s h2.owl hp⟩) hg (by decide) (by decide) hs (fun _ => rfl)
theorem ev_sum {ns : List Int} (hm : F.mg "sum" = none) (ha : Ev F e ρ ta) (ea : er ta = dis ns) {p' : Pos} (hg : ∀ i, Gl (F.cx i) "sum" := by intro _; rfl)
    (hs : ∀ i, starEach [e] (F.cx i).env = [(false, eval e (F.cx i).env)] := by intro _; rfl) : Ev F (.Call (.Name "sum" p') [e] [] pos) ρ (ti ns.sum) :=
  ev_callB (r := rSum F.K) (fun i => F.hK i ▸ call_sum (F.calm i)) hm bt_sum (eva_cons ha eva_nil hs) (fun G H vs Q s hx k => by
    obtain ⟨x, rfl, hxx⟩ := hvl1 hx
    replace hx := hxx
    rw [ea] at hx
    obtain ⟨l, ys, rfl, h1, h2⟩ := hx
    have := hvl_ints h2
    subst this
    exact ⟨l, ns, rfl, s.seq h1, k.sc s rfl⟩) hg (by decide) (by decide) hs (fun _ => rfl)
def tyD : Dv → Value
  | .fl .non => .type "NoneType"
  | .fl (.bl _) => .type "bool"
  | .fl (.int _) => .type "int"
  | .fl (.str _) => .type "str"
  | .fl _ => .none
  | .lst _ => .type "list"
  | .tup _ => .type "tuple"
def rIsD (K : PySem.W.Frag) (d : Dv) (n : String) (b : Bool) : List V → Hp → VK → Prop := fun xs H Q => ∃ x, xs = [x, .ty n] ∧ Hv K H d x ∧ PySem.W.kitOne K (tyD d) (.type n) = some b ∧ Q (.bl b) H
theorem call_isD {X : Cx} {d : Dv} {n : String} {b : Bool} : CallR X (.builtin "isinstance") (rIsD X.K d n b) := by
  intro pins s σ H xs us Q I r h
  obtain ⟨x, rfl, hx, hb, q⟩ := h
  cases r with
  | cons r1 rr => cases rr with
    | cons r2 rr =>
      cases rr
      cases (show _ = Value.type n from r2)
      have fin : ∀ tk, EP X pins σ Q (.bool b) { s with toks := tk } := fun tk => ⟨.bl b, H, I.tok tk, rfl, q⟩
      cases d with
      | fl v =>
        obtain ⟨rfl, f⟩ := hx
        cases x with
        | non => exact isinst_ok I r1 .non hb fin
        | bl y => exact isinst_ok I r1 (.bl y) hb fin
        | int y => exact isinst_ok I r1 (.int y) hb fin
        | str y => exact isinst_ok I r1 (.str y) hb fin
        | byt y => cases f
        | flt y => cases f
        | ref y => cases f
        | ty y => cases f
      | lst ds =>
        obtain ⟨a, xs, rfl, h1, _⟩ := hx
        cases r1
        obtain ⟨its, _, ⟨o, n, h2, h3, _⟩, _⟩ := I.list h1
        exact PySem.W.kia_one PySem.W.kitx_list I.kIn ⟨o, h2, h3⟩ hb (fun z => nomatch z) fin
      | tup ds =>
        obtain ⟨a, xs, rfl, h1, _⟩ := hx
        cases r1
        obtain ⟨its, _, ⟨o, h2, h3, _⟩, _⟩ := I.tuple h1
        exact PySem.W.kia_one PySem.W.kitx_tuple I.kIn ⟨o, h2, h3⟩ hb (fun z => nomatch z) fin
theorem ev_isi {x : Str} {n : String} {bo : Bool} (hm : F.mg "isinstance" = none) (hm2 : F.mg x = none) (hv : bootBuiltins x = some (.type n)) (ha : Ev F e ρ ta) (hk : PySem.W.kitOne F.K (tyD (er ta)) (.type n) = some bo) {p' p2 : Pos} (hg : ∀ i, Gl (F.cx i) "isinstance" := by intro _; rfl)
    (hg2 : ∀ i, Gl (F.cx i) x := by intro _; rfl) (hn : x ≠ "__name__" := by decide) (hd : (x == ("__debug__" : Str)) = false := by decide)
    (hs : ∀ i, starEach [e, .Name x p2] (F.cx i).env = [(false, eval e (F.cx i).env), (false, eval (.Name x p2) (F.cx i).env)] := by intro _; rfl) : Ev F (.Call (.Name "isinstance" p') [e, .Name x p2] [] pos) ρ (tb bo) := by
  obtain ⟨τ, y, z⟩ := ha.use
  refine ⟨tCB (rIsD F.K (er ta) n bo) (tCons τ (tCons (tC (.ty n)) tNil)), fun i => pe_callB (F.hK i ▸ call_isD) (hg i) ((F.hm i).symm ▸ hm) bt_isinstance (pa_cons (y i) (pa_cons (pe_bltn (v := .ty n) (hg2 i) ((F.hm i).symm ▸ hm2) hv rfl hn hd) pa_nil rfl) (hs i)) (by decide) (by decide) (hs i) rfl, fun σ G H Q s rr k => z σ G H _ s rr fun vs G1 H1 s1 hx => ?_⟩
  exact ⟨vs, rfl, hx.mono s1.s, hk, (k.step s1).sc s1.s rfl⟩
def spT (K : PySem.W.Frag) (R : List Dv → Tr → Prop) : Sp := fun vs H Q _ => ∃ G ds t, Same G H ∧ HvL K G ds vs ∧ R ds t ∧ Kv K G H t Q
theorem ev_call {k : Nat} {f : Addr} {fd : FuncData} {ps : List Str} {R : List Dv → Tr → Prop} {x : Str} (Fn : Kn F.P F.w F.K F.mg F.base CX0 k x f fd ps (spT F.K R)) (hk : k ≤ F.room) (ha : EvA F (e :: es) ρ ts) (hR : R (ers ts) t) {p' : Pos} (hg : ∀ i, Gl (F.cx i) x := by intro _; rfl) (hdb : (x == ("__debug__" : Str)) = false := by decide)
    (he : ∀ i, starEach (e :: es) (F.cx i).env = (false, eval e (F.cx i).env) :: starEach es (F.cx i).env := by intro _; rfl) (hpl : ∀ i, (backTo pos (starEach es (F.cx i).env)).any (·.1) = false := by intro _; rfl) : Ev F (.Call (.Name x p') (e :: es) [] pos) ρ t := by
  obtain ⟨τ, y, z⟩ := ha.use
  refine ⟨tCall (spT F.K R) [] E0 τ, fun i => ?_, fun σ G H Q s rr k => z σ G H _ s rr fun vs G1 H1 s1 hx => ?_⟩
  · have Fn' : Kn (F.cx i).prog (F.cx i).w (F.cx i).K (F.cx i).mg (F.cx i).base CX0 k x f fd ps (spT F.K R) := by
      rw [F.hP i, F.hw i, F.hK i, F.hm i, F.hb i]
      exact Fn
    exact pe_kn Fn' ((F.hr i).mono hk) (hg i) (y i) hdb (he i) (hpl i)
  · show spT F.K R (vs ++ []) H1 Q E0
    rw [List.append_nil]
    exact ⟨G1, _, t, s1.s, hx, hR, k.step s1⟩
end
end L2
namespace L2
open PySem PySem.Spec PyProof.Rows
def OwS (K : PySem.W.Frag) (G H : Hp) : En → St → List Addr → Prop
  | [], σ, fp => σ = [] ∧ fp = []
  | none :: ρ, σ, fp => ∃ o r, σ = o :: r ∧ OwS K G H ρ r fp
  | some t :: ρ, σ, fp => ∃ v r f1 f2, σ = some v :: r ∧ fp = f1 ++ f2 ∧ Ow K G H t v f1 ∧ OwS K G H ρ r f2
theorem OwS.mono {K : PySem.W.Frag} {G G' H H' : Hp} (e : Same G G') (e' : Same H H') : ∀ {ρ : En} {σ : St} {fp : List Addr}, OwS K G H ρ σ fp → OwS K G' H' ρ σ fp
  | [], _, _, h => h
  | none :: _, _, _, ⟨o, r, h1, h2⟩ => ⟨o, r, h1, OwS.mono e e' h2⟩
  | some _ :: _, _, _, ⟨v, r, f1, f2, h1, h2, h3, h4⟩ => ⟨v, r, f1, f2, h1, h2, h3.mono e e', OwS.mono e e' h4⟩
theorem OwS.frame {K : PySem.W.Frag} {G H : Hp} {a : Addr} {o : HO} : ∀ {ρ : En} {σ : St} {fp : List Addr}, OwS K G H ρ σ fp → a ∉ fp → OwS K G (upd H a o) ρ σ fp
  | [], _, _, h, _ => h
  | none :: _, _, _, ⟨o, r, h1, h2⟩, n => ⟨o, r, h1, OwS.frame h2 n⟩
  | some _ :: _, _, _, ⟨v, r, f1, f2, h1, h2, h3, h4⟩, n => by
    subst h2
    exact ⟨v, r, f1, f2, h1, rfl, h3.frame fun z => n (List.mem_append_left _ z), OwS.frame h4 fun z => n (List.mem_append_right _ z)⟩
theorem OwS.there {K : PySem.W.Frag} {G H : Hp} : ∀ {ρ : En} {σ : St} {fp : List Addr}, OwS K G H ρ σ fp → ∀ a ∈ fp, ∃ o, H a = some o
  | [], _, _, ⟨_, h⟩, a, ha => by subst h; cases ha
  | none :: _, _, _, ⟨o, r, h1, h2⟩, a, ha => OwS.there h2 a ha
  | some _ :: _, _, _, ⟨v, r, f1, f2, h1, h2, h3, h4⟩, a, ha => by
    subst h2
    rcases List.mem_append.mp ha with ha | ha
    · exact h3.there a ha
    · exact OwS.there h4 a ha
theorem OwS.off {K : PySem.W.Frag} {G H G1 H1 : Hp} {ρ : En} {σ : St} {fp : List Addr} (r : OwS K G H ρ σ fp) (s1 : Step G H G1 H1) (g : ∀ a ∈ fp, G a = none) : ∀ a ∈ fp, G1 a = none := fun a ha => by
  cases q : G1 a with
  | none => rfl
  | some u =>
    obtain ⟨u', hu'⟩ := r.there a ha
    have := s1.n a (g a ha) (by rw [q]; exact fun z => nomatch z)
    rw [hu'] at this
    cases this
theorem OwS.rpd {K : PySem.W.Frag} {G H : Hp} : ∀ {ρ : En} {σ : St} {fp : List Addr}, OwS K G H ρ σ fp → RpD K G ρ σ
  | [], _, _, _, j, d, h => by cases j <;> cases h
  | none :: _, _, _, ⟨o, r, h1, h2⟩, 0, d, h => by cases h
  | none :: _, _, _, ⟨o, r, h1, h2⟩, j + 1, d, h => by subst h1; exact OwS.rpd h2 j d h
  | some _ :: _, _, _, ⟨v, r, f1, f2, h1, h2, h3, h4⟩, 0, d, h => by cases h; subst h1; exact ⟨v, rfl, h3.2⟩
  | some _ :: _, _, _, ⟨v, r, f1, f2, h1, h2, h3, h4⟩, j + 1, d, h => by subst h1; exact OwS.rpd h4 j d h
def pk (ρ : En) : En := ρ.map (Option.map fun t => .fz (er t))
theorem OwS.pk {K : PySem.W.Frag} {G H G' : Hp} (e : Same G G') : ∀ {ρ : En} {σ : St} {fp : List Addr}, OwS K G H ρ σ fp → (∀ a ∈ fp, G' a = H a) → RpD K G' (pk ρ) σ
  | [], _, _, _, _, j, d, h => by cases j <;> cases h
  | none :: _, _, _, ⟨o, r, h1, h2⟩, _, 0, d, h => by cases h
  | none :: _, _, _, ⟨o, r, h1, h2⟩, q, j + 1, d, h => by subst h1; exact OwS.pk e h2 q j d h
  | some _ :: _, _, _, ⟨v, r, f1, f2, h1, h2, h3, h4⟩, q, 0, d, h => by
    cases h; subst h1 h2; exact ⟨v, rfl, h3.hv e fun a ha => q a (List.mem_append_left _ ha)⟩
  | some _ :: _, _, _, ⟨v, r, f1, f2, h1, h2, h3, h4⟩, q, j + 1, d, h => by
    subst h1 h2; exact OwS.pk e h4 (fun a ha => q a (List.mem_append_right _ ha)) j d h
theorem OwS.split {K : PySem.W.Frag} {G H : Hp} : ∀ {ρ : En} {σ : St} {fp : List Addr} {j : Nat} {t : Tr}, OwS K G H ρ σ fp → ρ[j]? = some (some t) →
    ∃ v f fr, σ[j]? = some (some v) ∧ Ow K G H t v f ∧ OwS K G H (ρ.set j none) σ fr ∧ fp.Perm (f ++ fr)
  | none :: _, _, _, 0, _, _, h => by cases h
  | none :: _, _, _, j + 1, t, ⟨o, r, h1, h2⟩, h => by
    subst h1
    obtain ⟨v, f, fr, q1, q2, q3, q4⟩ := OwS.split (j := j) h2 h
    exact ⟨v, f, fr, q1, q2, ⟨o, r, rfl, q3⟩, q4⟩
  | some _ :: _, _, _, 0, t, ⟨v, r, f1, f2, h1, h2, h3, h4⟩, h => by
    cases h; subst h1 h2
    exact ⟨v, f1, f2, rfl, h3, ⟨some v, r, rfl, h4⟩, .refl _⟩
  | some _ :: _, _, _, j + 1, t, ⟨v, r, f1, f2, h1, h2, h3, h4⟩, h => by
    subst h1 h2
    obtain ⟨v', f, fr, q1, q2, q3, q4⟩ := OwS.split (j := j) h4 h
    refine ⟨v', f, f1 ++ fr, q1, q2, ⟨v, r, f1, fr, rfl, rfl, h3, q3⟩, ?_⟩
    refine (List.Perm.append_left f1 q4).trans ?_
    rw [← List.append_assoc, ← List.append_assoc]
    exact List.Perm.append_right fr List.perm_append_comm
theorem OwS.forget {K : PySem.W.Frag} {G H : Hp} : ∀ {ρ : En} {σ : St} {fp : List Addr} (j : Nat), OwS K G H ρ σ fp → ∃ fr, OwS K G H (ρ.set j none) σ fr ∧ fr.Sublist fp
  | [], _, _, _, h => ⟨_, h, .refl _⟩
  | none :: _, _, _, 0, ⟨o, r, h1, h2⟩ => ⟨_, ⟨o, r, h1, h2⟩, .refl _⟩
  | none :: _, _, _, j + 1, ⟨o, r, h1, h2⟩ => by
    obtain ⟨fr, q1, q2⟩ := OwS.forget j h2
    exact ⟨fr, ⟨o, r, h1, q1⟩, q2⟩
  | some _ :: _, _, _, 0, ⟨v, r, f1, f2, h1, h2, h3, h4⟩ => ⟨f2, ⟨some v, r, h1, h4⟩, h2 ▸ List.sublist_append_right _ _⟩
  | some _ :: _, _, _, j + 1, ⟨v, r, f1, f2, h1, h2, h3, h4⟩ => by
    obtain ⟨fr, q1, q2⟩ := OwS.forget j h4
    exact ⟨f1 ++ fr, ⟨v, r, f1, fr, h1, rfl, h3, q1⟩, h2 ▸ List.Sublist.append (.refl _) q2⟩
theorem OwS.put {K : PySem.W.Frag} {G H : Hp} : ∀ {ρ : En} {σ : St} {fr : List Addr} {j : Nat} {t : Tr} {v : V} {f : List Addr}, OwS K G H ρ σ fr → ρ[j]? = some none → Ow K G H t v f →
    ∃ fp, OwS K G H (ρ.set j (some t)) (σ.set j (some v)) fp ∧ fp.Perm (f ++ fr)
  | none :: _, _, fr, 0, t, v, f, ⟨o, r, h1, h2⟩, _, w => by subst h1; exact ⟨_, ⟨v, r, f, fr, rfl, rfl, w, h2⟩, .refl _⟩
  | none :: _, _, _, j + 1, t, v, f, ⟨o, r, h1, h2⟩, h, w => by
    subst h1
    obtain ⟨fp, q1, q2⟩ := OwS.put (j := j) h2 h w
    exact ⟨fp, ⟨o, _, rfl, q1⟩, q2⟩
  | some _ :: _, _, _, 0, _, _, _, _, h, _ => by cases h
  | some _ :: _, _, _, j + 1, t, v, f, ⟨v', r, f1, f2, h1, h2, h3, h4⟩, h, w => by
    subst h1 h2
    obtain ⟨fp, q1, q2⟩ := OwS.put (j := j) h4 h w
    refine ⟨f1 ++ fp, ⟨v', _, f1, fp, rfl, rfl, h3, q1⟩, ?_⟩
    refine (List.Perm.append_left f1 q2).trans ?_
    rw [← List.append_assoc, ← List.append_assoc]
    exact List.Perm.append_right f2 List.perm_append_comm
structure RSf (K : PySem.W.Frag) (G0 H0 G H : Hp) (ρ : En) (σ : St) (fp : List Addr) : Prop where
  st : Step G0 H0 G H
  own : OwS K G H ρ σ fp
  g : ∀ a ∈ fp, G a = none
  n : ∀ a ∈ fp, H0 a = none
  d : fp.Nodup
def RS (K : PySem.W.Frag) (G0 H0 G H : Hp) (ρ : En) (σ : St) : Prop := ∃ fp, RSf K G0 H0 G H ρ σ fp
theorem get_set_none {α : Type} {ρ : List (Option α)} {j : Nat} (h : j < ρ.length) : (ρ.set j none)[j]? = some none := by rw [List.getElem?_set]; simp [h]
theorem RSf.forget {K : PySem.W.Frag} {G0 H0 G H : Hp} {ρ : En} {σ : St} {fp : List Addr} (r : RSf K G0 H0 G H ρ σ fp) (j : Nat) : ∃ fr, RSf K G0 H0 G H (ρ.set j none) σ fr ∧ fr.Sublist fp := by
  obtain ⟨fr, q1, q2⟩ := r.own.forget j
  exact ⟨fr, ⟨r.st, q1, fun a ha => r.g a (q2.subset ha), fun a ha => r.n a (q2.subset ha), r.d.sublist q2⟩, q2⟩
theorem RS.forget {K : PySem.W.Frag} {G0 H0 G H : Hp} {ρ : En} {σ : St} (r : RS K G0 H0 G H ρ σ) (j : Nat) : RS K G0 H0 G H (ρ.set j none) σ := by
  obtain ⟨fp, r⟩ := r
  obtain ⟨fr, q, _⟩ := r.forget j
  exact ⟨fr, q⟩
theorem RSf.set {K : PySem.W.Frag} {G0 H0 G H G1 H1 : Hp} {ρ : En} {σ : St} {fp fq : List Addr} {j : Nat} {t : Tr} {v : V} (r : RSf K G0 H0 G H ρ σ fp) (hj : j < ρ.length) (e : Step G H G1 H1) (o : Ow K G1 H1 t v fq) (w : Nw H G1 fq) :
    RS K G0 H0 G1 H1 (ρ.set j (some t)) (σ.set j (some v)) := by
  obtain ⟨fr, r1, sub⟩ := r.forget j
  have own1 := r1.own.mono e.g e.h
  obtain ⟨fp', q1, q2⟩ := own1.put (get_set_none hj) o
  rw [List.set_set] at q1
  have dis : ∀ a ∈ fq, ∀ b ∈ fr, a ≠ b := fun a ha b hb z => by
    subst z
    obtain ⟨u, hu⟩ := r1.own.there a hb
    rw [w.n a ha] at hu; cases hu
  refine ⟨fp', r.st.trans e, q1, fun a ha => ?_, fun a ha => ?_, q2.nodup_iff.mpr (List.nodup_append.mpr ⟨w.d, r1.d, dis⟩)⟩
  · rcases List.mem_append.mp (q2.mem_iff.mp ha) with z | z
    · exact w.g a z
    · cases q : G1 a with
      | none => rfl
      | some u =>
        obtain ⟨u', hu'⟩ := r1.own.there a z
        have := e.n a (r1.g a z) (by rw [q]; exact fun z => nomatch z)
        rw [hu'] at this; cases this
  · rcases List.mem_append.mp (q2.mem_iff.mp ha) with z | z
    · exact r.st.h.free (w.n a z)
    · exact r1.n a z
def less (H : Hp) (fp : List Addr) : Hp := fun a => if a ∈ fp then none else H a
theorem less_in {H : Hp} {fp : List Addr} {a : Addr} (h : a ∈ fp) : less H fp a = none := by unfold less; rw [if_pos h]
theorem less_out {H : Hp} {fp : List Addr} {a : Addr} (h : a ∉ fp) : less H fp a = H a := by unfold less; rw [if_neg h]
theorem less_sub {H : Hp} {fp : List Addr} : Same (less H fp) H := fun b o e => by
  by_cases q : b ∈ fp
  · rw [less_in q] at e; cases e
  · rw [less_out q] at e; exact e
theorem same_less {G H : Hp} {fp : List Addr} (s : Same G H) (h : ∀ a ∈ fp, G a = none) : Same G (less H fp) := fun b o e => by
  by_cases q : b ∈ fp
  · rw [h b q] at e; cases e
  · rw [less_out q]; exact s b o e
theorem RSf.rebase {K : PySem.W.Frag} {G0 H0 G H : Hp} {ρ : En} {σ : St} {fp : List Addr} (r : RSf K G0 H0 G H ρ σ fp) : RSf K G (less H fp) G H ρ σ fp :=
  ⟨⟨Same.refl _, less_sub, r.st.s, fun a h h' => absurd h h'⟩, r.own, r.g, fun a ha => less_in ha, r.d⟩
theorem RSf.base {K : PySem.W.Frag} {G0 H0 G H : Hp} {ρ : En} {σ : St} {fp : List Addr} (r : RSf K G0 H0 G H ρ σ fp) : Step G0 H0 G (less H fp) :=
  ⟨r.st.g, same_less r.st.h r.n, same_less r.st.s r.g, r.st.n⟩
theorem RS.under {K : PySem.W.Frag} {G0 H0 G1 H1 G H : Hp} {ρ : En} {σ : St} (e : Step G0 H0 G1 H1) (r : RS K G1 H1 G H ρ σ) : RS K G0 H0 G H ρ σ := by
  obtain ⟨fp, r⟩ := r
  exact ⟨fp, e.trans r.st, r.own, r.g, fun a ha => e.h.free (r.n a ha), r.d⟩
inductive Out where
  | nx (ρ : En)
  | rt (t : Tr)
def Post (K : PySem.W.Frag) (G0 H0 : Hp) (D : Ends) : Out → Prop
  | .nx ρ => ∀ σ G H, RS K G0 H0 G H ρ σ → D.nx σ H
  | .rt t => ∀ v G H fq, Step G0 H0 G H → Ow K G H t v fq → Nw H0 G fq → D.rt v H
theorem Post.under {K : PySem.W.Frag} {G0 H0 G1 H1 : Hp} {D : Ends} {o : Out} (e : Step G0 H0 G1 H1) (p : Post K G0 H0 D o) : Post K G1 H1 D o := by
  cases o with
  | nx ρ => exact fun σ G H r => p σ G H (r.under e)
  | rt t => exact fun v G H fq s o w => p v G H fq (e.trans s) o ⟨fun a ha => e.h.free (w.n a ha), w.g, w.d⟩
def Sm1 (K : PySem.W.Frag) (τ : TS) (ρ : En) (o : Out) : Prop := ∀ D σ G0 H0 G H, RS K G0 H0 G H ρ σ → Post K G0 H0 D o → τ D σ H
section
variable {ι : Type}
def Rn (F : Fam ι) (st : Stmt) (ρ : En) (o : Out) : Prop := ∃ τ : TS, (∀ i, PS (F.cx i) st τ) ∧ Sm1 F.K τ ρ o
def Rns (F : Fam ι) (sts : List Stmt) (ρ : En) (o : Out) : Prop := ∃ τ : TS, (∀ i, PSs (F.cx i) sts τ) ∧ Sm1 F.K τ ρ o
def EvS (F : Fam ι) (e : Expr) (ρ : En) (t : Tr) : Prop := ∃ τ : TE, (∀ i, PE (F.cx i) e τ) ∧ ∀ σ G H fp Q, Same G H → OwS F.K G H ρ σ fp → (∀ a ∈ fp, G a = none) → Kv F.K G H t Q → τ σ H Q
def EtS (F : Fam ι) (e : Expr) (ρ : En) (b : Bool) : Prop := ∃ τ : TT, (∀ i, PT (F.cx i) e τ) ∧ ∀ σ G H fp Q, Same G H → OwS F.K G H ρ σ fp → (∀ a ∈ fp, G a = none) → (∀ G' H', Step G H G' H' → Q b H') → τ σ H Q
variable {F : Fam ι} {e a b c : Expr} {es : List Expr} {ρ ρ1 : En} {t : Tr} {ts : List Tr} {pos : Pos} {o : Out} {st : Stmt} {sts A B : List Stmt}
theorem Ev.s (h : Ev F e ρ t) : EvS F e ρ t := let ⟨τ, x, y⟩ := h; ⟨τ, x, fun σ G H fp Q s r _ k => y σ G H Q s r.rpd k⟩
theorem Et.s {p : Bool} (h : Et F e ρ p) : EtS F e ρ p := let ⟨τ, x, y⟩ := h; ⟨τ, x, fun σ G H fp Q s r _ k => y σ G H Q s r.rpd k⟩
mutual
def Cl : Tr → Prop
  | .fz (.fl _) => True
  | .fz _ => False
  | .ow ts => Cls' ts
  | .tp ts => Cls' ts
def Cls' : List Tr → Prop
  | [] => True
  | t :: ts => Cl t ∧ Cls' ts
end
mutual
theorem Ow.cl {K : PySem.W.Frag} {G G' H : Hp} : ∀ {t : Tr} {v : V} {fp : List Addr}, Cl t → Ow K G H t v fp → Ow K G' H t v fp
  | .fz (.fl _), _, _, _, h => h
  | .fz (.lst _), _, _, c, _ => c.elim
  | .fz (.tup _), _, _, c, _ => c.elim
  | .ow _, _, _, c, ⟨b, vs, fq, h1, h2, h3, h4⟩ => ⟨b, vs, fq, h1, h2, OwL.cl c h3, h4⟩
  | .tp _, _, _, c, ⟨b, vs, fq, h1, h2, h3, h4⟩ => ⟨b, vs, fq, h1, h2, OwL.cl c h3, h4⟩
theorem OwL.cl {K : PySem.W.Frag} {G G' H : Hp} : ∀ {ts : List Tr} {vs : List V} {fp : List Addr}, Cls' ts → OwL K G H ts vs fp → OwL K G' H ts vs fp
  | [], _, _, _, h => h
  | _ :: _, _, _, ⟨c1, c2⟩, ⟨v, r, f1, f2, h1, h2, h3, h4⟩ => ⟨v, r, f1, f2, h1, h2, h3.cl c1, OwL.cl c2 h4⟩
end
theorem Ev.pk (h : Ev F e (pk ρ) t) (c : Cl t) : EvS F e ρ t := by
  obtain ⟨τ, x, y⟩ := h
  refine ⟨τ, x, fun σ G H fp Q s r hg k => ?_⟩
  refine y σ (frzd G H fp) H Q (frzd_sub s) (r.pk (frzd_same hg) fun a ha => frzd_in ha) fun v G' H' fq st o w => ?_
  refine k v G H' fq ⟨Same.refl _, st.h, s.trans st.h, fun a h h' => absurd h h'⟩ (o.cl c) ⟨w.n, fun a ha => s.free (w.n a ha), w.d⟩
theorem rns_nil : Rns F [] ρ (.nx ρ) := ⟨tNext, fun _ => pss_nil, fun D σ G0 H0 G H r k => k σ G H r⟩
theorem rns_cons (h1 : Rn F st ρ (.nx ρ1)) (h2 : Rns F sts ρ1 o) : Rns F (st :: sts) ρ o := by
  obtain ⟨τ, x, y⟩ := h1
  obtain ⟨τ', x', y'⟩ := h2
  exact ⟨tSeq τ τ', fun i => pss_cons (x i) (x' i), fun D σ G0 H0 G H r k => y _ σ G0 H0 G H r fun σ1 G1 H1 r1 => y' D σ1 G0 H0 G1 H1 r1 k⟩
theorem rns_ret (h1 : Rn F st ρ (.rt t)) : Rns F (st :: sts) ρ (.rt t) := by
  obtain ⟨τ, x, y⟩ := h1
  exact ⟨tSeq τ tNever, fun i => pss_cons (x i) pss_never, fun D σ G0 H0 G H r k => y _ σ G0 H0 G H r k⟩
theorem rns_one (h1 : Rn F st ρ o) : Rns F [st] ρ o := by
  obtain ⟨τ, x, y⟩ := h1
  exact ⟨τ, fun i => pss_one (x i), y⟩
theorem rn_set (j : Nat) {x : Str} {pos' : Pos} (he : EvS F e ρ t) (hN : ∀ i, (F.cx i).N.Nodup) (hj : Nat.blt j ρ.length = true := by rfl) (hi : ∀ i, (F.cx i).N[j]? = some x := by intro _; rfl) (hx : ∀ i, Loc (F.cx i).env.scope x := by intro _; first | exact Or.inl rfl | exact Or.inr rfl)
    (hs : ∀ i, swapsWith e (some (.Name x pos')) pos.line (F.cx i).env = pure false := by intro _; rfl) (hf : ∀ i, (F.cx i).fn x = true ∨ (F.cx i).env.scope.names.lookup x = some .local := by intro _; first | exact .inl rfl | exact .inr rfl) :
    Rn F (.Assign [.Name x pos'] e pos) ρ (.nx (ρ.set j (some t))) := by
  obtain ⟨τ, y, z⟩ := he
  refine ⟨tAsg τ (gName j), fun i => ps_set (hN i) (hi i) (hx i) (y i) (hs i) (hf i), fun D σ G0 H0 G H r k => ?_⟩
  obtain ⟨fp, r⟩ := r
  exact z σ G H fp _ r.st.s r.own r.g fun v G1 H1 fq s1 o w => k _ G1 H1 (r.set (Nat.le_of_ble_eq_true hj) s1 o w)
theorem rn_ret (he : EvS F e ρ t) : Rn F (.Return (some e) pos) ρ (.rt t) := by
  obtain ⟨τ, y, z⟩ := he
  refine ⟨tRet τ, fun i => ps_ret (y i), fun D σ G0 H0 G H r k => ?_⟩
  obtain ⟨fp, r⟩ := r
  exact z σ G H fp _ r.st.s r.own r.g fun v G1 H1 fq s1 o w => k v G1 H1 fq (r.st.trans s1) o ⟨fun a ha => r.st.h.free (w.n a ha), w.g, w.d⟩
theorem rn_if {p : Bool} (hc : EtS F c ρ p) (h1 : p = true → Rns F A ρ o) (h2 : p = false → Rns F B ρ o) : Rn F (.If c A B pos) ρ o := by
  obtain ⟨τ, y, z⟩ := hc
  have key : ∀ {G0 H0 G H G1 H1 : Hp} {σ : St} {fp : List Addr}, RSf F.K G0 H0 G H ρ σ fp → Step G H G1 H1 → RS F.K G0 H0 G1 H1 ρ σ := fun {G0 H0 G H G1 H1 σ fp} r s1 => ⟨fp, r.st.trans s1, r.own.mono s1.g s1.h, r.own.off s1 r.g, r.n, r.d⟩
  cases p with
  | true =>
    obtain ⟨τ', x', y'⟩ := h1 rfl
    refine ⟨tIfS τ τ' tNever, fun i => ps_if (y i) (x' i) pss_never, fun D σ G0 H0 G H r k => ?_⟩
    obtain ⟨fp, r⟩ := r
    exact z σ G H fp _ r.st.s r.own r.g fun G1 H1 s1 => iteT (y' D σ G0 H0 G1 H1 (key r s1) k)
  | false =>
    obtain ⟨τ', x', y'⟩ := h2 rfl
    refine ⟨tIfS τ tNever τ', fun i => ps_if (y i) pss_never (x' i), fun D σ G0 H0 G H r k => ?_⟩
    obtain ⟨fp, r⟩ := r
    exact z σ G H fp _ r.st.s r.own r.g fun G1 H1 s1 => iteF (y' D σ G0 H0 G1 H1 (key r s1) k)
theorem set_self {α : Type} : ∀ {l : List α} {j : Nat} {v : α}, l[j]? = some v → l.set j v = l
  | _ :: _, 0, _, h => by cases h; rfl
  | _ :: _, j + 1, _, h => by rw [List.set_cons_succ, set_self (l := _) (j := j) h]
theorem rns_freeze (j : Nat) (hj : ρ[j]? = some (some t)) (h : Rns F sts (ρ.set j (some (.fz (er t)))) o) : Rns F sts ρ o := by
  obtain ⟨τ, x, y⟩ := h
  refine ⟨τ, x, fun D σ G0 H0 G H r k => ?_⟩
  obtain ⟨fp, r⟩ := r
  obtain ⟨v, f, fr, q1, q2, q3, q4⟩ := r.own.split hj
  have nd := List.nodup_append.mp (q4.nodup_iff.mp r.d)
  have sub : ∀ a ∈ f, a ∈ fp := fun a ha => q4.mem_iff.mpr (List.mem_append_left _ ha)
  have sub' : ∀ a ∈ fr, a ∈ fp := fun a ha => q4.mem_iff.mpr (List.mem_append_right _ ha)
  have sm : Same G (frzd G H f) := frzd_same fun a ha => r.g a (sub a ha)
  have lt : j < ρ.length := by
    rcases Nat.lt_or_ge j ρ.length with z | z
    · exact z
    · rw [List.getElem?_eq_none z] at hj; cases hj
  obtain ⟨fp', p1, p2⟩ := (q3.mono sm (Same.refl _)).put (f := []) (t := .fz (er t)) (get_set_none lt) ⟨rfl, q2.hv sm fun a ha => frzd_in ha⟩
  rw [List.set_set, set_self q1] at p1
  refine y D σ G0 H0 (frzd G H f) H ⟨fp', ⟨r.st.g.trans sm, r.st.h, frzd_sub r.st.s, fun a h h' => ?_⟩, p1, fun a ha => ?_, fun a ha => r.n a (sub' a (p2.mem_iff.mp ha)), p2.nodup_iff.mpr nd.2.1⟩ k
  · by_cases z : a ∈ f
    · exact r.n a (sub a z)
    · rw [frzd_out z] at h'; exact r.st.n a h h'
  · have z := p2.mem_iff.mp ha
    rw [frzd_out fun z' => nd.2.2 a z' a z rfl]
    exact r.g a (sub' a z)
theorem RSf.chg {K : PySem.W.Frag} {G0 H0 G H G1 H1 : Hp} {ρ : En} {σ : St} {fp : List Addr} {j : Nat} {t : Tr} (r : RSf K G0 H0 G H ρ σ fp) (hj : ρ[j]? = some (some t)) (s1 : Step G H G1 H1) :
    ∃ v f, σ[j]? = some (some v) ∧ Ow K G H t v f ∧ Ow K G1 H1 t v f ∧ f.Nodup ∧ (∀ a ∈ f, a ∈ fp) ∧ ∀ l o t' f', l ∈ f → Ow K G1 (upd H1 l o) t' v f' → f'.Nodup → (∀ a ∈ f', a ∈ f ∨ (H a = none ∧ G1 a = none)) → RS K G0 H0 G1 (upd H1 l o) (ρ.set j (some t')) σ := by
  obtain ⟨v, f, fr, q1, q2, q3, q4⟩ := r.own.split hj
  have nda := List.nodup_append.mp (q4.nodup_iff.mp r.d)
  have qfp : ∀ a ∈ f, a ∈ fp := fun a ha => q4.mem_iff.mpr (List.mem_append_left _ ha)
  have rfp : ∀ a ∈ fr, a ∈ fp := fun a ha => q4.mem_iff.mpr (List.mem_append_right _ ha)
  have lt : j < ρ.length := by
    rcases Nat.lt_or_ge j ρ.length with z | z
    · exact z
    · rw [List.getElem?_eq_none z] at hj; cases hj
  have lG : ∀ a ∈ fp, G1 a = none := fun a ha => by
    cases q : G1 a with
    | none => rfl
    | some u =>
      obtain ⟨u', hu'⟩ := r.own.there a ha
      have := s1.n a (r.g a ha) (by rw [q]; exact fun z => nomatch z)
      rw [hu'] at this; cases this
  refine ⟨v, f, q1, q2, q2.mono s1.g s1.h, nda.1, qfp, fun l o t' f' hl ow nw hw => ?_⟩
  have new : ∀ a, H a = none → a ∉ fp := fun a ha hb => by
    obtain ⟨u, hu⟩ := r.own.there a hb
    rw [ha] at hu; cases hu
  have q3' : OwS K G1 (upd H1 l o) (ρ.set j none) σ fr := (q3.mono s1.g s1.h).frame fun z => nda.2.2 l hl l z rfl
  obtain ⟨fp', p1', p2'⟩ := q3'.put (get_set_none lt) ow
  rw [List.set_set, set_self q1] at p1'
  have memf : ∀ a ∈ fp', a ∈ fp ∨ (H a = none ∧ G1 a = none) := fun a ha => by
    rcases List.mem_append.mp (p2'.mem_iff.mp ha) with z | z
    · exact (hw a z).imp (qfp a) id
    · exact .inl (rfp a z)
  refine ⟨fp', ⟨(r.st.trans s1).g, fun b u hb => ?_, fun b u hb => ?_, (r.st.trans s1).n⟩, p1', fun a ha => ?_, fun a ha => ?_, ?_⟩
  · have hb1 := (r.st.trans s1).h b u hb
    rw [upd_ne fun z => ?_]
    · exact hb1
    · subst z; rw [r.n _ (qfp _ hl)] at hb; cases hb
  · have hb1 := s1.s b u hb
    rw [upd_ne fun z => ?_]
    · exact hb1
    · subst z; rw [lG _ (qfp _ hl)] at hb; cases hb
  · exact (memf a ha).elim (lG a) fun z => z.2
  · exact (memf a ha).elim (r.n a) fun z => r.st.h.free z.1
  · refine p2'.nodup_iff.mpr (List.nodup_append.mpr ⟨nw, nda.2.1, fun a ha b hb z => ?_⟩)
    subst z
    rcases hw a ha with z | z
    · exact nda.2.2 a z a hb rfl
    · exact new a z.1 (rfp a hb)
theorem RSf.mut {K : PySem.W.Frag} {G0 H0 G H G1 H1 : Hp} {ρ : En} {σ : St} {fp : List Addr} {j : Nat} {us : List Tr} (r : RSf K G0 H0 G H ρ σ fp) (hj : ρ[j]? = some (some (.ow us))) (s1 : Step G H G1 H1) :
    ∃ l vs fq, σ[j]? = some (some (.ref l)) ∧ H l = some (.lst vs) ∧ H1 l = some (.lst vs) ∧ OwL K G1 H1 us vs fq ∧ fq.Nodup ∧ (∀ a ∈ fq, a ∈ fp) ∧ ∀ us' ws fw, OwL K G1 H1 us' ws fw → fw.Nodup → (∀ a ∈ fw, a ∈ fq ∨ (H a = none ∧ G1 a = none)) → RS K G0 H0 G1 (upd H1 l (.lst ws)) (ρ.set j (some (.ow us'))) σ := by
  obtain ⟨v, f, q1, q2, q3, nd, qfp, q⟩ := r.chg hj s1
  obtain ⟨l, vs, fq, rfl, hl, ol, rfl⟩ := q3
  obtain ⟨l', vs', fq', e1, hl', _, e2⟩ := q2
  cases e1
  have ev : vs' = vs := by
    have := s1.h _ _ hl'
    rw [hl] at this
    cases this; rfl
  subst ev
  have ndl := List.nodup_cons.mp nd
  refine ⟨l, vs', fq, q1, hl', hl, ol, ndl.2, fun a ha => qfp a (.tail _ ha), fun us' ws fw ow nw hw => ?_⟩
  have lfw : l ∉ fw := fun z => (hw l z).elim ndl.1 fun z => by rw [z.1] at hl'; cases hl'
  exact q l (.lst ws) (.ow us') (l :: fw) (.head _) ⟨l, ws, fw, rfl, upd_same, ow.frame lfw, rfl⟩ (List.nodup_cons.mpr ⟨lfw, nw⟩) fun a ha => (List.mem_cons.mp ha).elim (fun z => .inl (z ▸ .head _)) fun z => (hw a z).imp (fun z => .tail _ z) id
theorem rn_append (j : Nat) {x : Str} {us : List Tr} {p1 p2 p3 : Pos} (h : ρ[j]? = some (some (.ow us))) (he : EvS F e ρ t) (hz : us.length < sizeLine) (hN : ∀ i, (F.cx i).N[j]? = some x := by intro _; rfl)
    (hv : ∀ i, Vis (F.cx i).env.scope x := by intro _; first | exact Or.inl rfl | exact Or.inr (Or.inl rfl) | exact Or.inr (Or.inr rfl)) (hd : (x == ("__debug__" : Str)) = false := by decide) (hc : (x == ("__classdict__" : Str)) = false := by decide)
    (hbase : ∀ i, attributeBase (.Name x p1) "append" (F.cx i).env (eval (.Name x p1) (F.cx i).env) = eval (.Name x p1) (F.cx i).env := by intro _; rfl)
    (hfew : ∀ i, ((backTo p3 (starEach [e] (F.cx i).env)).all (fun x => !x.1) && (backToKw p3 (keywordEach [] (F.cx i).env)).all (fun x => x.1.isSome) && decide (([e] : List Expr).length + ([] : List Keyword).length + (if ([] : List Keyword).isEmpty then 0 else 1) < 30)) = true := by intro _; rfl)
    (hline : (p2.endLine == p3.line) = true := by rfl) (hs : ∀ i, starEach [e] (F.cx i).env = [(false, eval e (F.cx i).env)] := by intro _; rfl) (hsw : ∀ i, swapsWith (.Call (.Attribute (.Name x p1) "append" p2) [e] [] p3) none pos.line (F.cx i).env = pure false := by intro _; rfl) :
    Rn F (.Expr (.Call (.Attribute (.Name x p1) "append" p2) [e] [] p3) pos) ρ (.nx (ρ.set j (some (.ow (us ++ [t]))))) := by
  obtain ⟨τ, y, z⟩ := he
  refine ⟨tDrop (tBM F.K "list" rAppend (tVar j) (tCons τ tNil)), fun i => ps_expr (F.hK i ▸ pe_bm PySem.F.plainAttrs_list PySem.F.slot_list_append PySem.F.type_list_append mt_append (pe_var (hN i) (hv i) hd hc) (pa_cons (y i) pa_nil (hs i)) (hbase i) (hfew i) hline (hs i) rfl) (hsw i), fun D σ G0 H0 G H r k => ?_⟩
  obtain ⟨fp, r⟩ := r
  obtain ⟨l0, vs0, fq0, c1, c2, _⟩ := r.mut h (.refl r.st.s)
  refine ⟨_, c1, .inl ⟨rfl, _, SqL.of c2⟩, ?_⟩
  refine z σ G H fp _ r.st.s r.own r.g fun v1 G1 H1 f1 s1 o1 w1 => ?_
  obtain ⟨l, vs, fq, d1, d2, d3, d4, d5, d6, d7⟩ := r.mut h s1
  rw [c1] at d1
  cases d1
  refine ⟨l0, vs, v1, rfl, rfl, d3, by rw [← d4.length]; exact hz, k σ G1 _ (d7 (us ++ [t]) (vs ++ [v1]) (fq ++ (f1 ++ [])) (d4.append ⟨v1, [], f1, [], rfl, rfl, o1, rfl, rfl⟩) ?_ fun a ha => ?_)⟩
  · rw [List.append_nil]
    refine List.nodup_append.mpr ⟨d5, w1.d, fun a ha b hb e => ?_⟩
    subst e
    obtain ⟨u, hu⟩ := r.own.there a (d6 a ha)
    rw [w1.n a hb] at hu; cases hu
  · rw [List.append_nil] at ha
    exact (List.mem_append.mp ha).imp id fun z => ⟨w1.n a z, w1.g a z⟩
end
end L2
namespace L2
open PySem PySem.Spec PyProof.Rows
def ItD (K : PySem.W.Frag) (G : Hp) (J : It) (its : List Dv) : Prop := ∀ k G1 H1, Same G G1 → Same G1 H1 →
  (∀ d, its[k]? = some d → J.go k H1 ∧ ∀ x H3, J.yld k H1 x H3 → ∃ G3, Step G1 H1 G3 H3 ∧ Hv K G3 d x) ∧ (k = its.length → J.stop k H1)
def setAll {α : Type} : List Nat → List α → List (Option α) → List (Option α)
  | j :: js, v :: vs, σ => setAll js vs (σ.set j (some v))
  | _, _, σ => σ
def dropAll {α : Type} : List Nat → List (Option α) → List (Option α)
  | [], ρ => ρ
  | j :: js, ρ => dropAll js (ρ.set j none)
theorem RS.dropAll {K : PySem.W.Frag} {G0 H0 G H : Hp} : ∀ {ρ : En} {σ : St} (js : List Nat), RS K G0 H0 G H ρ σ → RS K G0 H0 G H (L2.dropAll js ρ) σ
  | _, _, [], r => r
  | _, _, j :: js, r => RS.dropAll js (r.forget j)
def Fg (ρ ρ' : En) : Prop := ∃ fs, L2.dropAll fs ρ = ρ'
theorem Fg.rs {K : PySem.W.Frag} {G0 H0 G H : Hp} {ρ ρ' : En} {σ : St} (f : Fg ρ ρ') (r : RS K G0 H0 G H ρ σ) : RS K G0 H0 G H ρ' σ := by
  obtain ⟨fs, rfl⟩ := f
  exact r.dropAll fs
theorem RS.setAll {K : PySem.W.Frag} {G0 H0 G H : Hp} : ∀ {js : List Nat} {ds : List Dv} {vs : List V} {ρ : En} {σ : St}, (∀ j ∈ js, j < ρ.length) → HvL K G ds vs → RS K G0 H0 G H ρ σ → RS K G0 H0 G H (L2.setAll js (ds.map .fz) ρ) (L2.setAll js vs σ)
  | [], _, _, _, _, _, _, r => r
  | _ :: _, [], _, _, _, _, h, r => by rw [show _ = [] from h]; exact r
  | j :: js, d :: ds, _, ρ, σ, hj, ⟨x, q, h1, h2, h3⟩, ⟨fp, r⟩ => by
    subst h1
    have r' : RS K G0 H0 G H (ρ.set j (some (.fz d))) (σ.set j (some x)) := r.set (t := .fz d) (v := x) (fq := []) (hj j (.head _)) (.refl r.st.s) ⟨rfl, h2⟩ .nil
    exact RS.setAll (js := js) (ds := ds) (fun i hi => by rw [List.length_set]; exact hj i (.tail _ hi)) h3 r'
theorem RpD.set {K : PySem.W.Frag} {G : Hp} {ρ : En} {σ : St} {j : Nat} {d : Dv} {v : V} (r : RpD K G ρ σ) (hj : j < σ.length) (h : Hv K G d v) : RpD K G (ρ.set j (some (.fz d))) (σ.set j (some v)) := fun i e hi => by
  by_cases q : i = j
  · subst q
    rw [List.getElem?_set_self (by
      rcases Nat.lt_or_ge i ρ.length with z | z
      · exact z
      · rw [List.getElem?_eq_none (by rw [List.length_set]; exact z)] at hi; cases hi)] at hi
    cases hi
    exact ⟨v, by rw [List.getElem?_set_self hj], h⟩
  · rw [List.getElem?_set_ne (Ne.symm q)] at hi
    obtain ⟨u, h1, h2⟩ := r i e hi
    exact ⟨u, by rw [List.getElem?_set_ne (Ne.symm q)]; exact h1, h2⟩
theorem setAll_len {α : Type} : ∀ (js : List Nat) (vs : List α) (σ : List (Option α)), (setAll js vs σ).length = σ.length
  | [], _, _ => rfl
  | _ :: _, [], _ => rfl
  | j :: js, v :: vs, σ => by
    show (setAll js vs (σ.set j (some v))).length = _
    rw [setAll_len js vs, List.length_set]
theorem RpD.setAll {K : PySem.W.Frag} {G : Hp} : ∀ {js : List Nat} {ds : List Dv} {vs : List V} {ρ : En} {σ : St}, (∀ j ∈ js, j < σ.length) → HvL K G ds vs → RpD K G ρ σ → RpD K G (L2.setAll js (ds.map .fz) ρ) (L2.setAll js vs σ)
  | [], _, _, _, _, _, _, r => r
  | _ :: _, [], _, _, _, _, h, r => by rw [show _ = [] from h]; exact r
  | j :: js, d :: ds, _, ρ, σ, hj, ⟨x, q, h1, h2, h3⟩, r => by
    subst h1
    exact RpD.setAll (js := js) (ds := ds) (ρ := ρ.set j (some (.fz d))) (fun i hi => by rw [List.length_set]; exact hj i (.tail _ hi)) h3 (r.set (hj j (.head _)) h2)
section
variable {ι : Type}
def EvI (F : Fam ι) (tg iter : Expr) (ρ : En) (its : List Dv) : Prop := ∃ wi : TI, (∀ i, PI (F.cx i) tg iter wi) ∧ ∀ σ G H (R : It → Hp → Prop), Same G H → RpD F.K G ρ σ → (∀ J G' H', Step G H G' H' → ItD F.K G' J its → R J H') → wi σ H R
def EvIS (F : Fam ι) (tg iter : Expr) (ρ : En) (its : List Dv) : Prop := ∃ wi : TI, (∀ i, PI (F.cx i) tg iter wi) ∧ ∀ σ G H fp (R : It → Hp → Prop), Same G H → OwS F.K G H ρ σ fp → (∀ a ∈ fp, G a = none) → (∀ J G' H', Step G H G' H' → ItD F.K G' J its → R J H') → wi σ H R
def EvG (F : Fam ι) (tg : Expr) (js : List Nat) (sp : Dv → Option (List Dv)) : Prop := ∃ g : TG, (∀ i, PG (F.cx i) tg g) ∧ ∀ d dd v σ G H Q, sp d = some dd → Same G H → Hv F.K G d v → (∀ vs, HvL F.K G dd vs → Q (setAll js vs σ) H) → g v σ H Q
def uS (F : Fam ι) (sts : List Stmt) : TS := fun D σ H => ∃ τ : TS, (∀ i, PSs (F.cx i) sts τ) ∧ τ D σ H
theorem uS_ok {F : Fam ι} {sts : List Stmt} (i : ι) : PSs (F.cx i) sts (uS F sts) := fun pins s σ H D I ⟨τ, h, q⟩ => h i pins s σ H D I q
def uT (F : Fam ι) (e : Expr) : TT := fun σ H Q => ∃ τ : TT, (∀ i, PT (F.cx i) e τ) ∧ τ σ H Q
theorem uT_ok {F : Fam ι} {e : Expr} (i : ι) : PT (F.cx i) e (uT F e) := fun pins s σ H D I ⟨τ, h, q⟩ => h i pins s σ H D I q
def uE (F : Fam ι) (e : Expr) : TE := fun σ H Q => ∃ τ : TE, (∀ i, PE (F.cx i) e τ) ∧ τ σ H Q
theorem uE_ok {F : Fam ι} {e : Expr} (i : ι) : PE (F.cx i) e (uE F e) := fun pins s σ H D I ⟨τ, h, q⟩ => h i pins s σ H D I q
variable {F : Fam ι} {e a b c tg iter elt : Expr} {es : List Expr} {ρ ρ1 : En} {t ta : Tr} {ts : List Tr} {pos : Pos} {o : Out} {body : List Stmt} {its : List Dv} {js : List Nat} {sp : Dv → Option (List Dv)}
theorem EvI.s (h : EvI F tg iter ρ its) : EvIS F tg iter ρ its := let ⟨w, x, y⟩ := h; ⟨w, x, fun σ G H fp R s r _ k => y σ G H R s r.rpd k⟩
theorem evg_nm (j : Nat) {x : Str} (hN : ∀ i, (F.cx i).N.Nodup) (hi : ∀ i, (F.cx i).N[j]? = some x := by intro _; rfl) (hx : ∀ i, Loc (F.cx i).env.scope x := by intro _; first | exact Or.inl rfl | exact Or.inr rfl)
    (hf : ∀ i, (F.cx i).fn x = true ∨ (F.cx i).env.scope.names.lookup x = some .local := by intro _; first | exact .inl rfl | exact .inr rfl) : EvG F (.Name x pos) [j] (fun d => some [d]) :=
  ⟨gName j, fun i => pg_name (hN i) (hi i) (hx i) (hf i), fun d dd v σ G H Q e s h k => by
    cases e
    exact k [v] ⟨v, [], rfl, h, rfl⟩⟩
def tupOf (n : Nat) : Dv → Option (List Dv)
  | .tup ds => if ds.length = n then some ds else none
  | _ => none
theorem evi_list {xs : List Dv} (ha : Ev F e ρ ta) (ea : er ta = .lst xs) : EvI F tg e ρ xs := by
  obtain ⟨τ, p, q⟩ := ha.use
  refine ⟨iList F.K τ, fun i => F.hK i ▸ pi_list (p i), fun σ G H R s r k => q σ G H _ s r fun x G1 H1 s1 hx => ?_⟩
  rw [ea] at hx
  obtain ⟨l, vs, rfl, h1, h2⟩ := hx
  refine ⟨l, rfl, ⟨vs, s1.s.seq h1⟩, k _ G1 H1 s1 fun j G2 H2 sg sh => ⟨fun d hd => ?_, fun hz => ⟨vs, (sg.trans sh).seq h1, by rw [← h2.length, hz]; exact Nat.le_refl _⟩⟩⟩
  obtain ⟨v, q1, q2⟩ := h2.get hd
  refine ⟨⟨vs, v, (sg.trans sh).seq h1, q1⟩, ?_⟩
  rintro x H3 ⟨rfl, hx⟩
  have := hx vs ((sg.trans sh).seq h1)
  rw [q1] at this
  cases this
  exact ⟨G2, .refl sh, q2.mono sg⟩
abbrev rngD (lo : Int) (n : Nat) : List Dv := (List.range n).map fun k => di (lo + (k : Nat))
theorem itd_rng {K : PySem.W.Frag} {G : Hp} (lo : Int) (n : Nat) : ItD K G (Itr lo n) (rngD lo n) := fun k G1 H1 sg sh => by
  refine ⟨fun d hd => ?_, fun hz => by show n ≤ k; rw [hz]; simp⟩
  rw [List.getElem?_map] at hd
  rcases Nat.lt_or_ge k n with hk | hk
  · rw [List.getElem?_range hk] at hd
    cases hd
    refine ⟨hk, ?_⟩
    rintro x H3 ⟨rfl, rfl⟩
    exact ⟨G1, .refl sh, rfl, rfl⟩
  · rw [List.getElem?_eq_none (by simpa using hk)] at hd; cases hd
theorem evi_range1 {n : Int} (hm : F.mg "range" = none) (ha : Ev F a ρ (ti n)) (hb : -(2 ^ 62) ≤ n ∧ n < 2 ^ 62) {p : Pos} (hg : ∀ i, Gl (F.cx i) "range" := by intro _; rfl) (hs : ∀ i, starEach [a] (F.cx i).env = [(false, eval a (F.cx i).env)] := by intro _; rfl) : EvI F tg (.Call (.Name "range" p) [a] [] pos) ρ (rngD 0 n.toNat) := by
  obtain ⟨τ, p, q⟩ := ha.use
  refine ⟨iRng1 (tCons τ tNil), fun i => pi_range1 (hg i) ((F.hm i).symm ▸ hm) (pa_cons (p i) pa_nil (hs i)) (hs i), fun σ G H R s r k => q σ G H _ s r fun x G1 H1 s1 hx => ?_⟩
  exact ⟨n, by rw [hvi hx], hb.1, hb.2, k _ G1 H1 s1 (itd_rng 0 n.toNat)⟩
theorem blts {js : List Nat} {n : Nat} (h : js.all (fun j => Nat.blt j n) = true) : ∀ j ∈ js, j < n := fun j hj => Nat.le_of_ble_eq_true (List.all_eq_true.mp h j hj)
theorem pOwn {i : ι} (hx : (F.cx i).xe = NoX) : PassesOwn (model (F.cx i).prog (F.cx i).w) (F.cx i).A (F.cx i).env (F.cx i).xe := by rw [hx]; exact PassesOwn.never
theorem rn_for_gen (hi : EvIS F tg iter ρ its) (hg : EvG F tg js sp) (inv : Nat → En) (m : Nat) (hm : m ≤ its.length) (h0 : inv 0 = ρ) (hlen : ∀ k, js.all (fun j => Nat.blt j (inv k).length) = true)
    (step : ∀ k d, k < m → its[k]? = some d → ∃ dd ρb, sp d = some dd ∧ Rns F body (setAll js (dd.map .fz) (inv k)) (.nx ρb) ∧ Fg ρb (inv (k + 1)))
    (fin : (m = its.length ∧ o = .nx (inv m)) ∨ ∃ d dd t, its[m]? = some d ∧ sp d = some dd ∧ Rns F body (setAll js (dd.map .fz) (inv m)) (.rt t) ∧ o = .rt t)
    (hx : ∀ i, (F.cx i).xe = NoX := by intro _; rfl) (hs : ∀ i x, foldedSetIterable iter (F.cx i).env x = pure x := by intro _ _; rfl) : Rn F (.For tg iter body [] pos) ρ o := by
  obtain ⟨wi, p, q⟩ := hi
  obtain ⟨g, pg, qg⟩ := hg
  subst h0
  refine ⟨tFor wi g (uS F body), fun i => ps_for (pOwn (hx i)) (F.calm i) (p i) (pg i) (uS_ok i) (hs i), fun D σ G0 H0 G H r k => ?_⟩
  obtain ⟨fp, r⟩ := r
  refine q σ G H fp _ r.st.s r.own r.g fun J G1 H1 s1 it => ?_
  have r1 : RSf F.K G0 H0 G1 H1 (inv 0) σ fp := ⟨r.st.trans s1, r.own.mono s1.g s1.h, r.own.off s1 r.g, r.n, r.d⟩
  have kb := k.under r1.base
  refine ⟨fun k m' σ' H' => m' = its.length - k ∧ k ≤ m ∧ ∃ G', RS F.K G1 (less H1 fp) G' H' (inv k) σ', ⟨_, rfl, Nat.zero_le _, G1, fp, r1.rebase⟩, ?_⟩
  rintro n m' σ' H' ⟨rfl, hn, G', r'⟩
  obtain ⟨fp', r'⟩ := r'
  obtain ⟨i1, i2⟩ := it n G' H' r'.st.g r'.st.s
  by_cases hlt : n < m
  · have hd : its[n]? = some its[n] := List.getElem?_eq_getElem (by omega)
    obtain ⟨j1, j2⟩ := i1 _ hd
    refine .inr ⟨j1, fun σ2 H2 => ∃ G2, RS F.K G1 (less H1 fp) G2 H2 (inv (n + 1)) σ2, fun σ2 H2 z => ⟨its.length - (n + 1), by omega, rfl, hlt, z⟩, fun x H3 y => ?_⟩
    obtain ⟨G3, s3, h3⟩ := j2 x H3 y
    obtain ⟨dd, ρb, e1, ⟨τ, pb, qb⟩, e2⟩ := step n _ hlt hd
    refine qg _ dd x σ' G3 H3 _ e1 s3.s h3 fun vs hvs => ⟨τ, pb, qb _ _ G1 (less H1 fp) G3 H3 (RS.setAll (blts (hlen n)) hvs ⟨fp', r'.st.trans s3, r'.own.mono s3.g s3.h, fun a ha => ?_, r'.n, r'.d⟩) fun σ4 G4 H4 r4 => ⟨G4, e2.rs r4⟩⟩
    cases q : G3 a with
    | none => rfl
    | some u =>
      obtain ⟨u', hu'⟩ := r'.own.there a ha
      have := s3.n a (r'.g a ha) (by rw [q]; exact fun z => nomatch z)
      rw [hu'] at this; cases this
  · have en : n = m := by omega
    subst en
    rcases fin with ⟨e, rfl⟩ | ⟨d, dd, t, hd, e1, ⟨τ, pb, qb⟩, rfl⟩
    · refine .inl ⟨i2 e, kb σ' G' H' ⟨fp', r'⟩⟩
    · obtain ⟨j1, j2⟩ := i1 d hd
      refine .inr ⟨j1, fun _ _ => False, fun _ _ z => z.elim, fun x H3 y => ?_⟩
      obtain ⟨G3, s3, h3⟩ := j2 x H3 y
      refine qg d dd x σ' G3 H3 _ e1 s3.s h3 fun vs hvs => ⟨τ, pb, qb _ _ G1 (less H1 fp) G3 H3 (RS.setAll (blts (hlen n)) hvs ⟨fp', r'.st.trans s3, r'.own.mono s3.g s3.h, fun a ha => ?_, r'.n, r'.d⟩) kb⟩
      cases q : G3 a with
      | none => rfl
      | some u =>
        obtain ⟨u', hu'⟩ := r'.own.there a ha
        have := s3.n a (r'.g a ha) (by rw [q]; exact fun z => nomatch z)
        rw [hu'] at this; cases this
theorem rn_for (hi : EvIS F tg iter ρ its) (hg : EvG F tg js sp) (inv : Nat → En) (h0 : inv 0 = ρ) (hlen : ∀ k, js.all (fun j => Nat.blt j (inv k).length) = true)
    (step : ∀ k d, its[k]? = some d → ∃ dd ρb, sp d = some dd ∧ Rns F body (setAll js (dd.map .fz) (inv k)) (.nx ρb) ∧ Fg ρb (inv (k + 1)))
    (hx : ∀ i, (F.cx i).xe = NoX := by intro _; rfl) (hs : ∀ i x, foldedSetIterable iter (F.cx i).env x = pure x := by intro _ _; rfl) : Rn F (.For tg iter body [] pos) ρ (.nx (inv its.length)) :=
  rn_for_gen hi hg inv its.length (Nat.le_refl _) h0 hlen (fun k d _ h => step k d h) (.inl ⟨rfl, rfl⟩) hx hs
theorem rns_look {sts : List Stmt} (hi : EvIS F tg iter ρ its) (hg : EvG F tg js sp) (hlen : js.all (fun j => Nat.blt j ρ.length) = true) (ok : Dv → Bool)
    (step : ∀ d ∈ its, ∃ dd, sp d = some dd ∧ (ok d = true → ∃ ρb, Rns F body (setAll js (dd.map .fz) ρ) (.nx ρb) ∧ Fg ρb ρ) ∧ (ok d = false → Rns F body (setAll js (dd.map .fz) ρ) (.rt t)))
    (good : its.all ok = true → Rns F sts ρ o) (bad : its.all ok = false → o = .rt t)
    (hx : ∀ i, (F.cx i).xe = NoX := by intro _; rfl) (hs : ∀ i x, foldedSetIterable iter (F.cx i).env x = pure x := by intro _ _; rfl) : Rns F (.For tg iter body [] pos :: sts) ρ o := by
  cases hall : its.all ok with
  | true =>
    refine rns_cons (rn_for hi hg (fun _ => ρ) rfl (fun _ => hlen) (fun k d h => ?_) hx hs) (good hall)
    obtain ⟨dd, e, s1, _⟩ := step d (List.mem_of_getElem? h)
    obtain ⟨ρb, q1, q2⟩ := s1 (List.all_eq_true.mp hall d (List.mem_of_getElem? h))
    exact ⟨dd, ρb, e, q1, q2⟩
  | false =>
    rw [bad hall]
    have : ∃ m d, m < its.length ∧ its[m]? = some d ∧ ok d = false ∧ ∀ k e, k < m → its[k]? = some e → ok e = true := by
      clear step good bad hi
      induction its with
      | nil => cases hall
      | cons x xs ih =>
        rw [List.all_cons] at hall
        cases hxx : ok x with
        | false => exact ⟨0, x, by simp, rfl, hxx, fun k e hk => absurd hk (Nat.not_lt_zero _)⟩
        | true =>
          rw [hxx, Bool.true_and] at hall
          obtain ⟨m, d, h1, h2, h3, h4⟩ := ih hall
          refine ⟨m + 1, d, by simpa using h1, h2, h3, fun k e hk he => ?_⟩
          cases k with
          | zero => cases he; exact hxx
          | succ k => exact h4 k e (by omega) he
    obtain ⟨m, d, h1, h2, h3, h4⟩ := this
    refine rns_ret (rn_for_gen hi hg (fun _ => ρ) m (Nat.le_of_lt h1) rfl (fun _ => hlen) (fun k e hk he => ?_) (.inr ?_) hx hs)
    · obtain ⟨dd, e', s1, _⟩ := step e (List.mem_of_getElem? he)
      obtain ⟨ρb, q1, q2⟩ := s1 (h4 k e hk he)
      exact ⟨dd, ρb, e', q1, q2⟩
    · obtain ⟨dd, e', _, s2⟩ := step d (List.mem_of_getElem? h2)
      exact ⟨d, dd, t, h2, e', s2 h3, rfl⟩
structure IxLc where
  C : Addr
  s : Shared
  H : Hp
  ex : List Addr
  pn : List (Addr × Obj)
def famLc (F : Fam ι) (own : List Str) (fr : List Nat) (sc : Scope) (cl : ι → List (Str × Addr)) : Fam (ι × IxLc) where
  cx i := cxLc (F.cx i.1) own fr sc (cl i.1) i.2.C i.2.s i.2.H i.2.ex i.2.pn
  P := F.P
  w := F.w
  K := F.K
  mg := F.mg
  base := F.base
  room := F.room
  hP i := F.hP i.1
  hw i := F.hw i.1
  hK i := F.hK i.1
  hm i := F.hm i.1
  hb i := F.hb i.1
  hr i := F.hr i.1
  calm i := F.calm i.1
def lcEn (own : List Str) (fr : List Nat) (ρ : En) : En := own.map (fun _ => none) ++ fr.map fun j => (ρ[j]?).join
theorem rpd_lc {K : PySem.W.Frag} {G : Hp} {own : List Str} {fr : List Nat} {ρ : En} {σ : St} (r : RpD K G ρ σ) : RpD K G (lcEn own fr ρ) (lcStart own fr σ) := fun i d h => by
  unfold lcEn at h
  unfold lcStart
  by_cases hi : i < own.length
  · rw [List.getElem?_append_left (by simpa using hi), List.getElem?_map] at h
    cases q : own[i]? with
    | none => rw [q] at h; cases h
    | some z => rw [q] at h; cases h
  · rw [List.getElem?_append_right (by simpa using hi), List.getElem?_map, List.length_map] at h
    rw [List.getElem?_append_right (by simpa using hi), List.getElem?_map, List.length_map]
    cases q : fr[i - own.length]? with
    | none => rw [q] at h; cases h
    | some j =>
      rw [q] at h
      have h' : (ρ[j]?).join = some (.fz d) := Option.some.inj h
      have hj : ρ[j]? = some (some (.fz d)) := by
        cases q2 : ρ[j]? with
        | none => rw [q2] at h'; cases h'
        | some o => rw [q2] at h'; exact congrArg some h'
      obtain ⟨v, h1, h2⟩ := r j d hj
      refine ⟨v, ?_, h2⟩
      show some ((σ[j]?).join) = _
      rw [h1]
      rfl
def El {κ : Type} (F : Fam κ) (ifs : List Expr) (ρ : En) (b : Bool) : Prop := ∃ tt : TT, (∀ i (pins : List (Addr × Obj)) (s1 : Shared) (σ1 : St) (H1 : Hp) (Q : Bool → Hp → Prop), Inv (F.cx i) pins σ1 H1 s1 → tt σ1 H1 Q →
      wpAny (model (F.cx i).prog (F.cx i).w) (F.cx i).A (lcTests ifs (F.cx i).env) (TP (F.cx i) pins σ1 Q) NoX s1) ∧ ∀ σ G H Q, Same G H → RpD F.K G ρ σ → (∀ G' H', Step G H G' H' → Q b H') → tt σ H Q
theorem el_nil : El F [] ρ true := ⟨tNoTest, fun i pins s1 σ1 H1 Q I h => lc_t0 pins s1 σ1 H1 Q I h, fun σ G H Q s r k => k G H (.refl s)⟩
theorem el_one {p : Bool} (h : Et F c ρ p) (hx : ∀ i, (F.cx i).xe = NoX := by intro _; rfl) : El F [c] ρ p := let ⟨τ, x, y⟩ := h; ⟨τ, fun i pins s1 σ1 H1 Q I h => lc_t1 (x i) (hx i) pins s1 σ1 H1 Q I h, y⟩
def uL {κ : Type} (F : Fam κ) (ifs : List Expr) : TT := fun σ H Q => ∃ tt : TT, (∀ i (pins : List (Addr × Obj)) (s1 : Shared) (σ1 : St) (H1 : Hp) (Q : Bool → Hp → Prop), Inv (F.cx i) pins σ1 H1 s1 → tt σ1 H1 Q →
      wpAny (model (F.cx i).prog (F.cx i).w) (F.cx i).A (lcTests ifs (F.cx i).env) (TP (F.cx i) pins σ1 Q) NoX s1) ∧ tt σ H Q
def LcV (F : Fam ι) (own : List Str) (fr : List Nat) (sc : Scope) (cl : ι → List (Str × Addr)) (elt tg iter : Expr) (ifs : List Expr) (τ : TE) : Prop := ∃ wi g tt te, τ = tLc wi g tt te own fr ∧ (∀ i, PI (F.cx i) tg iter wi) ∧ (∀ i, PG ((famLc F own fr sc cl).cx i) tg g) ∧
  (∀ i (pins : List (Addr × Obj)) (s1 : Shared) (σ1 : St) (H1 : Hp) (Q : Bool → Hp → Prop), Inv ((famLc F own fr sc cl).cx i) pins σ1 H1 s1 → tt σ1 H1 Q → wpAny (model ((famLc F own fr sc cl).cx i).prog ((famLc F own fr sc cl).cx i).w) ((famLc F own fr sc cl).cx i).A (lcTests ifs ((famLc F own fr sc cl).cx i).env) (TP ((famLc F own fr sc cl).cx i) pins σ1 Q) NoX s1) ∧
  ∀ i, PE ((famLc F own fr sc cl).cx i) elt te
def Elc (F : Fam ι) (own : List Str) (fr : List Nat) (sc : Scope) (cl : ι → List (Str × Addr)) (elt tg iter : Expr) (ifs : List Expr) (ρ : En) (t : Tr) : Prop := ∃ τ, LcV F own fr sc cl elt tg iter ifs τ ∧ ∀ σ G H Q, Same G H → RpD F.K G ρ σ → Kv F.K G H t Q → τ σ H Q
theorem elc {ifs : List Expr} {sc : Scope} {own : List Str} {fr : List Nat} {cl : ι → List (Str × Addr)} (hi : EvI F tg iter ρ its) (hg : EvG (famLc F own fr sc cl) tg js sp) (hjs : ∀ j ∈ js, j < own.length)
    (p : Nat → Bool) (f : Nat → Tr) (hz : its.length < sizeLine)
    (step : ∀ k d, its[k]? = some d → ∃ dd, sp d = some dd ∧ El (famLc F own fr sc cl) ifs (setAll js (dd.map .fz) (lcEn own fr ρ)) (p k) ∧ (p k = true → Ev (famLc F own fr sc cl) elt (setAll js (dd.map .fz) (lcEn own fr ρ)) (f k)))
    (hdrop : ∀ dd : List Dv, dropAll js (setAll js (dd.map .fz) (lcEn own fr ρ)) = lcEn own fr ρ) : Elc F own fr sc cl elt tg iter ifs ρ (.ow (((List.range its.length).filter p).map f)) := by
  obtain ⟨wi, pi, qi⟩ := hi
  obtain ⟨g, pg, qg⟩ := hg
  refine ⟨_, ⟨wi, g, uL (famLc F own fr sc cl) ifs, uE (famLc F own fr sc cl) elt, rfl, pi, pg, fun i pins s1 σ1 H1 Q I h => by
      obtain ⟨tt, h1, h2⟩ := h
      exact h1 i pins s1 σ1 H1 Q I h2, fun i => uE_ok i⟩, fun σ G H Q s r k => ?_⟩
  refine qi σ G H _ s r fun J G1 H1 s1 it acc hacc => ?_
  have k1 := k.step s1
  have rpDrop : ∀ {G' : Hp} {js' : List Nat} {ρ' : En} {σ' : St}, RpD F.K G' ρ' σ' → RpD F.K G' (dropAll js' ρ') σ' := by
    intro G' js'
    induction js' with
    | nil => intro ρ' σ' z; exact z
    | cons j js' ih =>
      intro ρ' σ' z
      refine ih (ρ' := ρ'.set j none) fun i d hd => ?_
      by_cases q : j = i
      · subst q
        rw [List.getElem?_set] at hd
        simp at hd
      · rw [List.getElem?_set_ne q] at hd
        exact z i d hd
  refine ⟨fun i m ys σ1 H2 => m = its.length - i ∧ i ≤ its.length ∧ σ1.length = own.length + fr.length ∧ H2 acc = some (.lst ys) ∧ ∃ G2 fq, Step G1 H1 G2 H2 ∧ OwL F.K G2 H2 (((List.range i).filter p).map f) ys fq ∧ Nw H1 G2 (acc :: fq) ∧ RpD F.K G2 (lcEn own fr ρ) σ1,
    ⟨_, rfl, Nat.zero_le _, by simp [lcStart], upd_same, G1, [], .newO s1.s hacc, ⟨rfl, rfl⟩, ⟨fun a ha => by rw [List.mem_singleton.mp ha]; exact hacc, fun a ha => by rw [List.mem_singleton.mp ha]; exact s1.s.free hacc, by simp⟩, (rpd_lc r).mono s1.g⟩, ?_⟩
  rintro i m ys σ1 H2 ⟨rfl, hi, hσ, ha2, G2, fq, s2, o2, w2, r2⟩
  have hlen : ys.length < sizeLine := by
    rw [← o2.length, List.length_map]
    have := List.length_filter_le p (List.range i)
    rw [List.length_range] at this
    omega
  refine ⟨ha2, hlen, ?_⟩
  obtain ⟨i1, i2⟩ := it i G2 H2 s2.g s2.s
  by_cases hlt : i < its.length
  · have hd : its[i]? = some its[i] := List.getElem?_eq_getElem hlt
    obtain ⟨j1, j2⟩ := i1 _ hd
    obtain ⟨dd, e1, el, ev⟩ := step i _ hd
    refine .inr ⟨j1, fun zs σ2 H3 => σ2.length = own.length + fr.length ∧ H3 acc = some (.lst zs) ∧ ∃ G3 fq, Step G1 H1 G3 H3 ∧ OwL F.K G3 H3 (((List.range (i + 1)).filter p).map f) zs fq ∧ Nw H1 G3 (acc :: fq) ∧ RpD F.K G3 (lcEn own fr ρ) σ2,
      fun zs σ2 H3 z => ⟨its.length - (i + 1), by omega, rfl, hlt, z⟩, fun x H3 y => ?_⟩
    obtain ⟨G3, s3, h3⟩ := j2 x H3 y
    refine qg _ dd x σ1 G3 H3 _ e1 s3.s h3 fun vs hvs => ?_
    have hjl : ∀ j ∈ js, j < σ1.length := fun j hj => by have := hjs j hj; omega
    have rr : RpD F.K G3 (setAll js (dd.map .fz) (lcEn own fr ρ)) (setAll js vs σ1) := RpD.setAll hjl hvs (r2.mono s3.g)
    have keepG : ∀ {Ga Ha Gb Hb : Hp} {fs : List Addr}, Step Ga Ha Gb Hb → (∀ a ∈ fs, Ga a = none) → (∀ a ∈ fs, ∃ o, Ha a = some o) → ∀ a ∈ fs, Gb a = none := fun {Ga Ha Gb Hb fs} st h1 h2 a ha => by
      cases q : Gb a with
      | none => rfl
      | some u =>
        obtain ⟨u', hu'⟩ := h2 a ha
        have := st.n a (h1 a ha) (by rw [q]; exact fun z => nomatch z)
        rw [hu'] at this; cases this
    have th2 : ∀ a ∈ acc :: fq, ∃ o, H2 a = some o := fun a ha => (List.mem_cons.mp ha).elim (fun z => ⟨_, z ▸ ha2⟩) (o2.there a)
    have er : (List.range (i + 1)).filter p = (List.range i).filter p ++ if p i = true then [i] else [] := by
      rw [List.range_succ, List.filter_append]
      congr 1
      simp only [List.filter_cons, List.filter_nil]
    obtain ⟨tt, pt, qt⟩ := el
    refine ⟨tt, pt, qt _ G3 H3 _ s3.s rr fun G5 H5 s5 => ?_⟩
    have s35 := s3.trans s5
    cases hp : p i with
    | false =>
      refine iteF ⟨by rw [setAll_len]; exact hσ, s35.h _ _ ha2, G5, fq, s2.trans s35, ?_, ⟨w2.n, keepG s35 w2.g th2, w2.d⟩, ?_⟩
      · rw [er, hp, if_neg (by decide), List.append_nil]
        exact o2.mono s35.g s35.h
      · have := rpDrop (js' := js) (rr.mono s5.g)
        rwa [hdrop dd] at this
    | true =>
      obtain ⟨te, pe, qe⟩ := ev hp
      refine iteT ⟨te, pe, qe _ G5 H5 _ s5.s (rr.mono s5.g) fun v G6 H6 f6 s6 o6 w6 => ?_⟩
      have s36 := s35.trans s6
      have ha6 := s36.h _ _ ha2
      have nf6 : ∀ a ∈ f6, a ∉ acc :: fq := fun a ha hb => by
        obtain ⟨u, hu⟩ := th2 a hb
        have := s35.h _ _ hu
        rw [w6.n a ha] at this; cases this
      have ndq := List.nodup_cons.mp w2.d
      have g6 := keepG s36 w2.g th2
      refine ⟨ha6, by rw [setAll_len]; exact hσ, upd_same, G6, fq ++ (f6 ++ []), ⟨(s2.trans s36).g, fun b u hb => ?_, fun b u hb => ?_, (s2.trans s36).n⟩, ?_, ⟨fun a ha => ?_, fun a ha => ?_, ?_⟩, ?_⟩
      · rw [upd_ne fun z => by subst z; rw [hacc] at hb; cases hb]
        exact (s2.trans s36).h b u hb
      · rw [upd_ne fun z => by subst z; rw [g6 _ (.head _)] at hb; cases hb]
        exact s6.s b u hb
      · rw [er, hp, if_pos rfl, List.map_append]
        refine OwL.append ((o2.mono s36.g s36.h).frame ndq.1) ⟨v, [], f6, [], rfl, rfl, o6.frame fun z => nf6 _ z (.head _), rfl, rfl⟩
      · rw [List.append_nil] at ha
        rcases List.mem_cons.mp ha with z | z
        · exact w2.n a (z ▸ .head _)
        · rcases List.mem_append.mp z with z | z
          · exact w2.n a (.tail _ z)
          · exact (s2.trans s35).h.free (w6.n a z)
      · rw [List.append_nil] at ha
        rcases List.mem_cons.mp ha with z | z
        · exact g6 a (z ▸ .head _)
        · rcases List.mem_append.mp z with z | z
          · exact g6 a (.tail _ z)
          · exact w6.g a z
      · rw [List.append_nil]
        refine List.nodup_cons.mpr ⟨fun z => ?_, List.nodup_append.mpr ⟨ndq.2, w6.d, fun a ha b hb z => ?_⟩⟩
        · rcases List.mem_append.mp z with z | z
          · exact ndq.1 z
          · exact nf6 _ z (.head _)
        · subst z; exact nf6 a hb (.tail _ ha)
      · have := rpDrop (js' := js) (rr.mono (s5.trans s6).g)
        rwa [hdrop dd] at this
  · have e : i = its.length := by omega
    subst e
    refine .inl ⟨i2 rfl, k1 (.ref acc) G2 H2 (acc :: fq) s2 ⟨acc, ys, fq, rfl, ha2, o2, rfl⟩ w2⟩
theorem ev_lc {ifs : List Expr} {sc : Scope} {own : List Str} {fr : List Nat} {cl : ι → List (Str × Addr)} (L : ∀ i, LcScope (F.cx i) sc (cl i) fr) (hi : EvI F tg iter ρ its) (hg : EvG (famLc F own fr sc cl) tg js sp) (hjs : ∀ j ∈ js, j < own.length)
    (p : Nat → Bool) (f : Nat → Tr) (hz : its.length < sizeLine)
    (step : ∀ k d, its[k]? = some d → ∃ dd, sp d = some dd ∧ El (famLc F own fr sc cl) ifs (setAll js (dd.map .fz) (lcEn own fr ρ)) (p k) ∧ (p k = true → Ev (famLc F own fr sc cl) elt (setAll js (dd.map .fz) (lcEn own fr ρ)) (f k)))
    (hdrop : ∀ dd : List Dv, dropAll js (setAll js (dd.map .fz) (lcEn own fr ρ)) = lcEn own fr ρ)
    (hs : ∀ i x, foldedSetIterable iter (F.cx i).env x = pure x := by intro _ _; rfl) :
    Ev F (.ListComp elt [⟨tg, iter, ifs, 0⟩] sc pos) ρ (.ow (((List.range its.length).filter p).map f)) := by
  obtain ⟨τ, ⟨wi, g, tt, te, rfl, h1, h2, h3, h4⟩, h5⟩ := elc (ifs := ifs) hi hg hjs p f hz step hdrop
  exact ⟨_, fun i => pe_lc (cl := cl i) (L i) (F.calm i) (h1 i) (fun C s H ex pn => h2 (i, ⟨C, s, H, ex, pn⟩)) (fun C s H ex pn => h3 (i, ⟨C, s, H, ex, pn⟩)) (fun C s H ex pn => h4 (i, ⟨C, s, H, ex, pn⟩)) (hs i), h5⟩
end
structure IxD (k : Nat) (qual : Str) (sc : Scope) (f : Addr) where
  cdv : Value
  A : Around
  outer : List Env
  s : Shared
  H : Hp
  E : XK
  hr : Room k (A.deeper (envOfC qual sc s.heap.objs.size f cdv))
def famD (P : Program) (w : World) (K : PySem.W.Frag) (mg : Str → Option Value) (base : Heap) (N : List Str) (qual : Str) (sc : Scope) (f : Addr) (k : Nat) : Fam (IxD k qual sc f) where
  cx i := (cxOf CX0 P w K mg base N qual sc f i.cdv i.A i.outer i.s i.H i.E).nox
  P := P
  w := w
  K := K
  mg := mg
  base := base
  room := k
  hP _ := rfl
  hw _ := rfl
  hK _ := rfl
  hm _ := rfl
  hb _ := rfl
  hr i := i.hr
  calm _ := rfl
def enD (N : List Str) (dd : List Dv) : En := dd.map (fun d => some (.fz d)) ++ List.replicate (N.length - dd.length) none
theorem ows_none {K : PySem.W.Frag} {G H : Hp} : ∀ n : Nat, OwS K G H (List.replicate n none) (List.replicate n none) []
  | 0 => ⟨rfl, rfl⟩
  | n + 1 => ⟨none, List.replicate n none, rfl, ows_none n⟩
theorem ows_start {K : PySem.W.Frag} {G H : Hp} {n : Nat} : ∀ {dd : List Dv} {vs : List V}, HvL K G dd vs → OwS K G H (dd.map (fun d => some (.fz d)) ++ List.replicate n none) (vs.map some ++ List.replicate n none) []
  | [], _, h => by rw [show _ = [] from h]; exact ows_none n
  | _ :: _, _, ⟨x, r, h1, h2, h3⟩ => by subst h1; exact ⟨x, _, [], [], rfl, rfl, ⟨rfl, h2⟩, ows_start h3⟩
theorem fn_ok {P : Program} {w : World} {K : PySem.W.Frag} {mg : Str → Option Value} {base : Heap} {x qual : Str} {st : Stmt} {dV : Value} {f : Addr} {fd : FuncData} {N ps : List Str} {k : Nat} {R : List Dv → Tr → Prop} (Fd : FunD K x qual st dV f fd) (S : FnScope N ps (defScope st))
    (hl : ∀ dd t, R dd t → dd.length = ps.length)
    (hb : ∀ dd t, R dd t → ∃ o, (o = .rt t ∨ (t = tn ∧ ∃ ρ', o = .nx ρ')) ∧ Rns (famD P w K mg base N qual (defScope st) f k) (defBody st) (enD N dd) o) : FnOk P w K mg base CX0 (k + 1) f fd ps (spT K R) := by
  refine Fd.ok S (fun vs H Q E ⟨G, dd, t, s, h1, h2, h3⟩ => by rw [← h1.length]; exact hl dd t h2) fun cdv A outer s H vs Q E hr h => ?_
  obtain ⟨G, dd, t, s', h1, h2, h3⟩ := h
  obtain ⟨o, ho, τ, x, y⟩ := hb dd t h2
  refine ⟨τ, x ⟨cdv, A, outer, s, H, E, hr⟩, y _ (start N vs) G H G H ⟨[], .refl s', ?_, fun _ z => (nomatch z), fun _ z => (nomatch z), .nil⟩ ?_⟩
  · unfold start enD
    rw [← h1.length]
    exact ows_start h1
  · rcases ho with rfl | ⟨rfl, ρ', rfl⟩
    · exact fun v G1 H1 fq s1 o1 w1 => h3 v G1 H1 fq s1 o1 w1
    · exact fun σ G1 H1 ⟨fp, r⟩ => h3 .non G1 H1 [] r.st ⟨rfl, rfl, rfl⟩ .nil
end L2
namespace L2
open PySem PySem.Spec PyProof.Rows
def Ite (K : PySem.W.Frag) (l : Addr) (xs : List V) : It :=
  ⟨fun i H => SqL K H l xs ∧ i < xs.length, fun i H x H' => ∃ T v, H T = none ∧ xs[i]? = some v ∧ x = .ref T ∧ H' = upd H T (.tup [.int (i : Nat), v]), fun i H => SqL K H l xs ∧ i = xs.length⟩
section
variable {X : Cx} {pins : List (Addr × Obj)} {σ : St} {H : Hp} {s : Shared}
theorem Inv.turnedL {t' : Nat} {fs : List Addr} {h' : Heap} (I : Inv X pins σ H s) (k : ∀ b o, b ∉ fs → s.heap.get? b = some o → h'.get? b = some o) (hf : ∀ b ∈ fs, FpOk X pins H b) : Inv X pins σ H { s with heap := h', toks := t' } := by
  have nit : ∀ b u, H b = some u → b ∉ fs := fun b u e z => by rw [(hf b z).1] at e; cases e
  refine I.step (g' := s.gens) (d' := s.drawn) (ch := fs) (fun b hb => ?_) (fun b o _ _ hc e _ => k b o hc e) (fun b o _ _ hc e _ => ⟨o.slots, k b o hc e⟩) (fun _ _ _ _ n => n)
    (fun b o hc e => ⟨o, k b o hc e⟩) (fun _ _ e => e) (fun _ _ _ e => e) (fun b ps e => ⟨#[], by rw [e]; simp⟩) (fun m hm => ?_) (fun b u e => ?_) I.bare
  · obtain ⟨f0, f1, f2, f3, f4, f5⟩ := hf b hb
    exact ⟨f3, f1, f4, f5⟩
  · obtain ⟨o, es, ep, ho, r⟩ := hm
    exact ⟨o, es, ep, k _ o (fun z => (hf _ z).2.1 rfl) ho, r⟩
  · refine (I.hok b u e).stay (fun c v hc q => k c v ?_ q) (fun _ q => q) fun _ _ q => q
    rcases hc with z | z
    · rw [z]; exact nit b u e
    · exact nit c _ z
theorem Inv.turnedT {t' : Nat} {fs : List Addr} {h' : Heap} {T : Addr} {vs : List V} (I : Inv X pins σ H s) (k : ∀ b o, b ∉ fs → s.heap.get? b = some o → h'.get? b = some o) (hf : ∀ b ∈ fs, FpOk X pins H b) (hT : s.heap.objs.size ≤ T)
    (new : ObjOk X.prog X.w (upd H T (.tup vs)) h' T (.tup vs)) : Inv X pins σ (upd H T (.tup vs)) { s with heap := h', toks := t' } := by
  have hn : H T = none := I.hok.fresh hT
  have nit : ∀ b u, H b = some u → b ∉ fs := fun b u e z => by rw [(hf b z).1] at e; cases e
  have ne : ∀ b o, s.heap.get? b = some o → b ≠ T := fun b o e z => by subst z; exact absurd (Nat.lt_of_lt_of_le (Heap.lt_size e) hT) (Nat.lt_irrefl _)
  refine I.step (g' := s.gens) (d' := s.drawn) (ch := fs) (fun b hb => ?_) (fun b o _ _ hc e _ => k b o hc e) (fun b o _ _ hc e _ => ⟨o.slots, k b o hc e⟩) (fun b o _ e n => by rw [upd_ne (ne b o e)]; exact n)
    (fun b o hc e => ⟨o, k b o hc e⟩) (fun _ _ e => by rw [upd_ne (ne_of_none e hn)]; exact e) (fun _ _ _ e => by rw [upd_ne (ne_of_none e hn)]; exact e) (fun b ps e => ⟨#[], by rw [upd_ne (ne_of_none e hn), e]; simp⟩) (fun m hm => ?_) (fun b u e => ?_) I.bare
  · obtain ⟨f0, f1, f2, f3, f4, f5⟩ := hf b hb
    exact ⟨f3, f1, f4, f5⟩
  · obtain ⟨o, es, ep, ho, r⟩ := hm
    exact ⟨o, es, ep, k _ o (fun z => (hf _ z).2.1 rfl) ho, r⟩
  · by_cases hb : b = T
    · subst hb; rw [upd_same] at e; cases e; exact new
    · rw [upd_ne hb] at e
      refine (I.hok b u e).stay (fun c v hc q => k c v ?_ q) (fun c q => by rw [upd_ne (ne_of_none q hn)]; exact q) fun c xs q => by rw [upd_ne (ne_of_none q hn)]; exact q
      rcases hc with z | z
      · rw [z]; exact nit b u e
      · exact nit c _ z
end
theorem turn_enum {P : Program} {w : World} {K : PySem.W.Frag} {elts : List Expr} {kk : Nat} {pos : Pos} {e it l : Addr} {xs : List V} (hei : e ≠ it) (hle : l ≠ e) (hli : l ≠ it) :
    Turn P w K (.Tuple elts kk pos) (Ite K l xs) [e, it] e (fun i h => (∃ old, IsEnum h e it i old) ∧ h.IsListIter it l i) where
  mem := by simp
  obj := by
    rintro i h ⟨⟨old, h1⟩, ⟨o1, h4, _, h5⟩⟩ b hb
    simp only [List.mem_cons, List.not_mem_nil, or_false] at hb
    rcases hb with rfl | rfl
    · exact ⟨_, h1, fun v z => by cases z⟩
    · exact ⟨_, h4, fun v z => by rw [h5] at z; cases z⟩
  keep := by
    rintro i h h' ⟨⟨old, h1⟩, h4⟩ k
    exact ⟨⟨old, k _ (by simp) _ h1⟩, h4.at fun o e => k _ (by simp) o e⟩
  item := by
    intro X hP hw hK hc i pins s σ H E I hf st hg
    subst hP hw hK
    obtain ⟨hq1, hlt⟩ := hg
    obtain ⟨its1, rv1, p1, hz1⟩ := I.list hq1
    have e1 := rv1.length
    have W := WalksT.enumerate (prog := X.prog) (w := X.w) (A := X.A) (I.ok.hd hc) e it l hei hle hli its1.toArray
    refine W.item i s _ _ (by simp; omega) ⟨st.1, st.2, p1.isList⟩ fun T vals h' tk hPt hTn hTup hMid hk => ⟨.ref T, rfl, W.go elts kk pos i T _ _ _ hMid fun h'' st'' hk'' => ?_⟩
    obtain ⟨t, x, hx, rfl⟩ := hPt
    have hx1 : xs[i]? = some (xs[i]'(by omega)) := List.getElem?_eq_getElem _
    obtain ⟨u, hu, ru⟩ := rv1.get hx1
    have ex : x = u := by
      have : its1[i]? = some x := by simpa using hx
      rw [hu] at this; exact (Option.some.inj this).symm
    subst ex
    have hT2 : IsTup h'' T [Value.int (i : Nat) t, x].toArray := hTup.at fun o e => hk'' T o (W.apart i T _ hMid) e
    refine ⟨.ref T, upd H T (.tup [.int (i : Nat), xs[i]'(by omega)]), I.turnedT (fs := [e, it]) (fun b o hb e => hk'' b o hb (hk b o hb e)) hf hTn ⟨by show 2 ≤ sizeLine; decide, [.int (i : Nat) t, x], .cons ⟨t, rfl⟩ (.cons ru .nil), hT2⟩, rfl,
      ⟨T, _, I.hok.fresh hTn, hx1, rfl, rfl⟩, ⟨st''.1, st''.2.1⟩, fun b hb => ?_⟩
    obtain ⟨o, eo, _⟩ : ∃ o, s.heap.get? b = some o ∧ True := by
      obtain ⟨⟨old, g1⟩, ⟨o1, g4, _⟩⟩ := st
      simp only [List.mem_cons, List.not_mem_nil, or_false] at hb
      rcases hb with rfl | rfl
      · exact ⟨_, g1, trivial⟩
      · exact ⟨_, g4, trivial⟩
    rw [upd_ne (Nat.ne_of_lt (Nat.lt_of_lt_of_le (Heap.lt_size eo) hTn))]
    exact (hf b hb).1
  done := by
    intro X hP hw hK hc i pins s σ H E I hf st hg
    subst hP hw hK
    obtain ⟨hq1, rfl⟩ := hg
    obtain ⟨its1, rv1, p1, hz1⟩ := I.list hq1
    have e1 := rv1.length
    have W := WalksT.enumerate (prog := X.prog) (w := X.w) (A := X.A) (I.ok.hd hc) e it l hei hle hli its1.toArray
    have en : its1.toArray.size = xs.length := by simp only [List.size_toArray]; omega
    exact W.done s _ _ (by rw [en]; exact ⟨st.1, st.2, p1.isList⟩) fun h' tk hk => ⟨rfl, I.turnedL (fs := [e, it]) hk hf⟩
  self := fun A i s Q E st h => by
    obtain ⟨⟨old, h1⟩, _⟩ := st
    exact wpAny_pyIter_enum h1 h
def iEnu (K : PySem.W.Frag) (ta : TA) : TI := fun σ H R => ta σ H fun vs H1 => ∃ l xs, vs = [.ref l] ∧ SqL K H1 l xs ∧ R (Ite K l xs) H1
section
variable {X : Cx} {elts : List Expr} {kk : Nat} {tp : Pos}
theorem pi_enum {a : Expr} {ta : TA} {p pos : Pos} (hg : Gl X "enumerate") (hm : X.mg "enumerate" = none) (ha : PA X [a] ta) (hs : starEach [a] X.env = [(false, eval a X.env)] := by rfl) :
    PI X (.Tuple elts kk tp) (.Call (.Name "enumerate" p) [a] [] pos) (iEnu X.K ta) := by
  intro pins s σ H R I h
  refine Call_ (ld_blt I hg hm bt_enumerate (PyProof.Rows.callWith_type1 (thn (ha pos pins s σ H _ I h) fun us s1 ⟨vs, H1, I1, r1, q1⟩ => ?_) hs rfl))
  obtain ⟨l, xs, rfl, hq1, q⟩ := q1
  obtain ⟨u1, rfl, c1⟩ := r1.one
  cases c1
  obtain ⟨its1, rv1, p1, hz1⟩ := I1.list hq1
  have lt1 : l < s1.heap.objs.size := by obtain ⟨o, n, e, _⟩ := p1; exact Heap.lt_size e
  refine call_enumerate_list p1.isList fun h' hE hI hsz hk => wpAny_pyIter_enum hE ?_
  have I2 : Inv X pins σ H1 { s1 with heap := h' } := I1.kept (t' := s1.toks) hk
  refine ⟨s1.heap.objs.size + 1, [s1.heap.objs.size + 1, s1.heap.objs.size], _, _, H1, rfl, I2, turn_enum (Nat.succ_ne_self _) (PySem.W.ktu_ne 1 lt1) (Nat.ne_of_lt lt1), ⟨⟨_, hE⟩, hI⟩, fun b hb => ?_, q⟩
  have hb' : s1.heap.objs.size ≤ b := by
    simp only [List.mem_cons, List.not_mem_nil, or_false] at hb
    rcases hb with rfl | rfl <;> omega
  obtain ⟨f0, f1, f2, f3, f4, f5⟩ := I1.fpOk (H' := H1) hb' (I1.hok.fresh hb')
  exact ⟨f0, f1, f2, f3, f4, f5⟩
end
section
variable {ι : Type} {F : Fam ι} {a b tg : Expr} {ρ : En} {ta tb' : Tr} {elts : List Expr} {kk : Nat} {tp pos : Pos}
def enuD (xs : List Dv) : List Dv := (List.range xs.length).zipWith (fun k x => .tup [di (k : Nat), x]) xs
theorem evi_enum {xs : List Dv} (hm : F.mg "enumerate" = none) (ha : Ev F a ρ ta) (ea : er ta = .lst xs) {p : Pos} (hg : ∀ i, Gl (F.cx i) "enumerate" := by intro _; rfl)
    (hs : ∀ i, starEach [a] (F.cx i).env = [(false, eval a (F.cx i).env)] := by intro _; rfl) : EvI F (.Tuple elts kk tp) (.Call (.Name "enumerate" p) [a] [] pos) ρ (enuD xs) := by
  obtain ⟨τ, p, q⟩ := (eva_cons ha eva_nil hs).use
  refine ⟨iEnu F.K τ, fun i => F.hK i ▸ pi_enum (hg i) ((F.hm i).symm ▸ hm) (p i) (hs i), fun σ G H R s r k => q σ G H _ s r fun vs G1 H1 s1 hx => ?_⟩
  obtain ⟨x, rfl, h1⟩ := hvl1 hx
  rw [ea] at h1
  obtain ⟨l1, us, rfl, g1, g2⟩ := h1
  have e1 := g2.length
  refine ⟨l1, us, rfl, s1.s.seq g1, k _ G1 H1 s1 fun j G2 H2 sg sh => ⟨fun d hd => ?_, fun hz => ?_⟩⟩
  · unfold enuD at hd
    rw [List.getElem?_zipWith] at hd
    cases qx : xs[j]? with
    | none =>
      rw [qx] at hd
      cases q2 : (List.range xs.length)[j]? with
      | none => rw [q2] at hd; cases hd
      | some z => rw [q2] at hd; cases hd
    | some dx =>
      have lj : j < xs.length := (List.getElem?_eq_some_iff.mp qx).1
      rw [qx, List.getElem?_range lj] at hd
      cases hd
      obtain ⟨vx, x1, x2⟩ := g2.get qx
      refine ⟨⟨(sg.trans sh).seq g1, by omega⟩, ?_⟩
      rintro x H3 ⟨T, wx, hT, z1, rfl, rfl⟩
      rw [x1] at z1
      cases z1
      exact ⟨_, .new sh hT, T, _, rfl, SqT.of upd_same, _, _, rfl, ⟨rfl, rfl⟩, _, _, rfl, (x2.mono sg).mono (Same.new (sh.free hT)), rfl⟩
  · refine ⟨(sg.trans sh).seq g1, ?_⟩
    rw [hz]
    unfold enuD
    rw [List.length_zipWith, List.length_range, Nat.min_self, e1]
theorem tupOf_some {n : Nat} {ds dd : List Dv} (e : tupOf n (.tup ds) = some dd) : ds.length = n ∧ dd = ds := by
  have e' : (if ds.length = n then some ds else none) = some dd := e
  by_cases h : ds.length = n
  · rw [if_pos h] at e'; cases e'; exact ⟨h, rfl⟩
  · rw [if_neg h] at e'; cases e'
theorem evg_t2 (j1 j2 : Nat) {x y : Str} {px py : Pos} (hN : ∀ i, (F.cx i).N.Nodup) (h1 : ∀ i, (F.cx i).N[j1]? = some x := by intro _; rfl) (h2 : ∀ i, (F.cx i).N[j2]? = some y := by intro _; rfl)
    (hx : ∀ i, Loc (F.cx i).env.scope x := by intro _; first | exact Or.inl rfl | exact Or.inr rfl) (hy : ∀ i, Loc (F.cx i).env.scope y := by intro _; first | exact Or.inl rfl | exact Or.inr rfl)
    (fx : ∀ i, (F.cx i).fn x = true ∨ (F.cx i).env.scope.names.lookup x = some .local := by intro _; first | exact .inl rfl | exact .inr rfl) (fy : ∀ i, (F.cx i).fn y = true ∨ (F.cx i).env.scope.names.lookup y = some .local := by intro _; first | exact .inl rfl | exact .inr rfl) :
    EvG F (.Tuple [.Name x px, .Name y py] kk tp) [j1, j2] (tupOf 2) :=
  ⟨gTup F.K 2 (gCons (gName j1) (gCons (gName j2) gNil)), fun i => F.hK i ▸ pg_tup (F.calm i) (pgs_cons (pg_name (hN i) (h1 i) (hx i) (fx i)) (pgs_cons (pg_name (hN i) (h2 i) (hy i) (fy i)) pgs_nil)), fun d dd v σ G H Q e s h k => by
    cases d with
    | fl _ => cases e
    | lst _ => cases e
    | tup ds =>
      obtain ⟨hl, rfl⟩ := tupOf_some e
      obtain ⟨a, vs, rfl, q1, q2⟩ := h
      have hv : vs.length = 2 := by rw [← q2.length]; exact hl
      refine ⟨a, vs, rfl, s.tup q1, hv, ?_⟩
      match vs, hv with
      | [v1, v2], _ => exact ⟨v1, [v2], rfl, v2, [], rfl, rfl, k [v1, v2] q2⟩⟩
theorem evg_t3 (j1 j2 j3 : Nat) {x y z : Str} {px py pz : Pos} (hN : ∀ i, (F.cx i).N.Nodup) (h1 : ∀ i, (F.cx i).N[j1]? = some x := by intro _; rfl) (h2 : ∀ i, (F.cx i).N[j2]? = some y := by intro _; rfl) (h3 : ∀ i, (F.cx i).N[j3]? = some z := by intro _; rfl)
    (hx : ∀ i, Loc (F.cx i).env.scope x := by intro _; first | exact Or.inl rfl | exact Or.inr rfl) (hy : ∀ i, Loc (F.cx i).env.scope y := by intro _; first | exact Or.inl rfl | exact Or.inr rfl) (hz : ∀ i, Loc (F.cx i).env.scope z := by intro _; first | exact Or.inl rfl | exact Or.inr rfl)
    (fx : ∀ i, (F.cx i).fn x = true ∨ (F.cx i).env.scope.names.lookup x = some .local := by intro _; first | exact .inl rfl | exact .inr rfl) (fy : ∀ i, (F.cx i).fn y = true ∨ (F.cx i).env.scope.names.lookup y = some .local := by intro _; first | exact .inl rfl | exact .inr rfl)
    (fz : ∀ i, (F.cx i).fn z = true ∨ (F.cx i).env.scope.names.lookup z = some .local := by intro _; first | exact .inl rfl | exact .inr rfl) :
    EvG F (.Tuple [.Name x px, .Name y py, .Name z pz] kk tp) [j1, j2, j3] (tupOf 3) :=
  ⟨gTup F.K 3 (gCons (gName j1) (gCons (gName j2) (gCons (gName j3) gNil))), fun i => F.hK i ▸ pg_tup (F.calm i) (pgs_cons (pg_name (hN i) (h1 i) (hx i) (fx i)) (pgs_cons (pg_name (hN i) (h2 i) (hy i) (fy i)) (pgs_cons (pg_name (hN i) (h3 i) (hz i) (fz i)) pgs_nil))), fun d dd v σ G H Q e s h k => by
    cases d with
    | fl _ => cases e
    | lst _ => cases e
    | tup ds =>
      obtain ⟨hl, rfl⟩ := tupOf_some e
      obtain ⟨a, vs, rfl, q1, q2⟩ := h
      have hv : vs.length = 3 := by rw [← q2.length]; exact hl
      refine ⟨a, vs, rfl, s.tup q1, hv, ?_⟩
      match vs, hv with
      | [v1, v2, v3], _ => exact ⟨v1, [v2, v3], rfl, v2, [v3], rfl, v3, [], rfl, rfl, k [v1, v2, v3] q2⟩⟩
theorem rn_set2 {e : Expr} {t : Tr} {js : List Nat} {sp : Dv → Option (List Dv)} {dd : List Dv} (he : EvS F e ρ t) (hg : EvG F tg js sp) (hd : sp (er t) = some dd) (hj : js.all (fun j => Nat.blt j ρ.length) = true := by rfl)
    (hs : ∀ i, swapsWithSole [tg] e pos.line (F.cx i).env = pure false := by intro _; rfl) (hw : ∀ i, swappedStores [tg] e (F.cx i).env = pure none := by intro _; rfl)
    (h1 : ∀ i, (assignEach [tg] (F.cx i).env).map (·.2) = [assign tg (F.cx i).env] := by intro _; rfl) : Rn F (.Assign [tg] e pos) ρ (.nx (setAll js (dd.map .fz) ρ)) := by
  obtain ⟨τ, y, z⟩ := he
  obtain ⟨g, pg, qg⟩ := hg
  refine ⟨tAsg τ g, fun i => ps_asg (y i) (pg i) (hs i) (hw i) (h1 i), fun D σ G0 H0 G H r k => ?_⟩
  obtain ⟨fp, r⟩ := r
  refine z σ G H fp _ r.st.s r.own r.g fun v G1 H1 fq s1 o w => ?_
  refine qg (er t) dd v σ (frzd G1 H1 fq) H1 _ hd (frzd_sub s1.s) (o.hv (frzd_same w.g) fun a ha => frzd_in ha) fun vs hvs => k _ (frzd G1 H1 fq) H1 (RS.setAll (blts hj) hvs ⟨fp, r.st.trans (s1.frz w), r.own.mono (s1.frz w).g s1.h, fun a ha => ?_, r.n, r.d⟩)
  cases q : frzd G1 H1 fq a with
  | none => rfl
  | some u =>
    obtain ⟨u', hu'⟩ := r.own.there a ha
    have := (s1.frz w).n a (r.g a ha) (by rw [q]; exact fun z => nomatch z)
    rw [hu'] at this; cases this
end
end L2
namespace L2
open PySem PySem.Spec PyProof.Rows
theorem ps_lcset {X : Cx} {elt tg iter : Expr} {ifs : List Expr} {sc : Scope} {cl : List (Str × Addr)} {own : List Str} {fr : List Nat} {pos spos py : Pos} {wi : TI} {g : TG} {tt : TT} {te : TE} {y0 : Str} {j0 : Nat}
    (L : LcScope X sc cl fr) (hc : X.calm = true) (hi : PI X tg iter wi)
    (hg : ∀ C s H ex pn, PG (cxLc X own fr sc cl C s H ex pn) tg g)
    (ht : ∀ C s H ex pn (pins : List (Addr × Obj)) (s1 : Shared) (σ1 : St) (H1 : Hp) (Q : Bool → Hp → Prop), Inv (cxLc X own fr sc cl C s H ex pn) pins σ1 H1 s1 → tt σ1 H1 Q →
      wpAny (model X.prog X.w) X.A (lcTests ifs (compEnvC sc (cellsFrom (C + 1) sc.names cl) C X.env)) (TP (cxLc X own fr sc cl C s H ex pn) pins σ1 Q) NoX s1)
    (he : ∀ C s H ex pn, PE (cxLc X own fr sc cl C s H ex pn) elt te) (hN0 : X.N.Nodup) (hj0 : X.N[j0]? = some y0) (hx0 : Loc X.env.scope y0)
    (hsw : swapsWith (.ListComp elt [⟨tg, iter, ifs, 0⟩] sc pos) (some (.Name y0 py)) spos.line X.env = pure true) (hf0 : X.fn y0 = true ∨ X.env.scope.names.lookup y0 = some .local) (hs : ∀ x, foldedSetIterable iter X.env x = pure x := by intro _; rfl) :
    PS X (.Assign [.Name y0 py] (.ListComp elt [⟨tg, iter, ifs, 0⟩] sc pos) spos) (tAsg (tLc wi g tt te own fr) (gName j0)) := by
  intro pins s σ H D I h
  rw [exec_Assign_Name_used _ _ _ _ hsw]
  refine wpAny_bind (wpAny_standAt (wpAny_bind ?_))
  show wpAny _ X.A (do let _ ← comprehension (.ListComp elt [⟨tg, iter, ifs, 0⟩] sc pos) sc X.env _ (newList []) false (eval iter X.env) (some (assign (.Name y0 py) X.env))) _ _ s
  refine wpAny_bind (wpAny_mono (wpAny_comprehension_free (use := some (assign (.Name y0 py) X.env)) (Q := fun _ s' => SP X pins D .next s') rfl hs L.clos L.kind L.names (thn (hi pins s σ H _ I h) fun v s1 h1 => thn h1 fun itv s2 h2 => ?_)) (fun _ s' hq => wpAny_pure (wpAny_pure hq)) fun _ _ e => e)
  obtain ⟨it, fp, tn, J, H2, e, I2, T, st2, f2, h2⟩ := h2
  subst e
  refine wpAny_newObj_type ?_
  have I3 : Inv X pins σ (upd H2 s2.heap.objs.size (.lst [])) { s2 with heap := s2.heap.push { cls := .type "list", data := .seq ([] : List Value).toArray } } := I2.lnew (t' := s2.toks) .nil (Nat.zero_le _)
  have n2 : H2 s2.heap.objs.size = none := I2.fresh
  obtain ⟨W, ⟨m0, w0⟩, turn⟩ := h2 _ n2
  have lt2 : ∀ b ∈ fp, b < s2.heap.objs.size := fun b hb => by
    obtain ⟨o, eo, _⟩ := T.obj 0 _ st2 b hb
    exact Heap.lt_size eo
  have fp3 : ∀ b ∈ fp, FpOk X pins (upd H2 s2.heap.objs.size (.lst [])) b := fun b hb => ⟨by rw [upd_ne (Nat.ne_of_lt (lt2 b hb))]; exact (f2 b hb).1, (f2 b hb).2⟩
  generalize hs3 : ({ s2 with heap := s2.heap.push { cls := .type "list", data := .seq ([] : List Value).toArray } } : Shared) = s3 at I3
  have st3 : tn 0 s3.heap := by
    rw [← hs3]
    exact T.keep 0 _ _ st2 fun b hb o eo => Heap.get?_push_of_some _ eo
  have lt3 : ∀ b ∈ fp, b < s3.heap.objs.size := fun b hb => by
    obtain ⟨o, eo, _⟩ := T.obj 0 _ st3 b hb
    exact Heap.lt_size eo
  generalize hH3 : upd H2 s2.heap.objs.size (.lst []) = H3 at I3 fp3 w0
  generalize s2.heap.objs.size = acc at turn w0 hH3 ⊢
  refine newEnv_cells ?_
  have hns : (pushCells (s3.heap.push { cls := .type "dict", data := .dict #[] }) sc.names).Ns s3.heap.objs.size fun _ => none := (Heap.Ns.new s3.heap (.type "dict")).keeps (pushCells_keeps _ _)
  have kp : ∀ b o, s3.heap.get? b = some o → (pushCells (s3.heap.push { cls := .type "dict", data := .dict #[] }) sc.names).get? b = some o := fun b o eo => pushCells_keeps _ _ b o (Heap.get?_push_of_some _ eo)
  have ncl : ∀ y c, (cellsFrom (s3.heap.objs.size + 1) sc.names cl).lookup y = some c → cl.lookup y = some c ∨ (pushCells (s3.heap.push { cls := .type "dict", data := .dict #[] }) sc.names).IsCell c none := fun y c e =>
    cf_cell sc.names (s3.heap.push { cls := .type "dict", data := .dict #[] }) cl y c (by rw [Heap.size_push]; exact e)
  generalize hh4 : pushCells (s3.heap.push { cls := .type "dict", data := .dict #[] }) sc.names = h4 at hns kp ncl
  have I4 := lcInv (own := own) (tk := s3.toks) L I3 fp3 lt3 hns kp ncl
  have st4 : tn 0 h4 := T.keep 0 _ _ st3 fun b hb o eo => kp b o eo
  have stat : ∀ {H' : Hp}, (∀ b ∈ fp, H' b = none) → ∀ b ∈ fp, FpOk (cxLc X own fr sc cl s3.heap.objs.size s3 H3 fp (X.pn ++ pins)) [] H' b := fun {H'} hn b hb =>
    ⟨hn b hb, Nat.ne_of_lt (lt3 b hb), fun z => (List.mem_cons.mp (I3.stkSub b z)).elim (fp3 b hb).2.1 (fp3 b hb).2.2.1, .inl hb, fun y c e => (cf_lookup _ _ _ y c e).elim (fun q => (fp3 b hb).2.2.2.2.1 y c (L.sub y c q)) fun q => Nat.ne_of_gt (Nat.lt_of_lt_of_le (lt3 b hb) (Nat.le_of_succ_le q.1)), fun p hp => (fp3 b hb).2.2.2.2.2 p (by
      have z : p ∈ (X.pn ++ pins) ++ [] := hp
      simpa using z)⟩
  have loop : codeAny (model X.prog X.w) X.A (.compLoop (.ListComp elt [⟨tg, iter, ifs, 0⟩] sc pos) 0 (.ref it) (.ref acc) (compEnvC sc (cellsFrom (s3.heap.objs.size + 1) sc.names cl) s3.heap.objs.size X.env))
      (compPost (model X.prog X.w) X.A X.xe (some (assign (.Name y0 py) X.env)) (fun _ s' => SP X pins D .next s') (.ref acc) s3.heap.objs.size) { s3 with heap := h4, toks := s3.toks } := by
    refine lcLoop (fun n s' => ∃ i ys σ1 H1, Inv (cxLc X own fr sc cl s3.heap.objs.size s3 H3 fp (X.pn ++ pins)) [] σ1 H1 s' ∧ tn i s'.heap ∧ (∀ b ∈ fp, H1 b = none) ∧ W i n ys σ1 H1) ?_ m0 ⟨0, [], _, H3, I4, st4, fun b hb => (fp3 b hb).1, w0⟩
    rintro n s5 ⟨i, ys, σ5, H5, I5, st5, fr5, w5⟩
    obtain ⟨hacc, hlen, hh⟩ := turn i n ys σ5 H5 w5
    rcases hh with ⟨stop, qn⟩ | ⟨go, N, hN, step⟩
    · refine thn (T.done (cxLc X own fr sc cl s3.heap.objs.size s3 H3 fp (X.pn ++ pins)) rfl rfl rfl hc i [] s5 σ5 H5 NoX I5 (stat fr5) st5 stop) fun r s6 ⟨hr, I6⟩ => ?_
      subst hr
      obtain ⟨m6, ns6, _⟩ := id I6.loc
      have back : ∀ h7, Heap.SameBut s3.heap.objs.size s6.heap h7 → Inv X pins σ H5 { s6 with heap := h7 } := fun h7 sb7 => by
        have old : ∀ b o, s3.heap.get? b = some o → b ≠ s3.heap.objs.size := fun b o eo => Nat.ne_of_lt (Heap.lt_size eo)
        have u6 : Un (frs X.stack) fp H3 H5 s3.heap s6.heap := I6.base
        have u7 : Un (frs X.stack) fp H3 H5 s3.heap h7 :=
          ⟨fun b o eo nn hb hx => (sb7.2 b (old b o eo)).trans (u6.keep b o eo nn hb hx), fun b o eo nn hb hx => by
            obtain ⟨sl, q⟩ := u6.slot b o eo nn hb hx
            exact ⟨sl, (sb7.2 b (old b o eo)).trans q⟩, u6.free, fun b o eo hx => by
            obtain ⟨o', q⟩ := u6.there b o eo hx
            exact ⟨o', (sb7.2 b (old b o eo)).trans q⟩, u6.tups, u6.frzs, u6.tbls⟩
        have fC : H5 s3.heap.objs.size = none := I6.free
        have hok7 : HOk X.prog X.w H5 h7 := fun b ob eb => by
          refine (I6.hok b ob eb).stay (fun c w' hc' q => (sb7.2 c ?_).trans q) (fun _ q => q) fun _ _ q => q
          rintro rfl
          rcases hc' with z | z
          · rw [← z, fC] at eb; cases eb
          · rw [fC] at z; cases z
        exact I3.call' (s' := { s6 with heap := h7 }) I6.os u7 hok7 I6.bare fun b hb => ⟨(fp3 b hb).2.2.2.1, (fp3 b hb).2.1, (fp3 b hb).2.2.2.2.1, (fp3 b hb).2.2.2.2.2⟩
      have fC0 : H5 s3.heap.objs.size = none := I6.free
      show wpAny _ _ (assign (.Name y0 py) X.env (.ref acc)) _ X.xe s6
      refine wpAny_assign_Name (store_ok2 (v := .ref acc) (back s6.heap (Heap.SameBut.refl ..)) hN0 hj0 hx0 rfl (fun s7 I7 ⟨a, sb, ha⟩ => ?_) hf0)
      have aC : s3.heap.objs.size ≠ a := by
        rcases ha with rfl | ha
        · exact Nat.ne_of_gt I3.lt
        · obtain ⟨v0, q0⟩ := I3.cell y0 a ha
          exact Nat.ne_of_gt q0.lt
      refine ⟨m6, ns6.sameBut sb aC, fun h8 sb8 => ⟨_, H5, ?_, qn⟩⟩
      exact Inv.turnedL (t' := s7.toks) (fs := [s3.heap.objs.size]) I7 (fun b o hb e => (sb8.2 b (fun z => hb (by rw [z]; exact .head _))).trans e) (fun b hb => by
        rw [List.mem_singleton.mp hb]
        exact I3.fpOk (H' := H5) (Nat.le_refl _) fC0)
    · refine thn (T.item (cxLc X own fr sc cl s3.heap.objs.size s3 H3 fp (X.pn ++ pins)) rfl rfl rfl hc i [] s5 σ5 H5 NoX I5 (stat fr5) st5 go) fun r s6 ⟨u, hr, h6⟩ => ?_
      subst hr
      refine thn h6 fun _ s7 ⟨x, H7, I7, r7, y7, st7, fr7⟩ => ?_
      have I7' := I7.pinned (stat fr7) (T.obj _ _ st7)
      refine thn (hg _ _ _ _ _ _ s7 σ5 H7 x u _ I7' r7 (step x H7 y7)) fun _ s8 ⟨σ8, H8, I8, q8⟩ => ?_
      have again : ∀ {zs : List V} {σ9 : St} {H9 : Hp} {s9 : Shared}, Inv (cxLc X own fr sc cl s3.heap.objs.size s3 H3 fp (X.pn ++ pins)) ([] ++ pinsAt fp s7.heap) σ9 H9 s9 → N zs σ9 H9 →
          ∃ m, m < n ∧ ∃ i ys σ1 H1, Inv (cxLc X own fr sc cl s3.heap.objs.size s3 H3 fp (X.pn ++ pins)) [] σ1 H1 s9 ∧ tn i s9.heap ∧ (∀ b ∈ fp, H1 b = none) ∧ W i m ys σ1 H1 := fun {zs σ9 H9 s9} I9 n9 => by
        obtain ⟨m', hm, w9⟩ := hN zs σ9 H9 n9
        refine ⟨m', hm, i + 1, zs, σ9, H9, I9.unpinned, T.keep _ _ _ st7 fun b hb o e => (I9.pin (b, o) (List.mem_append_right _ (List.mem_append_right _ (mem_pinsAt hb e)))).1, fun b hb => ?_, w9⟩
        obtain ⟨o, e, d⟩ := T.obj _ _ st7 b hb
        exact (I9.pin (b, o) (List.mem_append_right _ (List.mem_append_right _ (mem_pinsAt hb e)))).2.1
      refine thn (ht _ _ _ _ _ _ s8 σ8 H8 _ I8 q8) fun ok s9 ⟨H9, I9, q9⟩ => ?_
      cases ok with
      | false => exact again I9 (by simpa using q9)
      | true =>
        refine thn (he _ _ _ _ _ _ s9 σ8 H9 _ I9 q9) fun z s10 ⟨y, H10, I10, r10, a10, q10⟩ => ?_
        refine thn (mt_append _ s10 σ8 H10 (.ref acc) [y] (.ref acc) [z] (fun _ H' => N (ys ++ [y]) σ8 H') I10 rfl (.cons r10 .nil) ⟨acc, ys, y, rfl, rfl, a10, hlen, q10⟩) fun _ s11 ⟨_, H11, I11, _, q11⟩ => again I11 q11
  rw [← hs3] at loop ⊢
  exact codeAny_compStart_list loop (noX (T.self _ 0 _ _ _ st4 (by rw [hs3]; rw [hs3] at loop; exact loop)))
section
variable {ι : Type} {F : Fam ι} {elt tg iter : Expr} {ifs : List Expr} {sc : Scope} {own : List Str} {fr : List Nat} {cl : ι → List (Str × Addr)} {ρ : En} {t : Tr} {pos spos py : Pos}
theorem ElcS (h : Elc F own fr sc cl elt tg iter ifs ρ t) : ∃ τ, LcV F own fr sc cl elt tg iter ifs τ ∧ ∀ σ G H fp Q, Same G H → OwS F.K G H ρ σ fp → (∀ a ∈ fp, G a = none) → Kv F.K G H t Q → τ σ H Q :=
  let ⟨τ, v, y⟩ := h; ⟨τ, v, fun σ G H fp Q s r _ k => y σ G H Q s r.rpd k⟩
theorem rn_lcG (j : Nat) {x : Str} (h : ∃ τ, LcV F own fr sc cl elt tg iter ifs τ ∧ ∀ σ G H fp Q, Same G H → OwS F.K G H ρ σ fp → (∀ a ∈ fp, G a = none) → Kv F.K G H t Q → τ σ H Q) (L : ∀ i, LcScope (F.cx i) sc (cl i) fr) (hN : ∀ i, (F.cx i).N.Nodup) (hj : Nat.blt j ρ.length = true := by rfl) (hi : ∀ i, (F.cx i).N[j]? = some x := by intro _; rfl)
    (hx : ∀ i, Loc (F.cx i).env.scope x := by intro _; first | exact Or.inl rfl | exact Or.inr rfl) (hsw : ∀ i, swapsWith (.ListComp elt [⟨tg, iter, ifs, 0⟩] sc pos) (some (.Name x py)) spos.line (F.cx i).env = pure true := by intro _; rfl)
    (hf : ∀ i, (F.cx i).fn x = true ∨ (F.cx i).env.scope.names.lookup x = some .local := by intro _; first | exact .inl rfl | exact .inr rfl) (hs : ∀ i x, foldedSetIterable iter (F.cx i).env x = pure x := by intro _ _; rfl) :
    Rn F (.Assign [.Name x py] (.ListComp elt [⟨tg, iter, ifs, 0⟩] sc pos) spos) ρ (.nx (ρ.set j (some t))) := by
  obtain ⟨τ, ⟨wi, g, tt, te, rfl, h1, h2, h3, h4⟩, z⟩ := h
  refine ⟨_, fun i => ps_lcset (cl := cl i) (L i) (F.calm i) (h1 i) (fun C s H ex pn => h2 (i, ⟨C, s, H, ex, pn⟩)) (fun C s H ex pn => h3 (i, ⟨C, s, H, ex, pn⟩)) (fun C s H ex pn => h4 (i, ⟨C, s, H, ex, pn⟩)) (hN i) (hi i) (hx i) (hsw i) (hf i) (hs i), fun D σ G0 H0 G H r k => ?_⟩
  obtain ⟨fp, r⟩ := r
  exact z σ G H fp _ r.st.s r.own r.g fun v G1 H1 fq s1 o w => k _ G1 H1 (r.set (Nat.le_of_ble_eq_true hj) s1 o w)
theorem Elc.as {d : Dv} (h : Elc F own fr sc cl elt tg iter ifs ρ t) (e : er t = d) : Elc F own fr sc cl elt tg iter ifs ρ (.fz d) := by
  obtain ⟨τ, v, q⟩ := h
  refine ⟨τ, v, fun σ G H Q s r k => q σ G H Q s r fun v G' H' fq st o w => ?_⟩
  exact k v (frzd G' H' fq) H' [] (st.frz w) ⟨rfl, e ▸ o.hv (frzd_same w.g) fun a ha => frzd_in ha⟩ .nil
end
end L2
namespace L2
open PySem PySem.Spec PyProof.Rows
def rCount (K : PySem.W.Frag) : V → List V → Hp → VK → Prop := fun x vs H Q => ∃ l xs y, x = .ref l ∧ vs = [y] ∧ SqL K H l xs ∧ flatV y = true ∧ xs.all flatV = true ∧ Q (.int (xs.countP fun z => eqV z y)) H
theorem countP_eqU {x : V} : ∀ {xs : List V} {us : List Value}, Vals xs us → xs.all flatV = true → us.countP (eqU x) = xs.countP fun y => eqV y x
  | _, _, .nil, _ => rfl
  | y :: xs, u :: us, .cons r t, f => by
    rw [List.all_cons, Bool.and_eq_true] at f
    rw [List.countP_cons, List.countP_cons, countP_eqU t f.2, eqU_of r f.1]
section
variable {X : Cx}
theorem mt_count : MtM X "list.count" (rCount X.K) := by
  intro pins s σ H x vs v us Q I rx rv h
  obtain ⟨l, xs, y, rfl, rfl, hq, fy, fs, q⟩ := h
  cases rx
  obtain ⟨u, rfl, ru⟩ := rv.one
  obtain ⟨its, r, ⟨⟨cl, dd, da, sl⟩, n, e, c1, c2, d1⟩, z⟩ := I.list hq
  simp only at c1 d1
  subst c1 d1
  refine call_meets F.slot_list_count ⟨_, e, rfl⟩ F.entry_list_count (F.args_list_count_2 _ _) (SeqAt.list_countAt l its.toArray n dd sl u (eqU y)) ⟨e, fun w hw => mem_eqAt ru fy r fs w (by simpa using hw), ?_⟩
  refine ⟨.int _, H, I.tok _, ⟨_, rfl⟩, ?_⟩
  rw [show its.toArray.toList = its by simp, countP_eqU r fs]
  exact q
end
section
variable {ι : Type} {F : Fam ι} {e a b c : Expr} {es : List Expr} {ρ : En} {t ta tb' tc : Tr} {ts : List Tr} {pos : Pos}
theorem ev_bm {nm : Str} {id : String} {r : V → List V → Hp → VK → Prop} {xs : List Dv} {o : Expr} {to : Tr} (slot : Slot "list" nm id) (hty : typeOf (.builtin id) = pure (.type "method_descriptor")) (hm : ∀ i, MtR (F.cx i) id r) (ho : Ev F o ρ to) (eo : er to = .lst xs) (ha : EvA F (e :: es) ρ ts)
    (h : ∀ G H x vs Q, Same G H → Hv F.K G (er to) x → HvL F.K G (ers ts) vs → Kv F.K G H t Q → r x vs H Q) {apos : Pos}
    (hbase : ∀ i, attributeBase o nm (F.cx i).env (eval o (F.cx i).env) = eval o (F.cx i).env := by intro _; rfl)
    (hfew : ∀ i, ((backTo pos (starEach (e :: es) (F.cx i).env)).all (fun x => !x.1) && (backToKw pos (keywordEach [] (F.cx i).env)).all (fun x => x.1.isSome) && decide ((e :: es).length + ([] : List Keyword).length + (if ([] : List Keyword).isEmpty then 0 else 1) < 30)) = true := by intro _; rfl)
    (hline : (apos.endLine == pos.line) = true := by rfl) (hs : ∀ i, starEach (e :: es) (F.cx i).env = (false, eval e (F.cx i).env) :: starEach es (F.cx i).env := by intro _; rfl) (hplain : ∀ i, (backTo pos (starEach es (F.cx i).env)).any (·.1) = false := by intro _; rfl) :
    Ev F (.Call (.Attribute o nm apos) (e :: es) [] pos) ρ t := by
  obtain ⟨τ, p, q⟩ := ho.use
  obtain ⟨τ', p', q'⟩ := ha.use
  refine ⟨tBM F.K "list" r τ τ', fun i => F.hK i ▸ pe_bm PySem.F.plainAttrs_list slot hty (hm i) (p i) (p' i) (hbase i) (hfew i) hline (hs i) (hplain i), fun σ G H Q s rr k => ?_⟩
  refine q σ G H _ s rr fun x G1 H1 s1 hx => ⟨?_, q' σ G1 H1 _ s1.s (rr.mono s1.g) fun vs G2 H2 s2 hv => h G2 H2 x vs Q s2.s (hx.mono s2.g) hv (k.step (s1.trans s2))⟩
  rw [eo] at hx
  obtain ⟨l, us, rfl, h1, h2⟩ := hx
  exact .inl ⟨rfl, _, s1.s.seq h1⟩
theorem ers_fz : ∀ ds : List Dv, ers (ds.map .fz) = ds
  | [] => rfl
  | d :: ds => by show d :: ers (ds.map .fz) = _; rw [ers_fz ds]
theorem er_fzs (ds : List Dv) : er (.ow (ds.map .fz)) = .lst ds := by show Dv.lst _ = _; rw [ers_fz]
theorem Ev.to {t' : Tr} (h : Ev F e ρ t) (q : t = t') : Ev F e ρ t' := q ▸ h
theorem Et.to {p q : Bool} (h : Et F e ρ p) (z : p = q) : Et F e ρ q := z ▸ h
theorem EvS.to {t' : Tr} (h : EvS F e ρ t) (q : t = t') : EvS F e ρ t' := q ▸ h
theorem rn_ifT {A B : List Stmt} {o : Out} {p : Bool} (hc : EtS F c ρ p) (hp : p = true) (h1 : Rns F A ρ o) : Rn F (.If c A B pos) ρ o := rn_if hc (fun _ => h1) fun h => by rw [hp] at h; cases h
theorem rn_ifF {A B : List Stmt} {o : Out} {p : Bool} (hc : EtS F c ρ p) (hp : p = false) (h1 : Rns F B ρ o) : Rn F (.If c A B pos) ρ o := rn_if hc (fun h => by rw [hp] at h; cases h) fun _ => h1
theorem rn_skip {A : List Stmt} {p : Bool} (hc : EtS F c ρ p) (hp : p = false) : Rn F (.If c A [] pos) ρ (.nx ρ) := rn_ifF hc hp rns_nil
def rLaw (dd : List Dv) (t : Tr) : Prop := ∃ ns : List Int, ns.length ≤ 63 ∧ dd = [dis ns] ∧ t = tb true
def spLaw (K : PySem.W.Frag) : Sp := fun vs H Q _ => ∃ (a : Addr) (ns : List Int), vs = [.ref a] ∧ SqL K H a (ns.map V.int) ∧ ns.length ≤ 63 ∧ ∀ H', Q (.bl true) H'
theorem law_ok {P : Program} {w : World} {K : PySem.W.Frag} {mg : Str → Option Value} {base : Heap} {k : Nat} {f : Addr} {fd : FuncData} (F : FnOk P w K mg base CX0 k f fd ["_law_script"] (spT K rLaw)) : FnOk P w K mg base CX0 k f fd ["_law_script"] (spLaw K) :=
  F.imp fun vs H Q E ⟨a, ns, e, h1, h2, h3⟩ => ⟨H, [dis ns], tb true, Same.refl _, ⟨.ref a, [], e, ⟨a, _, rfl, h1, ints_hvl⟩, rfl⟩, ⟨ns, h2, rfl, rfl⟩, fun v G' H' fq st o w => by rw [hvi o.2]; exact h3 H'⟩
end
end L2
namespace Fra
end Fra
namespace Fra
end Fra
namespace L2
open PySem PySem.Spec PyProof.Rows
theorem rng_get {lo : Int} {n j : Nat} {d : Dv} (h : (rngD lo n)[j]? = some d) : j < n ∧ d = di (lo + (j : Int)) := by
  rw [List.getElem?_map] at h
  rcases Nat.lt_or_ge j n with hj | hj
  · rw [List.getElem?_range hj] at h; cases h; exact ⟨hj, rfl⟩
  · rw [List.getElem?_eq_none (by simpa using hj)] at h; cases h
theorem map_get {α β : Type} {f : α → β} {l : List α} {j : Nat} {d : β} (h : (l.map f)[j]? = some d) : ∃ x, l[j]? = some x ∧ d = f x := by
  rw [List.getElem?_map] at h
  cases q : l[j]? with
  | none => rw [q] at h; cases h
  | some x => rw [q] at h; cases h; exact ⟨x, rfl, rfl⟩
theorem Rns.fg {ι : Type} {F : Fam ι} {sts : List Stmt} {ρ ρ1 ρ2 : En} (h : Rns F sts ρ (.nx ρ1)) (f : Fg ρ1 ρ2) : Rns F sts ρ (.nx ρ2) := by
  obtain ⟨τ, x, y⟩ := h
  exact ⟨τ, x, fun D σ G0 H0 G H r k => y D σ G0 H0 G H r fun σ' G' H' r' => k σ' G' H' (f.rs r')⟩
theorem rns_freezeTo {ι : Type} {F : Fam ι} {sts : List Stmt} {ρ : En} {o : Out} {t : Tr} {d : Dv} (j : Nat) (hj : ρ[j]? = some (some t)) (e : er t = d) (h : Rns F sts (ρ.set j (some (.fz d))) o) : Rns F sts ρ o := rns_freeze j hj (e ▸ h)
def cellF (ns : List Int) (k : Int) : Int := ns.getD k.toNat 0
theorem cell_in {ns : List Int} {k : Int} (h0 : 0 ≤ k) (h : k < ns.length) : atI (ns.map di) k = some (di (cellF ns k)) := by
  obtain ⟨j, rfl⟩ : ∃ j : Nat, k = (j : Int) := ⟨k.toNat, by omega⟩
  have hj : j < ns.length := by omega
  refine atI_nat ?_
  unfold cellF
  rw [List.getElem?_map, List.getElem?_eq_getElem hj, List.getD_eq_getElem?_getD, show (j : Int).toNat = j by omega, List.getElem?_eq_getElem hj]
  rfl
theorem cell_out {ns : List Int} {k : Int} (h0 : 0 ≤ k) (h : ns.length ≤ k) : cellF ns k = 0 := by
  unfold cellF
  rw [List.getD_eq_getElem?_getD, List.getElem?_eq_none (by omega)]
  rfl
theorem cutD_map {α β : Type} (f : α → β) (l : List α) (a b : Option Int) : cutD (l.map f) a b = (cutD l a b).map f := by
  unfold cutD
  rw [List.length_map, List.map_take, List.map_drop]
theorem cutD_len {α : Type} (l : List α) (a b : Option Int) : (cutD l a b).length ≤ l.length := by
  unfold cutD
  rw [List.length_take, List.length_drop]
  omega
mutual
def okD : Dv → Bool
  | .fl v => flatV v
  | .lst ds => okDs ds
  | .tup ds => okDs ds
def okDs : List Dv → Bool
  | [] => true
  | d :: ds => okD d && okDs ds
end
mutual
theorem eqD_refl : ∀ {d : Dv}, okD d = true → eqD d d = true
  | .fl v, h => eqV_refl h
  | .lst ds, h => eqDs_refl h
  | .tup ds, h => eqDs_refl h
theorem eqDs_refl : ∀ {ds : List Dv}, okDs ds = true → eqDs ds ds = true
  | [], _ => rfl
  | d :: ds, h => by
    have h' : (okD d && okDs ds) = true := h
    rw [Bool.and_eq_true] at h'
    show (eqD d d && eqDs ds ds) = true
    rw [eqD_refl h'.1, eqDs_refl h'.2]
    rfl
end
theorem okDs_map {α : Type} {f : α → Dv} (h : ∀ a, okD (f a) = true) : ∀ l : List α, okDs (l.map f) = true
  | [] => rfl
  | a :: l => by
    show (okD (f a) && okDs (l.map f)) = true
    rw [h a, okDs_map h l]
    rfl
theorem dpDs_le {n : Nat} : ∀ {ds : List Dv}, (∀ d ∈ ds, dpD d ≤ n) → dpDs ds ≤ n
  | [], _ => Nat.zero_le _
  | d :: ds, h => by
    show max (dpD d) (dpDs ds) ≤ n
    exact Nat.max_le.mpr ⟨h d (.head _), dpDs_le fun x hx => h x (.tail _ hx)⟩
theorem okD_dis (l : List Int) : okD (dis l) = true := okDs_map (fun _ => rfl) l
theorem dpD_dis (l : List Int) : dpD (dis l) ≤ 1 := by
  show dpDs _ + 1 ≤ 1
  have : dpDs (l.map di) ≤ 0 := dpDs_le fun d hd => by
    obtain ⟨_, _, rfl⟩ := List.mem_map.mp hd
    exact Nat.le_refl _
  omega
theorem dpD_lst {n : Nat} {ds : List Dv} (h : ∀ d ∈ ds, dpD d ≤ n) : dpD (.lst ds) ≤ n + 1 := Nat.succ_le_succ (dpDs_le h)
theorem okD_lst {α : Type} {f : α → Dv} (h : ∀ a, okD (f a) = true) (l : List α) : okD (.lst (l.map f)) = true := okDs_map h l
end L2
namespace L2
open PySem PySem.Spec PyProof.Rows
theorem OwL.setAt {K : PySem.W.Frag} {G H : Hp} : ∀ {us : List Tr} {vs : List V} {fq : List Addr} {m : Nat} {t : Tr} {v : V} {f : List Addr}, OwL K G H us vs fq → m < us.length → Ow K G H t v f → fq.Nodup → f.Nodup → (∀ a ∈ f, a ∉ fq) →
    ∃ fw, OwL K G H (us.set m t) (vs.set m v) fw ∧ fw.Nodup ∧ ∀ a ∈ fw, a ∈ fq ∨ a ∈ f
  | u :: us, _, _, 0, t, v, f, ⟨w, r, f1, f2, h1, h2, h3, h4⟩, _, o, nd, nf, dj => by
    subst h1 h2
    have nda := List.nodup_append.mp nd
    refine ⟨f ++ f2, ⟨v, r, f, f2, rfl, rfl, o, h4⟩, List.nodup_append.mpr ⟨nf, nda.2.1, fun a ha b hb e => dj a ha (e ▸ List.mem_append_right _ hb)⟩, fun a ha => ?_⟩
    rcases List.mem_append.mp ha with z | z
    · exact .inr z
    · exact .inl (List.mem_append_right _ z)
  | u :: us, _, _, m + 1, t, v, f, ⟨w, r, f1, f2, h1, h2, h3, h4⟩, hm, o, nd, nf, dj => by
    subst h1 h2
    have nda := List.nodup_append.mp nd
    obtain ⟨fw, q1, q2, q3⟩ := OwL.setAt (m := m) h4 (Nat.lt_of_succ_lt_succ hm) o nda.2.1 nf fun a ha z => dj a ha (List.mem_append_right _ z)
    refine ⟨f1 ++ fw, ⟨w, _, f1, fw, rfl, rfl, h3, q1⟩, List.nodup_append.mpr ⟨nda.1, q2, fun a ha b hb e => ?_⟩, fun a ha => ?_⟩
    · subst e
      rcases q3 a hb with z | z
      · exact nda.2.2 a ha a z rfl
      · exact dj a z (List.mem_append_left _ ha)
    · rcases List.mem_append.mp ha with z | z
      · exact .inl (List.mem_append_left _ z)
      · exact (q3 a z).imp (List.mem_append_right _) id
theorem rn_ixset {ι : Type} {F : Fam ι} {e : Expr} {ρ : En} {t : Tr} {pos : Pos} (j : Nat) {x : Str} {us : List Tr} {n : Int} {m : Nat} {nE : Expr} {p1 p2 : Pos} (h : ρ[j]? = some (some (.ow us))) (hn : EvS F nE ρ (ti n)) (hm : ixN us.length n = some m) (he : EvS F e ρ t) (hN : ∀ i, (F.cx i).N[j]? = some x := by intro _; rfl)
    (hv : ∀ i, Vis (F.cx i).env.scope x := by intro _; first | exact Or.inl rfl | exact Or.inr (Or.inl rfl) | exact Or.inr (Or.inr rfl)) (hd : (x == ("__debug__" : Str)) = false := by decide) (hc : (x == ("__classdict__" : Str)) = false := by decide)
    (hs : ∀ i, swapsWithSole [.Subscript (.Name x p1) nE p2] e pos.line (F.cx i).env = pure false := by intro _; rfl) (hw : ∀ i, swappedStores [.Subscript (.Name x p1) nE p2] e (F.cx i).env = pure none := by intro _; rfl)
    (h1 : ∀ i, (assignEach [.Subscript (.Name x p1) nE p2] (F.cx i).env).map (·.2) = [assign (.Subscript (.Name x p1) nE p2) (F.cx i).env] := by intro _; rfl)
    (hps : ∀ i, PG (F.cx i) (.Subscript (.Name x p1) nE p2) (gSub (tVar j) (uE F nE) rSetL)) :
    Rn F (.Assign [.Subscript (.Name x p1) nE p2] e pos) ρ (.nx (ρ.set j (some (.ow (us.set m t))))) := by
  obtain ⟨τ, y, z⟩ := he
  obtain ⟨τn, yn, zn⟩ := hn
  refine ⟨tAsg τ (gSub (tVar j) (uE F nE) rSetL), fun i => ps_asg (y i) (hps i) (hs i) (hw i) (h1 i), fun D σ G0 H0 G H r k => ?_⟩
  obtain ⟨fp, r⟩ := r
  refine z σ G H fp _ r.st.s r.own r.g fun v1 G1 H1 f1 s1 o1 w1 => ?_
  have r1 : RSf F.K G0 H0 G1 H1 ρ σ fp := ⟨r.st.trans s1, r.own.mono s1.g s1.h, r.own.off s1 r.g, r.n, r.d⟩
  obtain ⟨l0, vs0, fq0, c1, c2, _⟩ := r1.mut h (.refl r1.st.s)
  refine ⟨_, c1, τn, yn, zn σ G1 H1 fp _ r1.st.s r1.own r1.g fun vn G2 H2 f2 s2 o2 w2 => ?_⟩
  obtain ⟨l, vs, fq, d1, d2, d3, d4, d5, d6, d7⟩ := r.mut h (s1.trans s2)
  rw [c1] at d1
  cases d1
  have hm' : m < us.length := (ixN_seq hm).2.1
  have nf : ∀ a ∈ f1, a ∉ fq := fun a ha hb => by
    obtain ⟨u, hu⟩ := r.own.there a (d6 a hb)
    rw [w1.n a ha] at hu; cases hu
  obtain ⟨fw, q1, q2, q3⟩ := d4.setAt hm' (o1.mono s2.g s2.h) d5 w1.d nf
  refine ⟨l0, vs, n, m, rfl, hvi o2.2, d3, by rw [← d4.length]; exact hm, k σ G2 _ (d7 (us.set m t) (vs.set m v1) fw q1 q2 fun a ha => (q3 a ha).imp id fun z => ⟨w1.n a z, ?_⟩)⟩
  cases q : G2 a with
  | none => rfl
  | some u =>
    obtain ⟨u', hu'⟩ := o1.there a z
    have := s2.n a (w1.g a z) (by rw [q]; exact fun z => nomatch z)
    rw [hu'] at this; cases this
end L2
namespace L2
open PySem PySem.Spec PyProof.Rows
section
variable {X : Cx}
end
section
variable {ι : Type} {F : Fam ι} {e a b c : Expr} {es : List Expr} {ρ : En} {t ta tb' : Tr} {ts : List Tr} {pos : Pos}
theorem ints_tr (l : List Int) : (l.map di).map Tr.fz = l.map fun n => Tr.fz (di n) := by rw [List.map_map]; rfl
theorem bt_set : bootBuiltins "set" = some (.type "set") := by decide +kernel
def sortI (ns : List Int) : List Int := ns.mergeSort (fun a b => decide (a ≤ b))
theorem sortI_perm (ns : List Int) : (sortI ns).Perm ns := List.mergeSort_perm ..
theorem sortI_le (ns : List Int) : (sortI ns).Pairwise (· ≤ ·) := by
  have := List.pairwise_mergeSort (le := fun a b : Int => decide (a ≤ b)) (fun a b c h1 h2 => by simp only [decide_eq_true_eq] at *; omega) (fun a b => by simp only [Bool.or_eq_true, decide_eq_true_eq]; omega) ns
  exact this.imp fun h => by simpa using h
theorem sort_unique {a b : List Int} (p : a.Perm b) (ha : a.Pairwise (· ≤ ·)) (hb : b.Pairwise (· ≤ ·)) : a = b := List.Perm.eq_of_pairwise (fun x y _ _ h1 h2 => Int.le_antisymm h1 h2) ha hb p
theorem hvl_flat {K : PySem.W.Frag} {G : Hp} : ∀ {ws : List V} {vs : List V}, HvL K G (ws.map .fl) vs → vs = ws ∧ ws.all flatV = true
  | [], _, h => ⟨h, rfl⟩
  | _ :: _, _, ⟨x, r, h1, h2, h3⟩ => by
    obtain ⟨e1, e2⟩ := hvl_flat h3
    subst h1
    refine ⟨by rw [h2.1, e1], ?_⟩
    rw [List.all_cons, e2, h2.2]
    rfl
theorem et_isN {v : V} {j : Nat} {p' : Pos} (ha : Ev F a ρ (.fz (.fl v))) : Et F (.Compare a [.Is] [.Constant .none j p'] pos) ρ (decide (v = .non)) :=
  et_cmp (fun _ => op_isN) ha ev_non (fun G H x y Q s hx hy k => ⟨hvi hy, by rw [hvi hx]; exact k⟩) (nomark _)
theorem et_notN {v : V} {j : Nat} {p' : Pos} (ha : Ev F a ρ (.fz (.fl v))) : Et F (.Compare a [.IsNot] [.Constant .none j p'] pos) ρ (!decide (v = .non)) :=
  et_cmp (fun _ => op_notN) ha ev_non (fun G H x y Q s hx hy k => ⟨hvi hy, by rw [hvi hx]; exact k⟩) (nomark _)
theorem ev_max2 {m n : Int} (hm : F.mg "max" = none) (ha : Ev F a ρ (ti m)) (hb : Ev F b ρ (ti n)) {p' : Pos} (hg : ∀ i, Gl (F.cx i) "max" := by intro _; rfl)
    (hs : ∀ i, starEach [a, b] (F.cx i).env = [(false, eval a (F.cx i).env), (false, eval b (F.cx i).env)] := by intro _; rfl) (hs2 : ∀ i, starEach [b] (F.cx i).env = [(false, eval b (F.cx i).env)] := by intro _; rfl) : Ev F (.Call (.Name "max" p') [a, b] [] pos) ρ (ti (if n > m then n else m)) :=
  ev_callB (fun i => call_max2 (F.calm i)) hm bt_max (eva_cons ha (eva_cons hb eva_nil hs2) (fun i => by rw [hs i, hs2 i])) (fun G H vs Q s hx k => by
    obtain ⟨x, y, rfl, h1, h2⟩ := hvl2 hx
    exact ⟨m, n, by rw [hvi h1, hvi h2], k.sc s rfl⟩) hg (by decide) (by decide) (fun i => by rw [hs i, hs2 i]) (fun i => by rw [hs2 i]; rfl)
theorem ev_min2 {m n : Int} (hm : F.mg "min" = none) (ha : Ev F a ρ (ti m)) (hb : Ev F b ρ (ti n)) {p' : Pos} (hg : ∀ i, Gl (F.cx i) "min" := by intro _; rfl)
    (hs : ∀ i, starEach [a, b] (F.cx i).env = [(false, eval a (F.cx i).env), (false, eval b (F.cx i).env)] := by intro _; rfl) (hs2 : ∀ i, starEach [b] (F.cx i).env = [(false, eval b (F.cx i).env)] := by intro _; rfl) : Ev F (.Call (.Name "min" p') [a, b] [] pos) ρ (ti (if n < m then n else m)) :=
  ev_callB (fun i => call_min2 (F.calm i)) hm bt_min (eva_cons ha (eva_cons hb eva_nil hs2) (fun i => by rw [hs i, hs2 i])) (fun G H vs Q s hx k => by
    obtain ⟨x, y, rfl, h1, h2⟩ := hvl2 hx
    exact ⟨m, n, by rw [hvi h1, hvi h2], k.sc s rfl⟩) hg (by decide) (by decide) (fun i => by rw [hs i, hs2 i]) (fun i => by rw [hs2 i]; rfl)
end
end L2
namespace L2
open PySem PySem.Spec PyProof.Rows
theorem er_map {α : Type} (l : List α) (f : α → Int) : er (.ow (l.map fun k => Tr.fz (di (f k)))) = dis (l.map f) := by
  show Dv.lst _ = Dv.lst _
  rw [ers_map, List.map_map, List.map_map]; rfl
abbrev tInts (l : List Int) : Tr := .ow (l.map fun n => .fz (di n))
abbrev tRows (L : List (List Int)) : Tr := .ow (L.map tInts)
theorem er_tInts (l : List Int) : er (tInts l) = dis l := by
  show Dv.lst _ = _
  rw [ers_map, List.map_map]; rfl
theorem er_tRows (L : List (List Int)) : er (tRows L) = .lst (L.map dis) := by
  show Dv.lst _ = _
  rw [ers_map, List.map_map]
  congr 1
  exact List.map_congr_left fun l _ => er_tInts l
theorem okD_rows (L : List (List Int)) : okD (.lst (L.map dis)) = true := okD_lst okD_dis L
theorem dpD_rows (L : List (List Int)) : dpD (.lst (L.map dis)) ≤ 2 := dpD_lst fun d hd => by
  obtain ⟨m, _, rfl⟩ := List.mem_map.mp hd
  exact dpD_dis m
end L2
namespace L2
open PySem PySem.Spec PyProof.Rows
theorem EvI.to {ι : Type} {F : Fam ι} {tg iter : Expr} {ρ : En} {a b : List Dv} (h : EvI F tg iter ρ a) (e : a = b) : EvI F tg iter ρ b := e ▸ h
end L2
namespace L2
open PySem PySem.Spec PyProof.Rows
theorem rns_nilF {ι : Type} {F : Fam ι} {ρ1 ρ2 : En} (f : Fg ρ1 ρ2) : Rns F [] ρ1 (.nx ρ2) := Rns.fg rns_nil f
end L2
namespace L2
open PySem PySem.Spec PyProof.Rows
section
variable {prog : Program} {w : World} {A : Around} {E : Value → Shared → Prop} {s : Shared}
end
section
variable {X : Cx}
end
section
variable {ι : Type} {F : Fam ι} {e a b c : Expr} {es : List Expr} {ρ : En} {t ta tb' : Tr} {ts : List Tr} {pos : Pos}
theorem filt_get {α β : Type} (q : α → Bool) (h : α → β) (d : β) : ∀ l : List α, ((List.range l.length).filter fun k => ((l[k]?).map q).getD false).map (fun k => ((l[k]?).map h).getD d) = (l.filter q).map h
  | [] => rfl
  | a :: l => by
    have ih := filt_get q h d l
    rw [List.length_cons, List.range_succ_eq_map, List.filter_cons, List.filter_cons, List.filter_map]
    show List.map _ (if q a = true then _ else _) = _
    cases q a with
    | true =>
      show h a :: ((_ : List Nat).map Nat.succ).map _ = h a :: _
      rw [List.map_map, ← ih]; rfl
    | false =>
      show ((_ : List Nat).map Nat.succ).map _ = _
      rw [List.map_map]; exact ih
variable {js : List Nat} {sp : Dv → Option (List Dv)} {elt tg iter : Expr}
theorem elcf {α : Type} (l : List α) (g : α → Dv) (q : α → Bool) (h : α → Tr) {ifs : List Expr} {sc : Scope} {own : List Str} {fr : List Nat} {cl : ι → List (Str × Addr)} (hi : EvI F tg iter ρ (l.map g)) (hg : EvG (famLc F own fr sc cl) tg js sp) (hjs : ∀ j ∈ js, j < own.length) (hz : l.length < sizeLine)
    (step : ∀ a ∈ l, ∃ dd, sp (g a) = some dd ∧ El (famLc F own fr sc cl) ifs (setAll js (dd.map .fz) (lcEn own fr ρ)) (q a) ∧ (q a = true → Ev (famLc F own fr sc cl) elt (setAll js (dd.map .fz) (lcEn own fr ρ)) (h a)))
    (hdrop : ∀ dd : List Dv, dropAll js (setAll js (dd.map .fz) (lcEn own fr ρ)) = lcEn own fr ρ) : Elc F own fr sc cl elt tg iter ifs ρ (.ow ((l.filter q).map h)) := by
  have := elc (ifs := ifs) hi hg hjs (fun k => ((l[k]?).map q).getD false) (fun k => ((l[k]?).map h).getD tn) (by rw [List.length_map]; exact hz) (fun k d hd => by
    obtain ⟨a, ha, rfl⟩ := map_get hd
    obtain ⟨dd, s1, s2, s3⟩ := step a (List.mem_of_getElem? ha)
    refine ⟨dd, s1, ?_, ?_⟩
    · show El _ _ _ (((l[k]?).map q).getD false)
      rw [ha]; exact s2
    · show ((l[k]?).map q).getD false = true → Ev _ _ _ (((l[k]?).map h).getD tn)
      rw [ha]; exact s3) hdrop
  rw [List.length_map, filt_get] at this
  exact this
theorem elcm {α : Type} (l : List α) (g : α → Dv) (h : α → Tr) {sc : Scope} {own : List Str} {fr : List Nat} {cl : ι → List (Str × Addr)} (hi : EvI F tg iter ρ (l.map g)) (hg : EvG (famLc F own fr sc cl) tg js sp) (hjs : ∀ j ∈ js, j < own.length) (hz : l.length < sizeLine)
    (step : ∀ a ∈ l, ∃ dd, sp (g a) = some dd ∧ Ev (famLc F own fr sc cl) elt (setAll js (dd.map .fz) (lcEn own fr ρ)) (h a))
    (hdrop : ∀ dd : List Dv, dropAll js (setAll js (dd.map .fz) (lcEn own fr ρ)) = lcEn own fr ρ) : Elc F own fr sc cl elt tg iter [] ρ (.ow (l.map h)) := by
  have := elcf l g (fun _ => true) h hi hg hjs hz (fun a ha => let ⟨dd, s1, s2⟩ := step a ha; ⟨dd, s1, el_nil, fun _ => s2⟩) hdrop
  rwa [List.filter_eq_self.mpr fun _ _ => rfl] at this
theorem ev_lcf {α : Type} (l : List α) (g : α → Dv) (q : α → Bool) (h : α → Tr) {ifs : List Expr} {sc : Scope} {own : List Str} {fr : List Nat} {cl : ι → List (Str × Addr)} (L : ∀ i, LcScope (F.cx i) sc (cl i) fr) (hi : EvI F tg iter ρ (l.map g)) (hg : EvG (famLc F own fr sc cl) tg js sp) (hjs : ∀ j ∈ js, j < own.length) (hz : l.length < sizeLine)
    (step : ∀ a ∈ l, ∃ dd, sp (g a) = some dd ∧ El (famLc F own fr sc cl) ifs (setAll js (dd.map .fz) (lcEn own fr ρ)) (q a) ∧ (q a = true → Ev (famLc F own fr sc cl) elt (setAll js (dd.map .fz) (lcEn own fr ρ)) (h a)))
    (hdrop : ∀ dd : List Dv, dropAll js (setAll js (dd.map .fz) (lcEn own fr ρ)) = lcEn own fr ρ) (hs : ∀ i x, foldedSetIterable iter (F.cx i).env x = pure x := by intro _ _; rfl) : Ev F (.ListComp elt [⟨tg, iter, ifs, 0⟩] sc pos) ρ (.ow ((l.filter q).map h)) := by
  have := ev_lc (ifs := ifs) (pos := pos) L hi hg hjs (fun k => ((l[k]?).map q).getD false) (fun k => ((l[k]?).map h).getD tn) (by rw [List.length_map]; exact hz) (fun k d hd => by
    obtain ⟨a, ha, rfl⟩ := map_get hd
    obtain ⟨dd, s1, s2, s3⟩ := step a (List.mem_of_getElem? ha)
    refine ⟨dd, s1, ?_, ?_⟩
    · show El _ _ _ (((l[k]?).map q).getD false)
      rw [ha]; exact s2
    · show ((l[k]?).map q).getD false = true → Ev _ _ _ (((l[k]?).map h).getD tn)
      rw [ha]; exact s3) hdrop hs
  rw [List.length_map, filt_get] at this
  exact this
theorem ev_lcm {α : Type} (l : List α) (g : α → Dv) (h : α → Tr) {sc : Scope} {own : List Str} {fr : List Nat} {cl : ι → List (Str × Addr)} (L : ∀ i, LcScope (F.cx i) sc (cl i) fr) (hi : EvI F tg iter ρ (l.map g)) (hg : EvG (famLc F own fr sc cl) tg js sp) (hjs : ∀ j ∈ js, j < own.length) (hz : l.length < sizeLine)
    (step : ∀ a ∈ l, ∃ dd, sp (g a) = some dd ∧ Ev (famLc F own fr sc cl) elt (setAll js (dd.map .fz) (lcEn own fr ρ)) (h a))
    (hdrop : ∀ dd : List Dv, dropAll js (setAll js (dd.map .fz) (lcEn own fr ρ)) = lcEn own fr ρ) (hs : ∀ i x, foldedSetIterable iter (F.cx i).env x = pure x := by intro _ _; rfl) : Ev F (.ListComp elt [⟨tg, iter, [], 0⟩] sc pos) ρ (.ow (l.map h)) := by
  have := ev_lcf (pos := pos) l g (fun _ => true) h L hi hg hjs hz (fun a ha => let ⟨dd, s1, s2⟩ := step a ha; ⟨dd, s1, el_nil, fun _ => s2⟩) hdrop hs
  rwa [List.filter_eq_self.mpr fun _ _ => rfl] at this
theorem er_ow_map {α : Type} (l : List α) (h : α → Tr) : er (.ow (l.map h)) = .lst (l.map fun a => er (h a)) := by
  show Dv.lst (ers _) = _
  rw [ers_map, List.map_map]; rfl
end
end L2
namespace L2
open PySem PySem.Spec PyProof.Rows Fra
section
variable {ι : Type} {F : Fam ι} {e a b c : Expr} {es : List Expr} {ρ : En} {t ta tb' : Tr} {ts : List Tr} {pos : Pos}
end
end L2
namespace L2
open PySem PySem.Spec PyProof.Rows
section
variable {ι : Type} {F : Fam ι} {e a b c : Expr} {es : List Expr} {ρ : En} {t ta tb' : Tr} {ts : List Tr} {pos : Pos}
end
end L2
namespace L2
open PySem PySem.Spec PyProof.Rows
section
variable {prog : Program} {w : World} {A : Around} {E : Value → Shared → Prop} {s : Shared}
end
end L2
namespace PySem.F
end PySem.F
namespace L2
open PySem PySem.Spec PyProof.Rows
section
variable {prog : Program} {w : World} {A : Around} {E : Value → Shared → Prop} {s : Shared}
end
section
variable {prog : Program} {w : World} {A : Around} {s : Shared} {R : Result → Shared → Prop}
end
section
variable {ι : Type} {F : Fam ι} {a b : Expr} {ρ : En} {ta tb' : Tr} {pos : Pos}
end
end L2
namespace L2
open PySem PySem.Spec PyProof.Rows
section
variable {ι : Type} {F : Fam ι} {sts : List Stmt} {ρ : En} {o : Out} {t : Tr}
end
section
variable {ι : Type} {F : Fam ι} {a b : Expr} {ρ : En} {pos : Pos}
end
theorem lcs2' {X : Cx} {own0 : List Str} {fr0 : List Nat} {sc0 : Scope} {cl0 : List (Str × Addr)} {C : Addr} {s : Shared} {H : Hp} {ex : List Addr} {pn : List (Addr × Obj)} {sc : Scope} {fr : List Nat} (N2 : List Str)
    (L : LcNames2 N2 sc0 sc fr) (hcl : ∀ y, (y, NameKind.free) ∈ sc0.names → ∃ c, cl0.lookup y = some c) (eN : (own0 ++ fr0.map fun j => X.N.getD j "") = N2 := by rfl) :
    LcScope (cxLc X own0 fr0 sc0 cl0 C s H ex pn) sc (closF (cellsFrom (C + 1) sc0.names cl0) sc.names []) fr := by
  subst eN
  exact lcs2 L hcl
end L2
namespace L2
open PySem PySem.Spec PyProof.Rows
end L2
namespace L2
open PySem PySem.Spec PyProof.Rows
theorem ints_ow {K : PySem.W.Frag} {G H : Hp} : ∀ {o : List Int} {xs : List V} {fq : List Addr}, OwL K G H (o.map fun n => .fz (di n)) xs fq → xs = o.map V.int ∧ fq = []
  | [], _, _, h => h
  | n :: o, _, _, ⟨v, r, f1, f2, h1, h2, ⟨h3, h3'⟩, h4⟩ => by
    obtain ⟨e1, e2⟩ := ints_ow h4
    subst h1 h2 h3 e1 e2
    rw [hvi h3']
    exact ⟨rfl, rfl⟩
def Md (f : List Addr) (H H2 : Hp) : Prop := ∀ b o, b ∉ f → H b = some o → H2 b = some o
theorem Md.trans {f : List Addr} {H H1 H2 : Hp} (a : Md f H H1) (b : Md f H1 H2) : Md f H H2 := fun x o n h => b x o n (a x o n h)
theorem Md.upd {f : List Addr} {H : Hp} {l : Addr} {o : HO} (hl : l ∈ f) : Md f H (L2.upd H l o) := fun b u n h => by
  rw [upd_ne (show b ≠ l from fun z => n (z ▸ hl))]; exact h
theorem Md.new {f : List Addr} {H : Hp} {l : Addr} {o : HO} (hl : H l = none) : Md f H (L2.upd H l o) := fun b u n h => by
  rw [upd_ne (show b ≠ l from fun z => by subst z; rw [hl] at h; cases h)]; exact h
theorem Md.same {f : List Addr} {H H' : Hp} (s : Same H H') : Md f H H' := fun b o _ h => s b o h
section
variable {ι : Type} {F : Fam ι} {ρ ρ' : En} {o : Out} {rest : List Stmt}
end
theorem lc_put {ι : Type} {F : Fam ι} {own : List Str} {fr : List Nat} {sc : Scope} {cl : ι → List (Str × Addr)} {elt tg iter : Expr} {ifs : List Expr} {ρ : En} {t : Tr} {pos spos py : Pos} (j : Nat) {x : Str} (h : Elc F own fr sc cl elt tg iter ifs ρ t) (L : ∀ i, LcScope (F.cx i) sc (cl i) fr) (hN : ∀ i, (F.cx i).N.Nodup) (hi : ∀ i, (F.cx i).N[j]? = some x := by intro _; rfl)
    (hx : ∀ i, Loc (F.cx i).env.scope x := by intro _; first | exact Or.inl rfl | exact Or.inr rfl) (hsw : ∀ i, swapsWith (.ListComp elt [⟨tg, iter, ifs, 0⟩] sc pos) (some (.Name x py)) spos.line (F.cx i).env = pure true := by intro _; rfl)
    (hf : ∀ i, (F.cx i).fn x = true ∨ (F.cx i).env.scope.names.lookup x = some .local := by intro _; first | exact .inl rfl | exact .inr rfl) (hs : ∀ i x, foldedSetIterable iter (F.cx i).env x = pure x := by intro _ _; rfl) :
    ∃ τ, (∀ i, PS (F.cx i) (.Assign [.Name x py] (.ListComp elt [⟨tg, iter, ifs, 0⟩] sc pos) spos) τ) ∧ ∀ D σ G H, Same G H → RpD F.K G ρ σ → (∀ v G' H' fq, Step G H G' H' → Ow F.K G' H' t v fq → Nw H G' fq → D.nx (σ.set j (some v)) H') → τ D σ H := by
  obtain ⟨τ, ⟨wi, g, tt, te, rfl, h1, h2, h3, h4⟩, z⟩ := h
  refine ⟨_, fun i => ps_lcset (cl := cl i) (L i) (F.calm i) (h1 i) (fun C s H ex pn => h2 (i, ⟨C, s, H, ex, pn⟩)) (fun C s H ex pn => h3 (i, ⟨C, s, H, ex, pn⟩)) (fun C s H ex pn => h4 (i, ⟨C, s, H, ex, pn⟩)) (hN i) (hi i) (hx i) (hsw i) (hf i) (hs i), fun D σ G H s r k => ?_⟩
  exact z σ G H _ s r fun v G1 H1 fq s1 o w => k v G1 H1 fq s1 o w
end L2
namespace L2
open PySem PySem.Spec PyProof.Rows
end L2
namespace L2
open PySem PySem.Spec PyProof.Rows
theorem uE_of {ι : Type} {F : Fam ι} {e : Expr} {ρ : En} {t : Tr} {σ : St} {G H : Hp} {Q : VK} (h : Ev F e ρ t) (s : Same G H) (r : RpD F.K G ρ σ) (k : Kv F.K G H t Q) : uE F e σ H Q := let ⟨τ, x, y⟩ := h; ⟨τ, x, y σ G H Q s r k⟩
theorem uT_of {ι : Type} {F : Fam ι} {e : Expr} {ρ : En} {b : Bool} {σ : St} {G H : Hp} {Q : Bool → Hp → Prop} (h : Et F e ρ b) (s : Same G H) (r : RpD F.K G ρ σ) (k : ∀ G' H', Step G H G' H' → Q b H') : uT F e σ H Q := let ⟨τ, x, y⟩ := h; ⟨τ, x, y σ G H Q s r k⟩
section
variable {ι : Type} {F : Fam ι} {e : Expr} {ρ : En} {pos : Pos}
end
end L2
namespace L2
open PySem PySem.Spec PyProof.Rows
section
variable {ι : Type} {F : Fam ι} {ρ ρ1 ρ' : En} {st : Stmt} {sts body A B : List Stmt} {c tg iter : Expr} {pos : Pos} {its : List Dv} {js : List Nat} {sp : Dv → Option (List Dv)}
end
end L2
namespace L2
open PySem PySem.Spec PyProof.Rows
end L2
namespace L2
open PySem PySem.Spec PyProof.Rows
section
variable {X : Cx}
end
section
variable {ι : Type} {F : Fam ι} {e : Expr} {ρ : En} {pos : Pos} {ta : Tr}
end
section
variable {ι : Type} {F : Fam ι} {ρ : En} {t : Tr} {c : Expr} {A sts : List Stmt} {pos : Pos}
end
section
variable {ι : Type} {F : Fam ι} {ρ : En} {tg iter : Expr} {body sts : List Stmt} {pos : Pos} {its : List Dv} {js : List Nat} {sp : Dv → Option (List Dv)} {o : Out}
end
end L2
namespace L2
open PySem PySem.Spec PyProof.Rows
section
open PySem.MeetsSeq PySem.AutoSeq1
end
section
variable {X : Cx}
theorem hvl_at {K : PySem.W.Frag} {H : Hp} : ∀ {ds : List Dv} {xs : List V} {m : Nat} {d : Dv}, HvL K H ds xs → ds[m]? = some d → ∃ x, xs[m]? = some x ∧ Hv K H d x
  | d0 :: ds, _, 0, d, ⟨x, r, h1, h2, _⟩, h => by cases h; subst h1; exact ⟨x, rfl, h2⟩
  | d0 :: ds, _, m + 1, d, ⟨x, r, h1, _, h3⟩, h => by
    subst h1
    exact hvl_at (ds := ds) (xs := r) (m := m) h3 h
  | [], _, m, d, _, h => by cases m <;> cases h
end
end L2
namespace L2
open PySem PySem.Spec PyProof.Rows
section
variable {κ : Type} [DecidableEq κ]
def valV (kvs : List (κ × V)) (k : κ) : Option V := (kvs.find? fun kv => decide (kv.1 = k)).map (·.2)
def putK (kvs : List (κ × V)) (k : κ) (v : V) : List (κ × V) :=
  if (kvs.any fun kv => decide (kv.1 = k)) = true then kvs.map (fun kv => if kv.1 = k then (kv.1, v) else kv) else kvs ++ [(k, v)]
theorem valV_pos {p : κ × V} {r : List (κ × V)} {k : κ} (e : p.1 = k) : valV (p :: r) k = some p.2 := by simp [valV, List.find?_cons, e]
theorem valV_neg {p : κ × V} {r : List (κ × V)} {k : κ} (e : ¬ p.1 = k) : valV (p :: r) k = valV r k := by simp [valV, List.find?_cons, e]
theorem valV_any (k : κ) : ∀ kvs : List (κ × V), (kvs.any fun kv => decide (kv.1 = k)) = (valV kvs k).isSome
  | [] => rfl
  | p :: r => by
    rw [List.any_cons]
    by_cases e : p.1 = k
    · simp only [valV_pos e, decide_eq_true e, Bool.true_or, Option.isSome_some]
    · rw [valV_neg e, decide_eq_false e, Bool.false_or]; exact valV_any k r
theorem length_putK (kvs : List (κ × V)) (k : κ) (v : V) : (putK kvs k v).length ≤ kvs.length + 1 := by
  unfold putK
  split
  · rw [List.length_map]; omega
  · rw [List.length_append, List.length_cons, List.length_nil]; omega
theorem putK_new {kvs : List (κ × V)} {k : κ} (v : V) (h : valV kvs k = none) : putK kvs k v = kvs ++ [(k, v)] := by
  unfold putK
  rw [valV_any, h]
  exact if_neg (by decide)
theorem RelO.isSome_eq {o : Option V} {u : Option Value} (r : RelO o u) : o.isSome = u.isSome := by
  cases o with
  | none => cases u with
    | none => rfl
    | some _ => exact (show False from r).elim
  | some _ => cases u with
    | none => exact (show False from r).elim
    | some _ => rfl
theorem KV.val {kvs : List (κ × V)} {vs : List (κ × Value)} (r : KV kvs vs) (k : κ) : RelO (valV kvs k) (valueAt vs k) := by
  unfold KV at r
  induction r with
  | nil => exact True.intro
  | @cons p q ps qs h t ih =>
    obtain ⟨h1, h2⟩ := h
    by_cases e : p.1 = k
    · have e' : q.1 = k := h1.symm.trans e
      have b : valueAt (q :: qs) k = some q.2 := by simp [valueAt, List.find?_cons, e']
      rw [valV_pos e, b]; exact h2
    · have e' : ¬ q.1 = k := fun z => e (h1.trans z)
      have b : valueAt (q :: qs) k = valueAt qs k := by simp [valueAt, List.find?_cons, e']
      rw [valV_neg e, b]; exact ih
theorem KV.any {kvs : List (κ × V)} {vs : List (κ × Value)} (r : KV kvs vs) (k : κ) : (kvs.any fun kv => decide (kv.1 = k)) = vs.any fun kv => decide (kv.1 = k) := by
  unfold KV at r
  induction r with
  | nil => rfl
  | cons h t ih => rw [List.any_cons, List.any_cons, ih, h.1]
theorem KV.repl {kvs : List (κ × V)} {vs : List (κ × Value)} (r : KV kvs vs) (k : κ) {y : V} {u : Value} (ry : RelV y u) :
    KV (kvs.map fun kv => if kv.1 = k then (kv.1, y) else kv) (vs.map fun kv => if kv.1 = k then (kv.1, u) else kv) := by
  unfold KV at r ⊢
  induction r with
  | nil => exact .nil
  | @cons p q ps qs h t ih =>
    rw [List.map_cons, List.map_cons]
    refine .cons ?_ ih
    obtain ⟨h1, h2⟩ := h
    by_cases e : p.1 = k
    · rw [if_pos e, if_pos (h1.symm.trans e)]; exact ⟨h1, ry⟩
    · rw [if_neg e, if_neg (fun z => e (h1.trans z))]; exact ⟨h1, h2⟩
theorem KV.put {kvs : List (κ × V)} {vs : List (κ × Value)} (r : KV kvs vs) (k : κ) {y : V} {u : Value} (ry : RelV y u) : KV (putK kvs k y) (stored vs k u) := by
  unfold putK stored
  rw [r.any k]
  by_cases e : (vs.any fun kv => decide (kv.1 = k)) = true
  · rw [if_pos e, if_pos e]; exact r.repl k ry
  · rw [if_neg e, if_neg e]; exact Paired.snoc r ⟨rfl, ry⟩
theorem KV.length {kvs : List (κ × V)} {vs : List (κ × Value)} (r : KV kvs vs) : kvs.length = vs.length := Paired.length r
end
theorem kV_is {P : Program} {w : World} {k : Key} {u : Value} (r : RelV (kV k) u) : (mixKind P w).is k u = true := by
  cases k with
  | inl i => obtain ⟨t, e⟩ := (show ∃ t, u = Value.int i t from r); subst e; exact mixKind_int P w i t
  | inr x => obtain ⟨t, e⟩ := (show ∃ t, u = Value.str x t from r); subst e; exact mixKind_str P w x t
theorem items_are {P : Program} {w : World} : ∀ {ks : List Key} {us : List Value}, Vals (ks.map kV) us → ItemsAre (mixKind P w) ks us
  | [], _, r => by rw [List.map_nil] at r; cases r; exact .nil
  | k :: ks, _, r => by
    rw [List.map_cons] at r
    cases r with
    | cons h t => exact .cons (kV_is h) (items_are t)
abbrev KT (H : Hp) : List (List Key × V) → List (List Key × Addr × Value) → Prop := Paired fun p q => p.1 = q.1 ∧ H q.2.1 = some (.tup (p.1.map kV)) ∧ RelV p.2 q.2.2
theorem KT.val {H : Hp} {kvs : List (List Key × V)} {xs : List (List Key × Addr × Value)} (r : KT H kvs xs) (k : List Key) : RelO (valV kvs k) ((atKey xs k).map (·.2)) := by
  induction r with
  | nil => exact True.intro
  | @cons p q ps qs h t ih =>
    obtain ⟨h1, _, h2⟩ := h
    by_cases e : p.1 = k
    · have e' : q.1 = k := h1.symm.trans e
      have b : atKey (q :: qs) k = some q.2 := by simp [atKey, List.find?_cons, e']
      rw [valV_pos e, b]; exact h2
    · have e' : ¬ q.1 = k := fun z => e (h1.trans z)
      have b : atKey (q :: qs) k = atKey qs k := by simp [atKey, List.find?_cons, e']
      rw [valV_neg e, b]; exact ih
theorem KT.repl {H : Hp} {kvs : List (List Key × V)} {xs : List (List Key × Addr × Value)} (r : KT H kvs xs) (k : List Key) {y : V} {u : Value} (ry : RelV y u) :
    KT H (kvs.map fun kv => if kv.1 = k then (kv.1, y) else kv) (xs.map (putAt k u)) := by
  induction r with
  | nil => exact .nil
  | @cons p q ps qs h t ih =>
    rw [List.map_cons, List.map_cons]
    refine .cons ?_ ih
    obtain ⟨h1, h2, h3⟩ := h
    unfold putAt
    by_cases e : p.1 = k
    · rw [if_pos e, if_pos (h1.symm.trans e)]; exact ⟨h1, h2, ry⟩
    · rw [if_neg e, if_neg (fun z => e (h1.trans z))]; exact ⟨h1, h2, h3⟩
theorem KT.put {H : Hp} {kvs : List (List Key × V)} {xs : List (List Key × Addr × Value)} (r : KT H kvs xs) (k : List Key) {b : Addr} {y : V} {u : Value} (hb : H b = some (.tup (k.map kV))) (ry : RelV y u) :
    KT H (putK kvs k y) (storedH xs k b u) := by
  have e : (kvs.any fun kv => decide (kv.1 = k)) = (atKey xs k).isSome := by
    rw [valV_any, (r.val k).isSome_eq, Option.isSome_map]
  unfold putK storedH
  rw [e]
  by_cases q : (atKey xs k).isSome = true
  · rw [if_pos q, if_pos q]; exact r.repl k ry
  · rw [if_neg q, if_neg q]; exact Paired.snoc r ⟨rfl, hb, ry⟩
theorem KT.keeps {H H' : Hp} {kvs : List (List Key × V)} {xs : List (List Key × Addr × Value)} (r : KT H kvs xs) (ht : ∀ b ys, H b = some (.tup ys) → H' b = some (.tup ys)) : KT H' kvs xs :=
  Paired.mapP r fun _ _ z => ⟨z.1, ht _ _ z.2.1, z.2.2⟩
section
variable {P : Program} {w : World} {H : Hp} {h : Heap} {a : Addr}
theorem rd_of {u : HO} (ok : HOk P w H h) (e : Rd H a u) : ObjOk P w H h a u := e.ok ok
theorem dk_rd {kvs : List (Key × V)} (ok : HOk P w H h) (e : Rd H a (.dK kvs)) : kvs.length ≤ sizeLine ∧ (a == sysModules) = false ∧ ∃ vs, KV kvs vs ∧ h.DictOf (mixKind P w) a vs :=
  show ObjOk P w H h a (.dK kvs) from rd_of ok e
theorem dk_of {kvs : List (Key × V)} (ok : HOk P w H h) (e : H a = some (.dK kvs)) : kvs.length ≤ sizeLine ∧ (a == sysModules) = false ∧ ∃ vs, KV kvs vs ∧ h.DictOf (mixKind P w) a vs := dk_rd ok (.inl e)
theorem key_of {ks : List Key} (ok : HOk P w H h) (e : H a = some (.tup (ks.map kV))) : (tupleKind (mixKind P w)).is h ks a := by
  obtain ⟨_, its, r, o, h1, h2, n, h3⟩ := (show ObjOk P w H h a (.tup (ks.map kV)) from ok a _ e)
  exact ⟨o, its.toArray, n, h1, h2, h3, by simpa using items_are r⟩
theorem dt_rd {kvs : List (List Key × V)} (ok : HOk P w H h) (e : Rd H a (.dT kvs)) : kvs.length ≤ sizeLine ∧ (a == sysModules) = false ∧
    ∃ xs, KT H kvs xs ∧ h.DictOfH (tupleKind (mixKind P w)) a xs := by
  obtain ⟨z, y, xs, r, o, es, ep, h1, h2, h3, h4, h5⟩ := (show ObjOk P w H h a (.dT kvs) from rd_of ok e)
  refine ⟨z, y, xs, r, o, es, ep, h1, h2, h3, h4, fun x hx => ?_, h5⟩
  have all : ∀ {l : List (List Key × V)} {m : List (List Key × Addr × Value)}, KT H l m → ∀ x ∈ m, (tupleKind (mixKind P w)).is h x.1 x.2.1 := by
    intro l m q
    induction q with
    | nil => intro x hx; exact nomatch hx
    | @cons p q ps qs hq t ih =>
      intro x hx
      rcases List.mem_cons.mp hx with e | hx
      · subst e
        exact key_of ok (by rw [← hq.1]; exact hq.2.1)
      · exact ih x hx
  exact all r x hx
theorem dt_of {kvs : List (List Key × V)} (ok : HOk P w H h) (e : H a = some (.dT kvs)) : kvs.length ≤ sizeLine ∧ (a == sysModules) = false ∧
    ∃ xs, KT H kvs xs ∧ h.DictOfH (tupleKind (mixKind P w)) a xs := dt_rd ok (.inl e)
end
def DGet (H : Hp) (a : Addr) (y : V) (r : Option V) : Prop :=
  (∃ kvs k, Rd H a (.dK kvs) ∧ y = kV k ∧ r = valV kvs k) ∨ ∃ kvs k b, Rd H a (.dT kvs) ∧ y = .ref b ∧ H b = some (.tup (k.map kV)) ∧ r = valV kvs k
def DPut (H : Hp) (a : Addr) (y v : V) (H' : Hp) : Prop :=
  (∃ kvs k, H a = some (.dK kvs) ∧ y = kV k ∧ kvs.length < sizeLine ∧ H' = upd H a (.dK (putK kvs k v))) ∨
  ∃ kvs k b, H a = some (.dT kvs) ∧ y = .ref b ∧ H b = some (.tup (k.map kV)) ∧ kvs.length < sizeLine ∧ H' = upd H a (.dT (putK kvs k v))
theorem DGet.k {H : Hp} {a : Addr} {kvs : List (Key × V)} {k : Key} (e : H a = some (.dK kvs)) : DGet H a (kV k) (valV kvs k) := .inl ⟨kvs, k, .inl e, rfl, rfl⟩
theorem DPut.k {H : Hp} {a : Addr} {kvs : List (Key × V)} {k : Key} {v : V} (e : H a = some (.dK kvs)) (hl : kvs.length < sizeLine) : DPut H a (kV k) v (upd H a (.dK (putK kvs k v))) := .inl ⟨kvs, k, e, rfl, hl, rfl⟩
section
variable {X : Cx} {pins : List (Addr × Obj)} {σ : St} {H : Hp} {s : Shared} {a : Addr} {y v : V} {u r : Value} {o : Option V} {A : Around} {E : Value → Shared → Prop}
theorem Inv.big (I : Inv X pins σ H s) : sysModules < s.heap.objs.size := by
  have h : mainGlobals < s.heap.objs.size := (I.mod.glob.keeps I.bk).lt
  exact Nat.lt_trans (by decide) h
theorem d_notIn {Q : Value → Shared → Prop} (hu : A.units + 1 < cLine) (I : Inv X pins σ H s) (g : DGet H a y o) (ry : RelV y u) (h : ∀ s', Inv X pins σ H s' → Q (.bool (!o.isSome)) s') :
    wpAny (model X.prog X.w) A (compareOp .NotIn u (.ref a)) Q E s := by
  rcases g with ⟨kvs, k, e, ey, l⟩ | ⟨kvs, k, b, e, ey, eb, l⟩
  · subst ey
    obtain ⟨z, hd, vs, rel, dd⟩ := dk_rd I.hok e
    refine wpAny_notIn_of (kV_is ry) hd dd.mapOf ?_
    rw [← (rel.val k).isSome_eq, ← l]
    exact h _ (I.tok _)
  · subst ey
    cases (show u = Value.ref b from ry)
    obtain ⟨z, hd, xs, rel, dd⟩ := dt_rd I.hok e
    refine wpAny_notIn_heap (tupleKind_room_in1 hu) (key_of I.hok eb) hd dd ?_
    have q := (rel.val k).isSome_eq
    rw [Option.isSome_map] at q
    rw [← q, ← l]
    exact h _ (I.tok _)
theorem d_write {h' : Heap} {t' : Nat} {ob : HO} (I : Inv X pins σ H s) (mu : Mut (H a)) (hs : Heap.SameBut a s.heap h') (he : ∃ q, h'.get? a = some q) (new : ObjOk X.prog X.w (upd H a ob) h' a ob) :
    Inv X pins σ (upd H a ob) { s with heap := h', toks := t' } :=
  I.write (x := a) (e := a) mu (.inl rfl) (fun b q hb z => (hs.2 b hb).trans z) he new
theorem dk_new {P : Program} {w : World} {H' : Hp} {h' : Heap} {kvs : List (Key × V)} {vs : List (Key × Value)} (z : kvs.length ≤ sizeLine) (hd : (a == sysModules) = false) (rel : KV kvs vs) (dd : h'.DictOf (mixKind P w) a vs) :
    ObjOk P w H' h' a (.dK kvs) := ⟨z, hd, vs, rel, dd⟩
theorem d_setItem {H' : Hp} {Q : Unit → Shared → Prop} (hu : A.units + 1 < cLine) (I : Inv X pins σ H s) (g : DPut H a y v H') (ry : RelV y u) (rv : RelV v r) (h : ∀ s', Inv X pins σ H' s' → Q () s') :
    wpAny (model X.prog X.w) A (setItem (.ref a) u r) Q E s := by
  rcases g with ⟨kvs, k, e, ey, l, eH⟩ | ⟨kvs, k, b, e, ey, eb, l, eH⟩
  · subst ey eH
    obtain ⟨z, hd, vs, rel, dd⟩ := dk_of I.hok e
    have hz : vs.length ≤ sizeLine := by rw [← rel.length]; exact z
    have hl : (putK kvs k v).length ≤ sizeLine := by have := length_putK kvs k v; omega
    refine wpAny_setItem_pairs (hsz := hz) (kV_is ry) dd fun h' dd' hs => h _ ?_
    have he : ∃ q, h'.get? a = some q := let ⟨q, _, _, hq, _⟩ := dd'; ⟨q, hq⟩
    exact d_write I (by rw [e]; exact True.intro) hs he (dk_new hl hd (rel.put k rv) dd')
  · subst ey eH
    cases (show u = Value.ref b from ry)
    obtain ⟨z, hd, xs, rel, dd⟩ := dt_of I.hok e
    have hz : xs.length ≤ sizeLine := by rw [← Paired.length rel]; exact z
    have hl : (putK kvs k v).length ≤ sizeLine := by have := length_putK kvs k v; omega
    refine wpAny_setItem_heap (hsz := hz) (tupleKind_room_in1 hu) (key_of I.hok eb) dd fun h' dd' hs => h _ ?_
    obtain ⟨q, es, ep, hq, h2, h3, h4, _, h5⟩ := dd'
    refine d_write I (by rw [e]; exact True.intro) hs ⟨q, hq⟩ ⟨hl, hd, _, (rel.put k eb rv).keeps fun c ys ec => ?_, q, es, ep, hq, h2, h3, h4, h5⟩
    rw [upd_ne (ne_of ec e (fun z => nomatch z))]
    exact ec
end
section
variable {X : Cx} {pins : List (Addr × Obj)} {σ : St} {H : Hp} {s : Shared} {a : Addr} {kvs : List (Key × V)} {k : Key} {u : Value} {A : Around} {E : Value → Shared → Prop}
end
def tDNotIn (ty td : TE) : TE := fun σ H Q => ty σ H fun y H1 => td σ H1 fun x H2 => ∃ a o, x = .ref a ∧ DGet H2 a y o ∧ Q (.bl (!o.isSome)) H2
def sDPut (td ty tv : TE) : TS := fun D σ H => tv σ H fun v H1 => td σ H1 fun x H2 => ty σ H2 fun y H3 => ∃ a H4, x = .ref a ∧ DPut H3 a y v H4 ∧ D.nx σ H4
section
variable {X : Cx} {o i e value : Expr} {pos pos' tpos : Pos} {td ty tv : TE}
theorem pc_dnotin (hu : X.A.units + 1 < cLine) (hi : PE X i ty) (ho : PE X o td) : PC X .NotIn i o (tDNotIn ty td) := by
  intro pins s σ H Q I h
  refine thn (hi pins s σ H _ I h) fun iv s1 ⟨y, H1, I1, ry, q1⟩ => thn (ho pins s1 σ H1 _ I1 q1) fun u s2 ⟨x, H2, I2, rx, a, ov, ex, g, q2⟩ => ?_
  subst ex
  obtain rfl : u = Value.ref a := rx
  exact d_notIn hu I2 g ry fun s3 I3 => ⟨.bl (!ov.isSome), H2, I3, rfl, q2⟩
theorem ps_dput (hu : X.A.units + 1 < cLine) (ho : PE X o td) (hi : PE X i ty) (hv : PE X value tv) (hs : swapsWith value (some (.Subscript o i pos')) pos.line X.env = pure false) :
    PS X (.Assign [.Subscript o i pos'] value pos) (sDPut td ty tv) := by
  intro pins s σ H D I h
  refine wpAny_Assign_Subscript (thn (hv pins s σ H _ I h) fun r s1 ⟨v, H1, I1, rv, q1⟩ => thn (ho pins s1 σ H1 _ I1 q1) fun u s2 ⟨x, H2, I2, rx, q2⟩ => thn (hi pins s2 σ H2 _ I2 q2) fun iv s3 ⟨y, H3, I3, ry, a, H4, ex, g, q3⟩ => ?_) hs
  subst ex
  obtain rfl : u = Value.ref a := rx
  exact d_setItem hu I3 g ry rv fun s4 I4 => ⟨σ, H4, I4, q3⟩
end
theorem dk_empty {P : Program} {w : World} {H : Hp} (h : Heap) (hb : sysModules < h.objs.size) : ObjOk P w H (h.push { cls := .type "dict", data := .dict #[] }) h.objs.size (.dK []) :=
  ⟨Nat.zero_le _, beq_eq_false_iff_ne.mpr (Ne.symm (Nat.ne_of_lt hb)), [], .nil, Heap.DictOf.new h⟩
def tDNewK : TE := fun _ H Q => ∀ p, H p = none → Q (.ref p) (upd H p (.dK []))
section
variable {X : Cx} {pos : Pos}
theorem pe_dnewK : PE X (.Dict [] [] pos) tDNewK := fun pins s σ H Q I h =>
  wpAny_Dict_empty ⟨.ref s.heap.objs.size, _, I.laid (a := s.heap.objs.size) (o := .dK []) (t' := s.toks) (fun _ _ q => Heap.get?_push_of_some _ q) (Nat.le_refl _) (dk_empty s.heap I.big), rfl, h _ (I.hok.fresh (Nat.le_refl _))⟩
end
section
variable {X : Cx} {pins : List (Addr × Obj)} {σ : St} {H : Hp} {s : Shared} {a : Addr} {y d : V} {u r : Value} {o : Option V} {A : Around} {E : Value → Shared → Prop}
end
section
variable {X : Cx} {o e f : Expr} {apos cpos : Pos} {td ty tx : TE}
end
section
variable {X : Cx} {pins : List (Addr × Obj)} {σ : St} {H : Hp} {s : Shared} {a : Addr} {kvs : List (Key × V)} {A : Around} {E : Value → Shared → Prop}
end
section
variable {X : Cx} {pins : List (Addr × Obj)} {σ : St} {H : Hp} {s : Shared} {a : Addr} {y : V} {u : Value} {A : Around} {E : Value → Shared → Prop}
end
end L2
namespace L2
open PySem PySem.Spec PyProof.Rows
section
variable {ι : Type} {F : Fam ι} {e a b c : Expr} {ρ : En} {t ta tb' : Tr} {pos : Pos}
theorem ev_countF {v : V} {vs : List V} {o : Expr} {to : Tr} (ho : Ev F o ρ to) (eo : er to = .lst (vs.map .fl)) (ha : Ev F e ρ (.fz (.fl v))) {apos : Pos}
    (hbase : ∀ i, attributeBase o "count" (F.cx i).env (eval o (F.cx i).env) = eval o (F.cx i).env := by intro _; rfl)
    (hfew : ∀ i, ((backTo pos (starEach [e] (F.cx i).env)).all (fun x => !x.1) && (backToKw pos (keywordEach [] (F.cx i).env)).all (fun x => x.1.isSome) && decide (([e] : List Expr).length + ([] : List Keyword).length + (if ([] : List Keyword).isEmpty then 0 else 1) < 30)) = true := by intro _; rfl)
    (hline : (apos.endLine == pos.line) = true := by rfl) (hs : ∀ i, starEach [e] (F.cx i).env = [(false, eval e (F.cx i).env)] := by intro _; rfl) : Ev F (.Call (.Attribute o "count" apos) [e] [] pos) ρ (ti (vs.countP fun z => eqV z v : Nat)) :=
  ev_bm (r := rCount F.K) PySem.F.slot_list_count PySem.F.type_list_count (fun i => F.hK i ▸ mt_count) ho eo (eva_cons ha eva_nil hs) (fun G H x vs' Q s hx hv k => by
    rw [eo] at hx
    obtain ⟨l, us, rfl, h1, h2⟩ := hx
    obtain ⟨rfl, hf⟩ := hvl_flat h2
    obtain ⟨y, rfl, hy⟩ := hvl1 hv
    refine ⟨l, _, y, rfl, rfl, s.seq h1, by rw [hy.1]; exact hy.2, hf, ?_⟩
    rw [hy.1]
    exact k.sc s rfl) hbase hfew hline hs (fun _ => rfl)
theorem et_eqF {u v : V} (ha : Ev F a ρ (.fz (.fl u))) (hb : Ev F b ρ (.fz (.fl v))) (hs : scal u v = true) : Et F (.Compare a [.Eq] [b] pos) ρ (decide (u = v)) :=
  et_cmp (fun _ => op_eq) ha hb (fun G H x y Q s hx hy k => by rw [hvi hx, hvi hy]; exact ⟨hs, k⟩) (nomark _)
end
theorem for_enum {K : PySem.W.Frag} {l : Addr} {xs : List V} {g : TG} {tb : TS} {D : Ends} {σ : St} {H : Hp} (Pv : Nat → St → Hp → Prop) (h0 : Pv 0 σ H) (hl : ∀ i σ H, i ≤ xs.length → Pv i σ H → SqL K H l xs)
    (hs : ∀ i x σ H T, xs[i]? = some x → Pv i σ H → H T = none → g (.ref T) σ (upd H T (.tup [.int (i : Nat), x])) fun σ2 H2 => tb { D with nx := Pv (i + 1), ct := Pv (i + 1), bk := D.nx } σ2 H2) (hd : ∀ σ H, Pv xs.length σ H → D.nx σ H) :
    ∃ W : Nat → Nat → St → Hp → Prop, (∃ m, W 0 m σ H) ∧ ∀ i m σ H, W i m σ H →
      ((Ite K l xs).stop i H ∧ D.nx σ H) ∨ ((Ite K l xs).go i H ∧ ∃ N : St → Hp → Prop, (∀ σ' H', N σ' H' → ∃ m', m' < m ∧ W (i + 1) m' σ' H') ∧ ∀ x H', (Ite K l xs).yld i H x H' → g x σ H' fun σ2 H2 => tb { D with nx := N, ct := N, bk := D.nx } σ2 H2) := by
  refine ⟨fun i m σ H => m = xs.length - i ∧ i ≤ xs.length ∧ Pv i σ H, ⟨xs.length, by simp, Nat.zero_le _, h0⟩, ?_⟩
  rintro i m σ H ⟨rfl, hi, p⟩
  have q := hl i σ H hi p
  by_cases hlt : i < xs.length
  · refine .inr ⟨⟨q, hlt⟩, Pv (i + 1), fun σ' H' p' => ⟨xs.length - (i + 1), by omega, rfl, hlt, p'⟩, fun x H' y => ?_⟩
    obtain ⟨T, v, hT, hv, rfl, rfl⟩ := y
    exact hs i v σ H T hv p hT
  · have e : i = xs.length := by omega
    subst e
    exact .inl ⟨⟨q, rfl⟩, hd σ H p⟩
end L2
namespace L2
open PySem PySem.Spec PyProof.Rows
section
variable {X : Cx}
def sK (s : List Int) : List (Key × V) := s.map fun x => (.inl x, .bl true)
theorem kv_ints {prog : Program} {w : World} : ∀ {s : List Int} {vs : List (Key × Value)}, KV (sK s) vs → vs.length = s.length ∧ ∀ (i : Nat) (k : Key) (x : Value), vs[i]? = some (k, x) → ∃ n, s[i]? = some n ∧ k = .inl n
  | [], vs, h => by
    cases h
    exact ⟨rfl, fun i k x hx => by cases i <;> cases hx⟩
  | n :: s, vs, h => by
    cases h with
    | cons r t =>
      obtain ⟨h1, h2⟩ := kv_ints (prog := prog) (w := w) t
      refine ⟨by rw [List.length_cons, h1]; rfl, fun i k x hx => ?_⟩
      cases i with
      | zero =>
        have e : _ = (k, x) := Option.some.inj hx
        refine ⟨n, rfl, ?_⟩
        have := r.1
        rw [e] at this
        exact this.symm
      | succ i => exact h2 i k x hx
theorem ints_of_at : ∀ {vs : List Value} {ns : List Int}, vs.length = ns.length → (∀ (j : Nat) (v : Value), vs[j]? = some v → ∃ n t, ns[j]? = some n ∧ v = .int n t) → IntsAre vs ns
  | [], [], _, _ => .nil
  | [], _ :: _, h, _ => by cases h
  | _ :: _, [], h, _ => by cases h
  | v :: vs, n :: ns, h, hv => by
    obtain ⟨m, t, e1, e2⟩ := hv 0 v rfl
    cases e1
    rw [e2]
    exact .cons _ _ (ints_of_at (by simpa using h) fun j u hu => hv (j + 1) u hu)
theorem call_sortedD (hc : X.calm = true) : CallR X (.builtin "sorted") (fun xs H Q => ∃ (p : Addr) (ks : List Int), xs = [.ref p] ∧ H p = some (.dK (sK ks)) ∧ ks.length < 64 ∧ ∀ (l : Addr) (ms : List Int), H l = none → ms.Perm ks → ms.Pairwise (· ≤ ·) → Q (.ref l) (upd H l (.lst (ms.map V.int)))) := by
  intro pins s σ H xs us Q I r h
  obtain ⟨p, ks, rfl, hp, hz, q⟩ := h
  obtain ⟨u, rfl, rx⟩ := vals1 r
  cases rx
  obtain ⟨_, hS, vs, rKV, hD⟩ : (sK ks).length ≤ sizeLine ∧ (p == sysModules) = false ∧ ∃ vs, KV (sK ks) vs ∧ s.heap.DictOf (mixKind X.prog X.w) p vs := I.hok p _ hp
  obtain ⟨hl, hkv⟩ := kv_ints (prog := X.prog) (w := X.w) rKV
  obtain ⟨ep, hat⟩ := hD.dictAt
  have big : 1000 < sizeLine := by decide
  refine Calls.call_function_entry kind_sorted plain_sorted entry_sorted (args_sorted1 _) ?_
  unfold Builtin.«sorted»
  refine wpAny_bind (m := checkCount "sorted" 1 1 _) (wpAny_pure ?_)
  refine wpAny_bind (PySem.W.kdu_collect (A := X.A.in1) (PySem.W.kdl_dict (knd := mixKind X.prog X.w) (kvs := vs) (ep := ep) hS) (I.ok.hd hc) hat (by rw [hl]; omega) fun h' tk acc hk hacc => ?_)
  have ha : acc.toList.length = ks.length := by rw [Array.length_toList, hacc.1, hl]
  have hI : IntsAre acc.toList ks := ints_of_at ha fun j v hv => by
    obtain ⟨k, x, hx, hkx⟩ := hacc.2 j v (by rw [← Array.getElem?_toList]; exact hv)
    obtain ⟨n, hn, rfl⟩ := hkv j k x hx
    rw [mixKind_is] at hkx
    rcases keyIs_shape hkx with ⟨i, t, e1, e2⟩ | ⟨y, t, e1, e2⟩
    · cases e1
      exact ⟨n, t, hn, e2⟩
    · cases e1
  refine wpAny_bind (wpAny_newList ?_ (by rw [ha]; omega))
  have hoL : (h'.push (seqObj "list" acc.toList.toArray 0)).get? h'.objs.size = some (seqObj "list" acc.toList.toArray 0) := Heap.get?_push_size _ rfl
  refine wpAny_bind (wpAny_holding (wpAny_call_entry slot_list_sort ⟨_, hoL, rfl⟩ entry_list_sort (list_sort_tree (s := { s with heap := h'.push (seqObj "list" acc.toList.toArray 0), toks := tk }) hoL hI (by rw [ha]; exact hz) fun out ns' a1 a2 a3 => ⟨_, rfl, ?_⟩) (args_list_sort _)))
  refine wpAny_pure ⟨_, rfl, ?_⟩
  obtain ⟨e, he⟩ := sortedHeap_at (out := out) hoL
  have I1 : Inv X pins σ H { s with heap := h', toks := tk } := I.kept (t' := tk) hk
  refine ⟨.ref h'.objs.size, _, I1.laid (t' := tk) (o := .lst (ns'.map V.int)) (fun b o eb => ?_) (Nat.le_refl _) ?_, rfl, q _ ns' (I1.hok.fresh (Nat.le_refl _)) a2 a3⟩
  · have lt : b < h'.objs.size := Heap.lt_size eb
    rw [sortedHeap_old (Nat.ne_of_lt lt) (by rw [size_push']; exact Nat.lt_succ_of_lt lt), Heap.get?_push_ne _ _ _ (Nat.ne_of_lt lt)]
    exact eb
  · exact ⟨by rw [List.length_map, a2.length_eq]; omega, out.toList, e, vals_ints a1, by rw [Array.toArray_toList]; exact he⟩
end
theorem OwL.get {K : PySem.W.Frag} {G H : Hp} : ∀ {ts : List Tr} {vs : List V} {fp : List Addr} {n : Nat} {t : Tr}, OwL K G H ts vs fp → ts[n]? = some t → ∃ v fq, vs[n]? = some v ∧ Ow K G H t v fq ∧ (∀ a ∈ fq, a ∈ fp) ∧ (fp.Nodup → fq.Nodup)
  | [], _, _, n, _, _, h => by cases n <;> cases h
  | t0 :: ts, vs, fp, 0, t, ⟨v, r, f1, f2, h1, h2, h3, h4⟩, h => by
    cases h
    subst h1 h2
    exact ⟨v, f1, rfl, h3, fun a ha => List.mem_append_left _ ha, fun nd => (List.nodup_append.mp nd).1⟩
  | t0 :: ts, vs, fp, n + 1, t, ⟨v, r, f1, f2, h1, h2, h3, h4⟩, h => by
    subst h1 h2
    obtain ⟨u, fq, g1, g2, g3, g4⟩ := OwL.get (n := n) h4 h
    exact ⟨u, fq, g1, g2, fun a ha => List.mem_append_right _ (g3 a ha), fun nd => g4 (List.nodup_append.mp nd).2.1⟩
theorem ev_ixO {ι : Type} {F : Fam ι} {a b : Expr} {ρ : En} {pos : Pos} {ts : List Tr} {n : Nat} {t : Tr} (ha : Ev F a ρ (.tp ts)) (hb : Ev F b ρ (ti (n : Nat))) (hk : ts[n]? = some t) (hs : PlainIx b := by exact fun _ _ => rfl) : Ev F (.Subscript a b pos) ρ t := by
  obtain ⟨τ, p, q⟩ := ha
  obtain ⟨τ', p', q'⟩ := hb.use
  refine ⟨tOp (rIxT F.K) τ τ', fun i => pe_ix (ix_tupK (F.hK i)) (p i) (p' i) hs, fun σ G H Q s rr k => ?_⟩
  refine q σ G H _ s rr fun x G1 H1 f1 s1 o1 w1 => q' σ G1 H1 _ s1.s (rr.mono s1.g) fun y G2 H2 s2 hy => ?_
  obtain ⟨l, vs, fq, rfl, hl, ol, rfl⟩ := o1
  obtain ⟨v, f3, g1, g2, g3, g4⟩ := ol.get hk
  have d2 := (List.nodup_cons.mp w1.d).2
  have th := g2.there
  refine ⟨l, vs, _, v, rfl, hvi hy, SqT.of (s2.h _ _ hl), atI_nat g1, k v G2 H2 f3 (s1.trans s2) (g2.mono s2.g s2.h) ⟨fun a ha => w1.n a (.tail _ (g3 a ha)), fun a ha => ?_, g4 d2⟩⟩
  cases z : G2 a with
  | none => rfl
  | some o =>
    obtain ⟨u, hu⟩ := th a ha
    have := s2.n a (w1.g a (.tail _ (g3 a ha))) (by rw [z]; exact fun y => nomatch y)
    rw [hu] at this; cases this
theorem EtS.to {ι : Type} {F : Fam ι} {e : Expr} {ρ : En} {p q : Bool} (h : EtS F e ρ p) (z : p = q) : EtS F e ρ q := z ▸ h
theorem Rns.to {ι : Type} {F : Fam ι} {sts : List Stmt} {ρ : En} {o o' : Out} (h : Rns F sts ρ o) (z : o = o') : Rns F sts ρ o' := z ▸ h
section
variable {ι : Type} {F : Fam ι} {a : Expr} {ρ : En} {pos : Pos} {ta : Tr}
theorem hv_ref {K : PySem.W.Frag} {G : Hp} {xs : List Dv} {d : Dv} {x : V} (e : d = .lst xs ∨ d = .tup xs) (h : Hv K G d x) : ∃ l, x = .ref l := by
  rcases e with rfl | rfl
  · obtain ⟨l, _, h, _⟩ := h; exact ⟨l, h⟩
  · obtain ⟨l, _, h, _⟩ := h; exact ⟨l, h⟩
theorem et_isNL {xs : List Dv} {j : Nat} {p' : Pos} (ha : Ev F a ρ ta) (ea : er ta = .lst xs ∨ er ta = .tup xs) : Et F (.Compare a [.Is] [.Constant .none j p'] pos) ρ false :=
  et_cmp (fun _ => op_isN) ha ev_non (fun G H x y Q s hx hy k => ⟨hvi hy, by
    obtain ⟨l, rfl⟩ := hv_ref ea hx
    rw [show decide (V.ref l = V.non) = false from decide_eq_false (fun z => nomatch z)]
    exact k⟩) (nomark _)
theorem ev_isN {v : V} {j : Nat} {p' : Pos} (ha : Ev F a ρ (.fz (.fl v))) : Ev F (.Compare a [.Is] [.Constant .none j p'] pos) ρ (tb (decide (v = .non))) :=
  ev_cmp (fun _ => op_isN) ha ev_non (fun G H x y Q s hx hy k => ⟨hvi hy, by rw [hvi hx]; exact k⟩) (nomark _)
end
end L2
namespace L2
open PySem PySem.Spec PyProof.Rows
end L2
namespace L2
open PySem PySem.Spec PyProof.Rows
end L2
namespace L2
open PySem PySem.Spec PyProof.Rows
section
variable (P : Program) (w : World) (K : PySem.W.Frag) (mg : Str → Option Value) (base : Heap) (N : List Str) (qual : Str) (sc : Scope) (f : Addr) (k : Nat)
end
section
variable {P : Program} {w : World} {K : PySem.W.Frag} {mg : Str → Option Value} {base : Heap} {N : List Str} {qual : Str} {sc : Scope} {f : Addr} {k : Nat} {ρ ρ1 : En} {st : Stmt} {sts A B : List Stmt} {C : Addr} {c : Expr} {pos : Pos}
end
section
variable {ι : Type} {F : Fam ι} {ρ ρ' : En} {D : Addr} {i : Nat} {n x : Str} {np hpos pos : Pos} {body suite : List Stmt} {b₀ : Stmt}
end
end L2
namespace L2
open PySem PySem.Spec PyProof.Rows
theorem below_go (xs : Array Nat) (j : Nat) (hx : ∀ i, i < xs.size → xs.getD i j < j) : ∀ fuel lo hi, hi ≤ xs.size → lo ≤ hi → hi - lo ≤ fuel → SetTable.below.go xs j fuel lo hi = hi
  | 0, lo, hi, _, h2, h3 => by
    have : lo = hi := by omega
    subst this
    rfl
  | fuel + 1, lo, hi, h1, h2, h3 => by
    unfold SetTable.below.go
    by_cases h : lo < hi
    · rw [if_pos h]
      dsimp only
      rw [if_pos (hx _ (by omega))]
      exact below_go xs j hx fuel _ hi h1 (by omega) (by omega)
    · rw [if_neg h]
      omega
theorem below_all {xs : Array Nat} {j : Nat} (hx : ∀ i, i < xs.size → xs.getD i j < j) : SetTable.below xs j = xs.size := below_go xs j hx _ 0 _ (Nat.le_refl _) (Nat.zero_le _) (by omega)
theorem below_cut_go (xs : Array Nat) (j k : Nat) (h0 : ∀ i, i < k → i < xs.size → xs.getD i j < j) (h9 : ∀ i, k ≤ i → i < xs.size → ¬ xs.getD i j < j) : ∀ fuel lo hi, hi ≤ xs.size → lo ≤ k → k ≤ hi → hi - lo ≤ fuel → SetTable.below.go xs j fuel lo hi = k
  | 0, lo, hi, _, h2, h3, h4 => by
    have : lo = k := by omega
    subst this
    rfl
  | fuel + 1, lo, hi, h1, h2, h3, h4 => by
    unfold SetTable.below.go
    by_cases h : lo < hi
    · rw [if_pos h]
      dsimp only
      by_cases hm : (lo + hi) / 2 < k
      · rw [if_pos (h0 _ hm (by omega))]
        exact below_cut_go xs j k h0 h9 fuel _ hi h1 (by omega) h3 (by omega)
      · rw [if_neg (h9 _ (by omega) (by omega))]
        exact below_cut_go xs j k h0 h9 fuel lo _ (by omega) h2 (by omega) (by omega)
    · rw [if_neg h]
      omega
theorem below_cut {xs : Array Nat} {j k : Nat} (hk : k ≤ xs.size) (h0 : ∀ i, i < k → i < xs.size → xs.getD i j < j) (h9 : ∀ i, k ≤ i → i < xs.size → ¬ xs.getD i j < j) : SetTable.below xs j = k :=
  below_cut_go xs j k h0 h9 _ 0 _ (Nat.le_refl _) (Nat.zero_le _) hk (by omega)
theorem getD_list (ns : List Nat) (i j : Nat) : ns.toArray.getD i j = ns.getD i j := by
  simp [Array.getD, List.getD]
  split <;> simp_all
structure Tab (led : Bool) (t : SetTable) (ns : List Nat) : Prop where
  place : t.place = ns.toArray
  dum : t.dummies = #[]
  plain : t.plain = true
  led : t.led = led
  mask : (t.mask = 7 ∧ ns.length ≤ 4) ∨ t.mask = 31
theorem Tab.fits {led : Bool} {t : SetTable} {ns : List Nat} (T : Tab led t ns) (h6 : ns.length ≤ 6) : t.fits ns.length = true := by
  unfold SetTable.fits SetTable.fill
  rw [T.place, T.dum]
  simp
  rcases T.mask with ⟨h1, h2⟩ | h1 <;> omega
theorem slot_free {t : SetTable} {ns : List Nat} {j : Nat} (hp : t.place = ns.toArray) (hd : t.dummies = #[]) (hlt : ∀ n ∈ ns, n < j) : t.slot j = .empty := by
  unfold SetTable.slot
  dsimp only
  have h1 : (t.place[SetTable.below t.place j]? == some j) = false := by
    rw [hp]
    cases e : ns.toArray[SetTable.below ns.toArray j]? with
    | none => rfl
    | some m =>
      have hm : m ∈ ns := by
        have := Array.mem_of_getElem? e
        simpa using this
      have := hlt m hm
      have hne : m ≠ j := by omega
      simpa using hne
  rw [if_neg (by rw [h1]; exact Bool.false_ne_true)]
  have h2 : SetTable.has t.dummies j = false := by rw [hd]; rfl
  rw [if_neg (by rw [h2]; exact Bool.false_ne_true)]
theorem bits_small {j : Nat} (h : j < 6) : SetTable.bits (j : Int) = j := by
  have : ∀ j : Nat, j < 6 → SetTable.bits (j : Int) = j := by decide
  exact this j h
theorem free_at {led : Bool} {t : SetTable} {ns : List Nat} {j : Nat} (T : Tab led t ns) (hlt : ∀ n ∈ ns, n < j) (h6 : j < 6) : t.freeSlot (j : Int) = some (j, false) := by
  have hm : j % (t.mask + 1) = j := Nat.mod_eq_of_lt (by rcases T.mask with ⟨h1, _⟩ | h1 <;> omega)
  have hs : t.slot j = .empty := slot_free T.place T.dum hlt
  have hpj : (t.probeStart (j : Int)).j = j := by
    unfold SetTable.probeStart
    dsimp only
    rw [bits_small h6, hm]
  have hpd : (t.probeStart (j : Int)).dummy = none := rfl
  have : t.probe (fun _ => (j : Int) + 1) (j : Int) (t.probeStart (j : Int)) = some (.empty j none) := by
    unfold SetTable.probe
    have e : 10 * SetTable.turns t.mask = (10 * SetTable.turns t.mask - 1) + 1 := by unfold SetTable.turns; omega
    rw [e]
    unfold SetTable.probe.go
    rw [hpj, hs]
    dsimp only
    rw [hpd]
  unfold SetTable.freeSlot
  rw [this]
  rfl
theorem insert_end {α : Type} (xs : Array α) (x : α) : SetTable.insertAt xs xs.size x = xs.push x := by
  apply Array.ext'
  rw [SetTable.toList_insertAt, Array.toList_push, ← Array.length_toList, List.take_length, List.drop_length]
theorem lay_at {led : Bool} {t : SetTable} {ns : List Nat} {j : Nat} {es : Array (Int × Value)} {x : Value} (T : Tab led t ns) (hlt : ∀ n ∈ ns, n < j) (h6 : j < 6) (h5 : ns.length ≤ 5) (he : es.size = ns.length) :
    layNew t es (j : Int) x = (es.push ((j : Int), x), { t with place := (ns ++ [j]).toArray }, false, false) := by
  have hb : SetTable.below t.place j = t.place.size := below_all fun i hi => by
    rw [T.place] at hi ⊢
    rw [getD_list]
    have hi' : i < ns.length := by simpa using hi
    rw [List.getD_eq_getElem?_getD, List.getElem?_eq_getElem hi']
    exact hlt _ (List.getElem_mem hi')
  have hput : t.put j = ({ t with place := (ns ++ [j]).toArray }, ns.length) := by
    unfold SetTable.put
    dsimp only
    rw [hb, insert_end]
    have h2 : SetTable.has t.dummies j = false := by rw [T.dum]; rfl
    rw [h2]
    rw [T.place]
    simp
  have hfit : ({ t with place := (ns ++ [j]).toArray } : SetTable).fits (es.push ((j : Int), x)).size = true := by
    unfold SetTable.fits SetTable.fill
    rw [T.dum]
    simp [he]
    rcases T.mask with ⟨h1, h2⟩ | h1 <;> omega
  unfold layNew
  rw [free_at T hlt h6]
  dsimp only
  rw [hput]
  dsimp only
  rw [← he, insert_end]
  unfold SetTable.orStandIn
  rw [if_pos hfit, hfit]
  rfl
theorem laid_six : ∀ ns ∈ [[0, 1, 2, 3, 4], [0, 1, 2, 3, 5], [0, 1, 2, 4, 5], [0, 1, 3, 4, 5], [0, 2, 3, 4, 5], [1, 2, 3, 4, 5]],
    (SetTable.layClean 31 ((ns.map fun (n : Nat) => (n : Int)).toArray)).map (fun owner => (List.range (31 + 1)).filterMap fun j => (owner.getD j none).map (j, ·)) = some (ns.zip [0, 1, 2, 3, 4]) := by decide +kernel
theorem five_of {ns : List Nat} (hl : ns.length = 5) (hp : ns.Pairwise (· < ·)) (h6 : ∀ n ∈ ns, n < 6) : ns ∈ [[0, 1, 2, 3, 4], [0, 1, 2, 3, 5], [0, 1, 2, 4, 5], [0, 1, 3, 4, 5], [0, 2, 3, 4, 5], [1, 2, 3, 4, 5]] := by
  match ns, hl with
  | [a, b, c, d, e], _ =>
    simp only [List.pairwise_cons, List.mem_cons, List.not_mem_nil, or_false, forall_eq_or_imp, forall_eq] at hp h6
    obtain ⟨⟨h1, -⟩, ⟨h2, -⟩, ⟨h3, -⟩, h4, -⟩ := hp
    obtain ⟨-, -, -, -, h5⟩ := h6
    have ea : a = 0 ∨ a = 1 := by omega
    rcases ea with rfl | rfl
    · have eb : b = 1 ∨ b = 2 := by omega
      rcases eb with rfl | rfl
      · have ec : c = 2 ∨ c = 3 := by omega
        rcases ec with rfl | rfl
        · have ed : (d = 3 ∧ e = 4) ∨ (d = 3 ∧ e = 5) ∨ (d = 4 ∧ e = 5) := by omega
          rcases ed with ⟨rfl, rfl⟩ | ⟨rfl, rfl⟩ | ⟨rfl, rfl⟩ <;> decide
        · have ed : d = 4 ∧ e = 5 := by omega
          obtain ⟨rfl, rfl⟩ := ed
          decide
      · have ed : c = 3 ∧ d = 4 ∧ e = 5 := by omega
        obtain ⟨rfl, rfl, rfl⟩ := ed
        decide
    · have ed : b = 2 ∧ c = 3 ∧ d = 4 ∧ e = 5 := by omega
      obtain ⟨rfl, rfl, rfl, rfl⟩ := ed
      decide
theorem relay_at {t : SetTable} {ns : List Nat} {es : Array (Int × Value)} (hl : ns.length = 5) (hp : ns.Pairwise (· < ·)) (h6 : ∀ n ∈ ns, n < 6) (he : es.map (·.1) = (ns.map fun (n : Nat) => (n : Int)).toArray) :
    relayAll t es (SetTable.grown es.size) = (es, { t with mask := 31, place := ns.toArray, dummies := #[], moves := t.movedTo 31 }, false) := by
  have hsz : es.size = 5 := by
    have := congrArg Array.size he
    simpa [hl] using this
  have hlaid := laid_six ns (five_of hl hp h6)
  have hz1 : (ns.zip [0, 1, 2, 3, 4]).map (·.1) = ns := by
    match ns, hl with
    | [a, b, c, d, e], _ => rfl
  have hz2 : (ns.zip [0, 1, 2, 3, 4]).map (·.2) = [0, 1, 2, 3, 4] := by
    match ns, hl with
    | [a, b, c, d, e], _ => rfl
  have hg : SetTable.sizeAbove (SetTable.grown es.size) - 1 = 31 := by rw [hsz]; decide
  obtain ⟨owner, ho, hlive⟩ := Option.map_eq_some_iff.mp hlaid
  have hr : t.relaid (es.map (·.1)) (SetTable.grown es.size) = some ({ t with mask := 31, place := ns.toArray, dummies := #[], moves := t.movedTo 31 }, #[0, 1, 2, 3, 4]) := by
    unfold SetTable.relaid
    rw [hg, he]
    unfold SetTable.laid
    rw [ho]
    dsimp only [Option.bind_eq_bind, Option.bind_some, Option.pure_def]
    rw [hlive, hz1, hz2]
  have hf : (#[0, 1, 2, 3, 4] : Array Nat).filterMap (es[·]?) = es := by
    apply Array.ext'
    rw [Array.toList_filterMap]
    have := filterMap_getElem?_range es
    rw [hsz] at this
    exact this
  have hfit : ({ t with mask := 31, place := ns.toArray, dummies := #[], moves := t.movedTo 31 } : SetTable).fits es.size = true := by
    unfold SetTable.fits SetTable.fill
    simp [hl, hsz]
  unfold relayAll
  rw [hr]
  dsimp only
  rw [hf, hfit]
  have hc : coversAll #[0, 1, 2, 3, 4] es.size = true := by rw [hsz]; decide
  rw [hc]
  rfl
def ents (ks : List (Nat × Tok)) : List (Int × Value) := ks.map fun p => ((p.1 : Int), Value.int p.1 p.2)
def SetS (led : Bool) (h : Heap) (a : Addr) (ks : List (Nat × Tok)) : Prop :=
  ∃ o t ep, h.get? a = some o ∧ o.ExactSet ∧ o.data = .set (ents ks).toArray ep t ∧ Tab led t (ks.map (·.1))
structure Small (ks : List (Nat × Tok)) : Prop where
  len : ks.length ≤ 6
  lt : ∀ p ∈ ks, p.1 < 6
  up : (ks.map (·.1)).Pairwise (· < ·)
theorem hash_small {j : Nat} (h : j < 6) : hashInt (j : Int) = (j : Int) := by
  have : ∀ j : Nat, j < 6 → hashInt (j : Int) = (j : Int) := by decide +kernel
  exact this j h
theorem ents_len (ks : List (Nat × Tok)) : (ents ks).length = ks.length := by unfold ents; rw [List.length_map]
theorem ents_fst (ks : List (Nat × Tok)) : (ents ks).map (·.1) = (ks.map (·.1)).map fun (n : Nat) => (n : Int) := by
  unfold ents
  rw [List.map_map, List.map_map]
  rfl
section
variable {prog : Program} {w : World} {A : Around} {E : Value → Shared → Prop} {s : Shared}
theorem ents_of {ks : List (Nat × Tok)} (h : Small ks) : ElemsOf (intKind prog w) (ents ks).toArray.toList := by
  intro e he
  have he' : e ∈ ents ks := by simpa using he
  obtain ⟨p, hp, rfl⟩ := List.mem_map.mp he'
  exact ⟨⟨(p.1 : Int), intKind_is _ _ _ _, (hash_small (h.lt p hp)).symm⟩, rfl⟩
theorem SetS.stand {led : Bool} {h : Heap} {a : Addr} {ks : List (Nat × Tok)} (hs : SetS led h a ks) (sm : Small ks) :
    ∃ o t ep, h.get? a = some o ∧ o.ExactSet ∧ o.data = .set (ents ks).toArray ep t ∧ Tab led t (ks.map (·.1)) ∧ t.fits (ents ks).toArray.size = true := by
  obtain ⟨o, t, ep, h1, h2, h3, T⟩ := hs
  refine ⟨o, t, ep, h1, h2, h3, T, ?_⟩
  have := T.fits (by rw [List.length_map]; exact sm.len)
  rw [List.length_map] at this
  rw [List.size_toArray, ents_len]
  exact this
theorem add_small {led : Bool} {a : Addr} {ks : List (Nat × Tok)} {j : Nat} {tk : Tok} {Q : Bool → Shared → Prop} (hs : SetS led s.heap a ks) (sm : Small (ks ++ [(j, tk)]))
    (h : ∀ h', Heap.SameBut a s.heap h' → SetS led h' a (ks ++ [(j, tk)]) → Q true { s with heap := h' }) :
    wpAny (model prog w) A (setAddHashed a (.int j tk) (hashInt (j : Int))) Q E s := by
  have sm0 : Small ks := ⟨by have := sm.len; rw [List.length_append] at this; omega, fun p hp => sm.lt p (List.mem_append_left _ hp), by
    have := sm.up
    rw [List.map_append, List.pairwise_append] at this
    exact this.1⟩
  have hlt : ∀ n ∈ ks.map (·.1), n < j := fun n hn => by
    have := sm.up
    rw [List.map_append, List.pairwise_append] at this
    exact this.2.2 n hn j (by simp)
  have h6 : j < 6 := sm.lt (j, tk) (List.mem_append_right _ (List.mem_singleton.mpr rfl))
  have hl5 : ks.length ≤ 5 := by have := sm.len; rw [List.length_append, List.length_singleton] at this; omega
  obtain ⟨o, t, ep, ho, hex, hd, T, hf⟩ := hs.stand sm0
  have tp := T.plain
  obtain ⟨m0, p0, d0, f0, l0, v0, q0⟩ := t
  dsimp only at tp
  subst tp
  have hel := ents_of (prog := prog) (w := w) sm0
  have hb : (ents ks).toArray.size < scanBound := by rw [List.size_toArray, ents_len]; exact Nat.lt_of_le_of_lt sm0.len (by decide)
  have hsz : (ents ks).toArray.size = (ks.map (·.1)).length := by rw [List.size_toArray, ents_len, List.length_map]
  unfold setAddHashed setAddHashedIn
  refine wpAny_holding (wpAny_bind (wpAny_setState_of ho hd hf ?_))
  dsimp only
  rw [byScan_of (knd := intKind prog w) (x := .int j tk) rfl hb hel]
  simp only [↓reduceIte]
  unfold setAddByScan
  refine wpAny_bind ?_
  refine wpAny_bind (wpAny_rule ?_)
  refine wpAny_bind (wpAny_setScan_of (knd := intKind prog w) (k := (j : Int)) (intKind_is _ _ _ _) ho hd hf hel ?_)
  have hnone : List.findIdx? (fun e : Int × Value => (intKind prog w).is (j : Int) e.2) (ents ks).toArray.toList = none := by
    rw [List.findIdx?_eq_none_iff]
    intro e he
    have he' : e ∈ ents ks := by simpa using he
    obtain ⟨p, hp, rfl⟩ := List.mem_map.mp he'
    have := hlt p.1 (List.mem_map.mpr ⟨p, hp, rfl⟩)
    show Value.isInt (j : Int) (Value.int p.1 p.2) = false
    simp [Value.isInt]
    omega
  rw [hnone]
  dsimp only
  rw [hash_small h6, lay_at T hlt h6 (by rw [List.length_map]; exact hl5) hsz]
  dsimp only
  refine wpAny_bind (wpAny_pure ?_)
  simp only [↓reduceIte]
  refine wpAny_bind ?_
  rw [hashByValue_scannable 8 (x := .int j tk) rfl]
  refine wpAny_pure ?_
  simp only [plainKind, ↓reduceIte]
  have hes : (ents ks).toArray.push ((j : Int), Value.int j tk) = (ents (ks ++ [(j, tk)])).toArray := by
    unfold ents
    simp
  have hns : ks.map (·.1) ++ [j] = (ks ++ [(j, tk)]).map (·.1) := by simp
  rw [hes, hns]
  have hzz : (ents (ks ++ [(j, tk)])).toArray.size = ks.length + 1 := by rw [List.size_toArray, ents_len, List.length_append]; rfl
  have hbig : (ents (ks ++ [(j, tk)])).toArray.size ≤ sizeLine := by
    have : sizeLine = 16777216 := sizeLine_eq
    omega
  refine wpAny_bind (wpAny_storeSet_of ho hd ?_ hbig)
  have hg : (s.heap.update a (Obj.putSet (ents (ks ++ [(j, tk)])).toArray ⟨m0, ((ks ++ [(j, tk)]).map (·.1)).toArray, d0, f0, l0, v0, true⟩)).get? a = some { o with data := .set (ents (ks ++ [(j, tk)])).toArray (ep + 1) ⟨m0, ((ks ++ [(j, tk)]).map (·.1)).toArray, d0, f0, l0, v0, true⟩ } := by
    have := Heap.get?_update_self (Obj.putSet (ents (ks ++ [(j, tk)])).toArray ⟨m0, ((ks ++ [(j, tk)]).map (·.1)).toArray, d0, f0, l0, v0, true⟩) ho (by rw [putSet_of _ _ hd]; rfl)
    rw [putSet_of _ _ hd] at this
    exact this
  have hl' : ((ks ++ [(j, tk)]).map (·.1)).length = ks.length + 1 := by rw [List.length_map, List.length_append]; rfl
  by_cases hfull : (SetTable.mk m0 ((ks ++ [(j, tk)]).map (·.1)).toArray d0 f0 l0 v0 true).tooFull = true
  · rw [if_pos (by rw [hfull]; rfl)]
    have h5 : ks.length = 4 ∧ m0 = 7 := by
      unfold SetTable.tooFull SetTable.fill at hfull
      have td : d0 = #[] := T.dum
      rw [td] at hfull
      have tm : (m0 = 7 ∧ (ks.map (·.1)).length ≤ 4) ∨ m0 = 31 := T.mask
      simp only [List.size_toArray, hl', decide_eq_true_eq] at hfull
      rcases tm with ⟨h1, h2⟩ | h1
      · rw [h1] at hfull
        rw [List.length_map] at h2
        simp at hfull
        omega
      · rw [h1] at hfull
        simp at hfull
        omega
    rw [relay_at (ns := (ks ++ [(j, tk)]).map (·.1)) (by rw [hl']; omega) sm.up (fun n hn => by obtain ⟨p, hp, rfl⟩ := List.mem_map.mp hn; exact sm.lt p hp) (by rw [← ents_fst]; simp)]
    dsimp only
    refine wpAny_bind (wpAny_pure ?_)
    refine wpAny_bind (wpAny_storeSet_of hg rfl ?_ hbig)
    refine wpAny_pure ?_
    dsimp only
    have := Heap.get?_update_self (Obj.putSet (ents (ks ++ [(j, tk)])).toArray ⟨31, ((ks ++ [(j, tk)]).map (·.1)).toArray, #[], f0, l0, (SetTable.mk m0 ((ks ++ [(j, tk)]).map (·.1)).toArray d0 f0 l0 v0 true).movedTo 31, true⟩) hg (by rw [putSet_of _ _ rfl]; rfl)
    rw [putSet_of _ _ rfl] at this
    have tl : l0 = led := T.led
    exact wpAny_pure (h _ ((Heap.SameBut.update ..).trans (Heap.SameBut.update ..)) ⟨_, _, _, this, hex, rfl, ⟨rfl, rfl, rfl, tl, .inr rfl⟩⟩)
  · rw [if_neg (by simpa using hfull)]
    refine wpAny_pure ?_
    dsimp only
    refine wpAny_pure (h _ (Heap.SameBut.update ..) ⟨_, _, _, hg, hex, rfl, ⟨rfl, T.dum, rfl, T.led, ?_⟩⟩)
    have td : d0 = #[] := T.dum
    have tm : (m0 = 7 ∧ (ks.map (·.1)).length ≤ 4) ∨ m0 = 31 := T.mask
    rcases tm with ⟨h1, h2⟩ | h1
    · refine .inl ⟨h1, ?_⟩
      rw [hl']
      rcases Nat.lt_or_ge ks.length 4 with h4 | h4
      · exact h4
      · exfalso
        refine hfull ?_
        unfold SetTable.tooFull SetTable.fill
        rw [td]
        simp only [List.size_toArray, hl', decide_eq_true_eq, h1]
        simp
        omega
    · exact .inr h1
end
theorem SetS.at {led : Bool} {h h' : Heap} {a : Addr} {ks : List (Nat × Tok)} (x : SetS led h a ks) (e : ∀ o, h.get? a = some o → h'.get? a = some o) : SetS led h' a ks :=
  let ⟨o, t, ep, ho, r⟩ := x; ⟨o, t, ep, e o ho, r⟩
theorem Small.take {ks : List (Nat × Tok)} (h : Small ks) (i : Nat) : Small (ks.take i) :=
  ⟨by rw [List.length_take]; have := h.len; omega, fun p hp => h.lt p (List.mem_of_mem_take hp), by
    rw [List.map_take]
    exact h.up.sublist (List.take_sublist _ _)⟩
section
variable {prog : Program} {w : World} {A : Around} {E : Value → Shared → Prop} {s : Shared} {R : Result → Shared → Prop} {I : Addr} {fp wr : List Addr} {n : Nat} {P : Nat → Value → Prop} {St : Nat → Heap → Prop}
theorem loop_small {led : Bool} (W : Walks prog w A.in1 I fp wr n P St) (S : Addr) (hSf : S ∉ fp) {ks : List (Nat × Tok)} (sm : Small ks) (hn : n = ks.length)
    (hval : ∀ i v, P i v → ∃ p, ks[i]? = some p ∧ v = .int p.1 p.2) :
    ∀ (k i : Nat) (s : Shared), n - i = k → i ≤ n → St i s.heap → SetS led s.heap S (ks.take i) →
      (∀ h' tk, (∀ b o, b ∉ wr → b ≠ S → s.heap.get? b = some o → h'.get? b = some o) → SetS led h' S ks → R (.ok (.ret .none)) { s with heap := h', toks := tk }) →
      codeAny (model prog w) A (.builtin "set.update.loop" ⟨[.ref S, .ref I], []⟩) R s := by
  have hSw : S ∉ wr := fun h => hSf (W.sub _ h)
  intro k
  induction k with
  | zero =>
    intro i s hk hi hst hS hR
    have hin : i = n := by omega
    refine codeAny_builtin F.entry_set_update_loop ?_
    rw [Around.under_plainId F.plain_set_update_loop _]
    show wpAny _ A.in1 (pyNext (.ref I) >>= _) _ _ s
    refine wpAny_bind (W.done s _ _ (hin ▸ hst) fun h' tk hm => ?_)
    show wpAny _ A.in1 (ret Value.none) _ _ _
    rw [List.take_of_length_le (by omega)] at hS
    exact wpAny_pure (hR h' tk (fun b o hb _ e => hm b o hb e) (hS.at fun o e => hm S o hSw e))
  | succ k ih =>
    intro i s hk hi hst hS hR
    have hlt : i < n := by omega
    refine codeAny_builtin F.entry_set_update_loop ?_
    rw [Around.under_plainId F.plain_set_update_loop _]
    show wpAny _ A.in1 (pyNext (.ref I) >>= _) _ _ s
    refine wpAny_bind (W.item i s _ _ hlt hst fun v h1 tk1 hP hst' hm => ?_)
    obtain ⟨⟨j, tk⟩, hj, rfl⟩ := hval i v hP
    have hS' : SetS led h1 S (ks.take i) := hS.at fun o e => hm S o hSw e
    have et : ks.take (i + 1) = ks.take i ++ [(j, tk)] := by rw [List.take_succ, hj]; rfl
    have smt := sm.take (i + 1)
    show wpAny _ A.in1 (holding [Value.int j tk] (setAdd S (.int j tk)) >>= _) _ _ _
    refine wpAny_bind (wpAny_holding ?_)
    unfold setAdd
    refine wpAny_holding ?_
    refine wpAny_bind ((intKind prog w).pyHash (k := (j : Int)) (intKind_is _ _ _ _) ?_)
    rw [et] at smt
    refine add_small (s := { s with heap := h1, toks := _ }) hS' smt fun h2 hsb hS2 => ?_
    rw [← et] at hS2
    refine wpAny_pure ⟨plainId_quiet F.plain_set_update_loop _, ih (i + 1) _ (by omega) hlt (W.frame _ h1 h2 hst' fun b hb o e => ?_) hS2 fun h3 tk3 hk3 hS3 => ?_⟩
    · rw [hsb.2 b (fun h : b = S => hSf (by rw [← h]; exact hb))]; exact e
    · exact hR h3 tk3 (fun b o hb hbS e => hk3 b o hb hbS (by
        show h2.get? b = some o
        rw [hsb.2 b hbS]
        exact hm b o hb e)) hS3
theorem new_small (a : Value) {Q₁ : Value → Shared → Prop}
    (h : Q₁ (.ref s.heap.objs.size) { s with heap := s.heap.push { cls := .type "set", dict := none, data := .set #[] 0 (.fresh 0 0 (!w.params.followText "set-order")) } }) :
    codeAny (model prog w) A (.call (.builtin "set.__new__") ⟨[.type "set", a], []⟩) (wants Q₁ E) s := by
  refine codeAny_of_tree ?_
  show wpAny _ A.in1 (do checkBuiltinCall "set.__new__" ⟨[.type "set", a], []⟩; again (.builtin "set.__new__" ⟨[.type "set", a], []⟩)) _ _ s
  refine wpAny_bind (wpAny_of_eq (F.newCall_set_1 a) (wpAny_pure ⟨plainId_quiet F.plain_set_new _, codeAny_builtin F.entry_set_new ?_⟩))
  rw [Around.under_plainId F.plain_set_new _]
  unfold Builtin.«set.__new__» Builtin.Frozenset.newClass
  have hsub := sub_set_self
  obtain ⟨hp, g, d, tk, os⟩ := s
  dsimp only
  wp_walk
  refine wpAny_askSetting (wpAny_pure ?_)
  dsimp only
  simp only [newObj]
  refine wpAny_bind (wpAny_alloc (wpAny_pure ?_))
  exact wpAny_pure h
end
section
variable {prog : Program} {w : World} {A : Around} {E : Value → Shared → Prop} {s : Shared}
def setO (b : Bool) : Obj := { cls := .type "set", dict := none, data := .set #[] 0 (.fresh 0 0 b) }
theorem fresh_small {b : Bool} {h : Heap} {a : Addr} (e : h.get? a = some (setO b)) : SetS b h a [] :=
  ⟨_, _, _, e, ⟨rfl, rfl, rfl⟩, rfl, ⟨rfl, rfl, rfl, rfl, .inl ⟨rfl, by decide⟩⟩⟩
theorem init_small {led : Bool} {l S : Addr} {ks : List (Nat × Tok)} {Q : Value → Shared → Prop} (hh : A.handled = none) (hl : s.heap.IsList l (ks.map fun p => Value.int p.1 p.2).toArray) (sm : Small ks) (hS : s.heap.get? S = some (setO led)) (hlS : l ≠ S)
    (h : ∀ h' tk, (∀ b o, b ≠ S → s.heap.get? b = some o → h'.get? b = some o) → SetS led h' S ks → Q .none { s with heap := h', toks := tk }) :
    wpAny (model prog w) A.in1 (Builtin.«set.__init__» ⟨[.ref S, .ref l], []⟩) (fun fin s' => ∃ r, fin = .done (.ret r) ∧ Q r s') E s := by
  obtain ⟨ol, hol, hcl, nl, hdl⟩ := id hl
  obtain ⟨ocls, odict, odata, oslots⟩ := ol
  simp only at hcl hdl
  subst hcl; subst hdl
  have hsls := F.sub_list_set
  have hslf := F.sub_list_frozenset
  have hne : (Value.type "list" == Value.type "dict") = false := by decide
  unfold setO at hS
  unfold Builtin.«set.__init__» noKeywords Builtin.Frozenset.updateFrom
  generalize hPI : pyIter = PI
  obtain ⟨h0, g0, d0, t0, o0⟩ := s
  wp_walk
  subst hPI
  refine wpAny_pyIter_list hl ?_
  refine wpAny_bind (wpAny_runValue ?_)
  have hh3 : A.in1.in1.handled = none := by simp [hh]
  have hneI : l ≠ h0.objs.size := Nat.ne_of_lt (Heap.lt_size hol)
  have hSI : S ≠ h0.objs.size := Nat.ne_of_lt (Heap.lt_size hS)
  have hsz : (ks.map fun p => Value.int p.1 p.2).toArray.size = ks.length := by rw [List.size_toArray, List.length_map]
  refine loop_small (led := led) (Walks.list hh3 h0.objs.size l hneI (ks.map fun p => Value.int p.1 p.2).toArray) S (by simp only [List.mem_cons, List.not_mem_nil, or_false, not_or]; exact ⟨hSI, hlS.symm⟩) sm hsz (fun i v hv => ?_) _ 0 _ rfl (Nat.zero_le _) ?_ ?_ fun h' tk hk hS' => ?_
  · rw [List.getElem?_toArray, List.getElem?_map] at hv
    cases e : ks[i]? with
    | none => rw [e] at hv; cases hv
    | some p => rw [e] at hv; exact ⟨p, rfl, (Option.some.inj hv).symm⟩
  · exact ⟨⟨_, Heap.get?_push_size _ rfl, rfl, rfl⟩, hl.push _⟩
  · exact fresh_small (b := led) (Heap.get?_push_of_some _ hS)
  · show wpAny _ _ _ _ _ _
    refine wpAny_pure ?_
    show wpAny _ _ (ret Value.none) _ _ _
    refine wpAny_pure ⟨_, rfl, h h' tk (fun b o hb e => hk b o ?_ hb (Heap.get?_push_of_some _ e)) hS'⟩
    simp only [List.mem_cons, List.not_mem_nil, or_false]
    exact Nat.ne_of_lt (Heap.lt_size e)
set_option maxHeartbeats 3200000 in
theorem call_small {l : Addr} {ks : List (Nat × Tok)} {Q : Value → Shared → Prop} (hh : A.handled = none) (hl : s.heap.IsList l (ks.map fun p => Value.int p.1 p.2).toArray) (sm : Small ks)
    (h : ∀ (h' : Heap) (tk : Nat), SetS (!w.params.followText "set-order") h' s.heap.objs.size ks → (∀ b o, s.heap.get? b = some o → h'.get? b = some o) → Q (.ref s.heap.objs.size) { s with heap := h', toks := tk }) :
    wpAny (model prog w) A (call (.type "set") [.ref l]) Q E s := by
  obtain ⟨c, tl, hmro⟩ := F.called_set.mro
  have hmade := F.called_set.made
  have hsub := F.called_set.sub
  refine wpAny_call (codeAny_of_tree ?_)
  show wpAny _ _ (callAny (.type "set") _) _ _ _
  refine wpAny_pure ⟨Code.quiet_builtin _ (by decide +kernel), codeAny_builtin F.entry_type_call ?_⟩
  rw [Around.under_plain (weight_type_call_type "set" [.ref l] []) rfl]
  have h1 := F.called_set.notType
  have h2 := F.called_set.canCreate
  have hct := F.typeCall_set_1 (.ref l)
  repeat (any_goals (first | assumption | wp_step))
  refine codeAny_mono (new_small (.ref l) (E := E) (Q₁ := fun obj s₁ => obj = .ref s.heap.objs.size ∧ s₁ = { s with heap := s.heap.push (setO (!w.params.followText "set-order")) }) ⟨rfl, rfl⟩) fun r s₁ hr => ?_
  cases r with
  | error e => exact hr
  | ok fl =>
    cases fl with
    | ret obj =>
      obtain ⟨rfl, rfl⟩ := hr
      have hS : (s.heap.push (setO (!w.params.followText "set-order"))).get? s.heap.objs.size = some (setO (!w.params.followText "set-order")) := Heap.get?_push_size _ rfl
      have hT : Shared.TypeIs { s with heap := s.heap.push (setO (!w.params.followText "set-order")) } (.ref s.heap.objs.size) "set" := ⟨_, hS, rfl⟩
      have hli := F.called_set.init.lookup
      have hbi := F.called_set.init.bind (.ref s.heap.objs.size)
      repeat (any_goals (first | assumption | wp_step))
      refine codeAny_mono (codeAny_call_builtin (R := wants (fun r s₂ => r = .none ∧ ∃ h' tk, s₂ = { s with heap := h', toks := tk } ∧ SetS (!w.params.followText "set-order") h' s.heap.objs.size ks ∧ (∀ b o, s.heap.get? b = some o → h'.get? b = some o)) E)
        F.called_set.init.plain F.entry_set_init (check_set_init_1 hT ?_)) fun r₂ s₂ hr₂ => ?_
      · refine wpAny_mono (init_small (A := A.in1) (by simp [hh]) (hl.push _) sm hS ?_ (Q := fun r s₂ => r = .none ∧ ∃ h' tk, s₂ = { s with heap := h', toks := tk } ∧ SetS (!w.params.followText "set-order") h' s.heap.objs.size ks ∧ (∀ b o, s.heap.get? b = some o → h'.get? b = some o)) fun h' tk hk hS' => ?_) (fun fin s' x => ?_) fun e s' x => x
        · obtain ⟨ol, hol, _⟩ := hl
          exact Nat.ne_of_lt (Heap.lt_size hol)
        · exact ⟨rfl, h', tk, rfl, hS', fun b o e => hk b o (Nat.ne_of_lt (Heap.lt_size e)) (Heap.get?_push_of_some _ e)⟩
        · obtain ⟨r, rfl, x⟩ := x
          exact x
      · cases r₂ with
        | error e => exact hr₂
        | ok fl₂ =>
          cases fl₂ with
          | ret r =>
            obtain ⟨rfl, h', tk, rfl, hS', hk'⟩ := hr₂
            repeat (any_goals (first | assumption | wp_step))
            exact h _ _ hS' hk'
          | _ => exact hr₂.elim
    | _ => exact hr.elim
end
theorem slot_sit_next : Slot "set_iterator" "__next__" "set_iterator.__next__" :=
  .of (owner := "set_iterator") (n := "__next__") (by rw [typeLookup_type, builtinLookup_eq_fast]; kernel_rfl) (by decide +kernel) (by decide +kernel) (by decide +kernel)
    (by first | exact .inl (by decide +kernel) | exact .inr (by decide +kernel)) (by rw [isSubtype_type]; kernel_rfl)
theorem entry_sit_next : entryFor table "set_iterator.__next__" = some Builtin.«set_iterator.__next__» := entryFor_of_tree (by kernel_rfl)
theorem owner_sit : Manifest.owners.lookup (String.ofList ['r', 'o', 't', 'a', 'r', 'e', 't', 'i', '_', 't', 'e', 's'].reverse) = some Manifest.sig_set_iterator := by kernel_rfl
theorem args_sit_next (a : Value) : argsOk "set_iterator.__next__" ⟨[a], []⟩ := by
  unfold argsOk; rw [signature?_of (id := "set_iterator.__next__") (n := ['_', '_', 't', 'x', 'e', 'n', '_', '_']) (o := ['r', 'o', 't', 'a', 'r', 'e', 't', 'i', '_', 't', 'e', 's']) (by kernel_rfl) owner_sit]; kernel_rfl
theorem slot_sit_iter : Slot "set_iterator" "__iter__" "set_iterator.__iter__" :=
  .of (owner := "set_iterator") (n := "__iter__") (by rw [typeLookup_type, builtinLookup_eq_fast]; kernel_rfl) (by decide +kernel) (by decide +kernel) (by decide +kernel)
    (by first | exact .inl (by decide +kernel) | exact .inr (by decide +kernel)) (by rw [isSubtype_type]; kernel_rfl)
theorem entry_sit_iter : entryFor table "set_iterator.__iter__" = some Builtin.«dict_keyiterator.__iter__» :=
  entryFor_alias (id' := "dict_keyiterator.__iter__") (by kernel_rfl) rfl (by decide +kernel) (by kernel_rfl)
theorem args_sit_iter (a : Value) : argsOk "set_iterator.__iter__" ⟨[a], []⟩ := by
  unfold argsOk; rw [signature?_of (id := "set_iterator.__iter__") (n := ['_', '_', 'r', 'e', 't', 'i', '_', '_']) (o := ['r', 'o', 't', 'a', 'r', 'e', 't', 'i', '_', 't', 'e', 's']) (by kernel_rfl) owner_sit]; kernel_rfl
theorem entry_set_iter : entryFor table "set.__iter__" = some Builtin.«frozenset.__iter__» :=
  entryFor_alias (id' := "frozenset.__iter__") (by kernel_rfl) rfl (by decide +kernel) (by kernel_rfl)
theorem pick_go {α : Type} (next : Nat → Nat) : ∀ (fuel k : Nat) (left : List α) (out : Array α), fuel = left.length → (pickOrder.go next fuel k left out).toList.Perm (out.toList ++ left)
  | 0, k, left, out, h => by
    have : left = [] := List.eq_nil_of_length_eq_zero h.symm
    subst this
    unfold pickOrder.go
    rw [List.append_nil]
  | fuel + 1, k, left, out, h => by
    have hlt : next k % left.length < left.length := Nat.mod_lt _ (by omega)
    unfold pickOrder.go
    rw [List.getElem?_eq_getElem hlt]
    dsimp only
    have ih := pick_go next fuel (k + 1) (left.eraseIdx (next k % left.length)) (out.push left[next k % left.length]) (by rw [List.length_eraseIdx_of_lt hlt]; omega)
    refine ih.trans ?_
    rw [Array.toList_push, List.append_assoc]
    refine List.Perm.append_left _ ?_
    have e : left = left.take (next k % left.length) ++ left[next k % left.length] :: left.drop (next k % left.length + 1) := by rw [List.getElem_cons_drop, List.take_append_drop]
    conv => rhs; rw [e]
    rw [List.eraseIdx_eq_take_drop_succ]
    rw [List.singleton_append]
    exact (List.perm_middle (a := left[next k % left.length])).symm
theorem pick_perm {α : Type} (next : Nat → Nat) (xs : Array α) : (pickOrder next xs).toList.Perm xs.toList := by
  have := pick_go next xs.size 0 xs.toList #[] (by simp)
  simpa [pickOrder] using this
def setOut (w : World) (a : Addr) (ep : Nat) (ks : List (Nat × Tok)) : List (Int × Value) := if w.params.followText "set-order" then (pickOrder (w.params.setOrder a ep) (ents ks).toArray).toList else ents ks
theorem setOut_perm (w : World) (a : Addr) (ep : Nat) (ks : List (Nat × Tok)) : (setOut w a ep ks).Perm (ents ks) := by
  unfold setOut
  split
  · exact (pick_perm _ _).trans (by simp)
  · exact .rfl
def slotAt (b : Bool) (ks : List (Nat × Tok)) : Nat → Nat
  | 0 => 0
  | i + 1 => if b then 0 else (ks.map (·.1)).getD i 0 + 1
def IsSetIt (h : Heap) (it a : Addr) (slot i n ep : Nat) : Prop := ∃ o, h.get? it = some o ∧ o.cls = .type "set_iterator" ∧ o.data = .fields #[.int slot 0, .int i 0, .ref a, .int n 0, .int ep 0]
def SetE (led : Bool) (h : Heap) (a : Addr) (ks : List (Nat × Tok)) (ep : Nat) : Prop :=
  ∃ o t, h.get? a = some o ∧ o.ExactSet ∧ o.data = .set (ents ks).toArray ep t ∧ Tab led t (ks.map (·.1)) ∧ t.fits (ents ks).toArray.size = true
theorem SetE.at {led : Bool} {h h' : Heap} {a : Addr} {ks : List (Nat × Tok)} {ep : Nat} (x : SetE led h a ks ep) (e : ∀ o, h.get? a = some o → h'.get? a = some o) : SetE led h' a ks ep :=
  let ⟨o, t, ho, r⟩ := x; ⟨o, t, e o ho, r⟩
theorem IsSetIt.at {h h' : Heap} {it a : Addr} {slot i n ep : Nat} (x : IsSetIt h it a slot i n ep) (e : ∀ o, h.get? it = some o → h'.get? it = some o) : IsSetIt h' it a slot i n ep :=
  let ⟨o, ho, r⟩ := x; ⟨o, e o ho, r⟩
theorem IsSetIt.typeIs {s : Shared} {it a : Addr} {slot i n ep : Nat} (x : IsSetIt s.heap it a slot i n ep) : s.TypeIs (.ref it) "set_iterator" :=
  let ⟨o, ho, hc, _⟩ := x; ⟨o, ho, hc⟩
theorem SetE.typeIs {led : Bool} {s : Shared} {a : Addr} {ks : List (Nat × Tok)} {ep : Nat} (x : SetE led s.heap a ks ep) : s.TypeIs (.ref a) "set" :=
  let ⟨o, t, ho, hc, _⟩ := x; ⟨o, ho, hc.1⟩
theorem below_slot {ks : List (Nat × Tok)} (sm : Small ks) {i : Nat} (hi : i ≤ ks.length) : SetTable.below (ks.map (·.1)).toArray (slotAt false ks i) = i := by
  have key : ∀ p q (hp : p < (ks.map (·.1)).length) (hq : q < (ks.map (·.1)).length), p < q → (ks.map (·.1))[p] < (ks.map (·.1))[q] := fun p q hp hq h => List.pairwise_iff_getElem.mp sm.up p q hp hq h
  have hl : (ks.map (·.1)).length = ks.length := List.length_map ..
  refine below_cut (by rw [List.size_toArray, hl]; exact hi) (fun q h1 h2 => ?_) (fun q h1 h2 => ?_)
  · rw [List.size_toArray] at h2
    rw [getD_list, List.getD_eq_getElem?_getD, List.getElem?_eq_getElem h2]
    cases i with
    | zero => omega
    | succ i =>
      have hi' : i < (ks.map (·.1)).length := by omega
      show _ < (ks.map (·.1)).getD i 0 + 1
      rw [List.getD_eq_getElem?_getD, List.getElem?_eq_getElem hi']
      show (ks.map (·.1))[q] < (ks.map (·.1))[i] + 1
      rcases Nat.lt_or_ge q i with h | h
      · have := key q i h2 hi' h; omega
      · have e : q = i := by omega
        subst e
        omega
  · rw [List.size_toArray] at h2
    rw [getD_list, List.getD_eq_getElem?_getD, List.getElem?_eq_getElem h2]
    cases i with
    | zero =>
      show ¬ (ks.map (·.1))[q] < 0
      omega
    | succ i =>
      have hi' : i < (ks.map (·.1)).length := by omega
      show ¬ _ < (ks.map (·.1)).getD i 0 + 1
      rw [List.getD_eq_getElem?_getD, List.getElem?_eq_getElem hi']
      show ¬ (ks.map (·.1))[q] < (ks.map (·.1))[i] + 1
      have := key i q hi' h2 (by omega)
      omega
section
variable {prog : Program} {w : World} {A : Around} {E : Value → Shared → Prop} {s : Shared}
theorem iter_set {a : Addr} {ks : List (Nat × Tok)} {ep : Nat} {Q : Value → Shared → Prop} (hs : SetE (!w.params.followText "set-order") s.heap a ks ep)
    (hQ : Q (.ref s.heap.objs.size) { s with heap := s.heap.push { cls := .type "set_iterator", data := .fields #[.int (0 : Nat) 0, .int (0 : Nat) 0, .ref a, .int (ks.length : Nat) 0, .int ep 0] } }) :
    wpAny (model prog w) A (pyIter (.ref a)) Q E s := by
  obtain ⟨o, t, ho, hex, hd, T, hf⟩ := id hs
  refine wpAny_pyIter_slot hs.typeIs PySem.F.slot_set_iter (wpAny_call_entry PySem.F.slot_set_iter hs.typeIs entry_set_iter ?_ (PySem.F.args_set_iter_1 _))
  unfold Builtin.«frozenset.__iter__» Builtin.Frozenset.slot0 slotArgs
  simp only [List.isEmpty_nil, Bool.not_true, Bool.false_eq_true, ↓reduceIte, bind_assoc, List.length_nil, bne_self_eq_false]
  unfold Builtin.Frozenset.addrOf Builtin.Frozenset.sizeOf
  refine wpAny_bind (wpAny_pure ?_)
  try dsimp only
  refine wpAny_bind (wpAny_pure ?_)
  refine wpAny_bind (wpAny_bind (wpAny_setEntries_of ho hd hf (wpAny_pure ?_)))
  unfold setDrawn
  refine wpAny_bind (wpAny_bind (wpAny_setState_of ho hd hf ?_))
  dsimp only
  unfold setsByText
  refine wpAny_bind (wpAny_bind (wpAny_askSetting (wpAny_pure ?_)))
  refine wpAny_pure ?_
  refine wpAny_ite_split (fun hab => ?_) (fun _ => ?_)
  · exfalso
    rw [Bool.and_eq_true] at hab
    have h2 : (!t.plain && decide ((ents ks).toArray.size > 1)) = true := hab.2
    rw [T.plain] at h2
    cases h2
  · refine wpAny_bind (wpAny_pure ?_)
    refine wpAny_bind (wpAny_setEpoch_of ho hd hf ?_)
    unfold newFields
    refine wpAny_bind (wpAny_newObj_type (wpAny_pure ⟨_, rfl, "set_iterator", _, ⟨_, Heap.get?_push_size _ rfl, rfl⟩, slot_sit_next.lookup, ?_⟩))
    simpa [rawInt, ents_len] using hQ
theorem next_set {a : Addr} {ks : List (Nat × Tok)} {ep i : Nat} {Q : Option (Value × Nat) → Shared → Prop} (sm : Small ks) (hs : SetE (!w.params.followText "set-order") s.heap a ks ep) (hi : i ≤ ks.length)
    (hQ : Q ((setOut w a ep ks)[i]?.map fun e => (e.2, slotAt (w.params.followText "set-order") ks (i + 1))) s) :
    wpAny (model prog w) A (setNext a (slotAt (w.params.followText "set-order") ks i) i ep) Q E s := by
  obtain ⟨o, t, ho, hex, hd, T, hf⟩ := id hs
  unfold setNext
  refine wpAny_bind (wpAny_setState_of ho hd hf ?_)
  dsimp only
  unfold setsByText
  refine wpAny_bind (wpAny_bind (wpAny_askSetting (wpAny_pure ?_)))
  show wpAny _ _ (if w.params.followText "set-order" = true then _ else _) _ _ _
  unfold setOut at hQ
  cases hb : w.params.followText "set-order" with
  | true =>
    rw [hb] at hQ
    rw [if_pos rfl]
    simp only [bne_self_eq_false, Bool.false_eq_true, ↓reduceIte] at hQ ⊢
    refine wpAny_bind ?_
    unfold setWalk
    refine wpAny_bind (wpAny_setState_of ho hd hf ?_)
    dsimp only
    unfold setsByText
    refine wpAny_bind (wpAny_bind (wpAny_askSetting (wpAny_pure ?_)))
    show wpAny _ _ (if w.params.followText "set-order" = true then _ else _) _ _ _
    rw [hb, if_pos rfl]
    refine wpAny_bind (wpAny_askSetting (wpAny_pure ?_))
    refine wpAny_pure ?_
    have e0 : ∀ i, slotAt true ks i = 0 := fun i => by cases i <;> rfl
    rw [e0, Array.getElem?_toList] at hQ
    rw [e0]
    exact hQ
  | false =>
    rw [hb] at hQ T
    rw [if_neg Bool.false_ne_true]
    simp only [Bool.false_eq_true, ↓reduceIte] at hQ
    refine wpAny_ite_split (fun hab => ?_) (fun _ => ?_)
    · exfalso
      have h2 : (!t.plain && decide ((ents ks).toArray.size > 1)) = true := hab
      rw [T.plain] at h2
      cases h2
    · have hl : t.led = true := T.led
      have hml : ∀ {Q' : Unit → Shared → Prop}, Q' () s → wpAny (model prog w) A (if (!t.led && !(ents ks).toArray.isEmpty) = true then unsupported "set:maker-not-led" else pure ()) Q' E s := fun hq => by
        rw [if_neg (by rw [hl]; exact Bool.false_ne_true)]
        exact wpAny_pure hq
      refine wpAny_bind (hml ?_)
      rw [T.place, below_slot sm hi]
      rcases Nat.lt_or_ge i ks.length with h | h
      · have e1 : (ents ks).toArray[i]? = some ((ks[i].1 : Int), Value.int ks[i].1 ks[i].2) := by
          rw [List.getElem?_toArray]
          unfold ents
          rw [List.getElem?_map, List.getElem?_eq_getElem h]
          rfl
        have e2 : (ks.map (·.1)).toArray[i]? = some ks[i].1 := by
          rw [List.getElem?_toArray, List.getElem?_map, List.getElem?_eq_getElem h]
          rfl
        have e3 : (ents ks)[i]? = some ((ks[i].1 : Int), Value.int ks[i].1 ks[i].2) := by rw [← List.getElem?_toArray]; exact e1
        have e4 : slotAt false ks (i + 1) = ks[i].1 + 1 := by
          show (ks.map (·.1)).getD i 0 + 1 = _
          rw [List.getD_eq_getElem?_getD, List.getElem?_map, List.getElem?_eq_getElem h]
          rfl
        rw [e1, e2]
        rw [e3, e4] at hQ
        exact wpAny_pure hQ
      · have e1 : (ents ks).toArray[i]? = none := by
          rw [List.getElem?_toArray, List.getElem?_eq_none_iff, ents_len]
          exact h
        have e3 : (ents ks)[i]? = none := by rw [← List.getElem?_toArray]; exact e1
        rw [e1]
        rw [e3] at hQ
        exact wpAny_pure hQ
theorem pyNext_set_item {it a : Addr} {i ep : Nat} {ks : List (Nat × Tok)} {e : Int × Value} {Q : Option Value → Shared → Prop} (sm : Small ks)
    (hit : IsSetIt s.heap it a (slotAt (w.params.followText "set-order") ks i) i ks.length ep) (hs : SetE (!w.params.followText "set-order") s.heap a ks ep) (hx : (setOut w a ep ks)[i]? = some e) (hne : a ≠ it)
    (hQ : ∀ h', IsSetIt h' it a (slotAt (w.params.followText "set-order") ks (i + 1)) (i + 1) ks.length ep → Heap.SameBut it s.heap h' → Q (some e.2) { s with heap := h' }) :
    wpAny (model prog w) A (pyNext (.ref it)) Q E s := by
  obtain ⟨o, ho, hc, hd⟩ := id hit
  obtain ⟨os, t, hos, hexs, hds, T, hf⟩ := id hs
  have hi : i < ks.length := by
    have := (List.getElem?_eq_some_iff.mp hx).1
    rw [(setOut_perm w a ep ks).length_eq, ents_len] at this
    exact this
  unfold pyNext
  refine wpAny_bind (wpAny_attempt (wpAny_callSpecial?_slot (name := Str.ofString "__next__") hit.typeIs slot_sit_next
    (wpAny_call_entry slot_sit_next hit.typeIs entry_sit_next ?_ (args_sit_next _))))
  unfold Builtin.«set_iterator.__next__»
  refine wpAny_bind (wpAny_pure ?_)
  refine wpAny_bind (wpAny_fieldsOf ho hd ?_)
  dsimp only
  refine wpAny_bind (wpAny_setEntries_of hos hds hf ?_)
  rw [if_neg (by rw [List.size_toArray, ents_len]; simp)]
  dsimp only [Int.toNat_natCast]
  refine wpAny_bind (next_set sm hs (Nat.le_of_lt hi) ?_)
  rw [hx]
  dsimp only [Option.map_some]
  refine wpAny_bind (wpAny_setField ho hd (by simp) ?_)
  have ho1 : (s.heap.update it (Obj.mapFields (·.setIfInBounds 0 (rawInt ((slotAt (w.params.followText "set-order") ks (i + 1) : Nat) : Int))))).get? it = some _ := Heap.get?_update_self _ ho (Obj.isFreed_of_fields (Obj.data_mapFields hd _))
  refine wpAny_bind (wpAny_setField (s := { s with heap := _ }) ho1 (Obj.data_mapFields hd _) (by simp) ?_)
  refine wpAny_pure ⟨_, rfl, wpAny_pure (hQ _ ?_ ?_)⟩
  · refine ⟨_, Heap.get?_update_self _ ho1 (Obj.isFreed_of_fields (Obj.data_mapFields (Obj.data_mapFields hd _) _)), ?_, ?_⟩
    · rw [Obj.cls_mapFields, Obj.cls_mapFields, hc]
    · rw [Obj.data_mapFields (Obj.data_mapFields hd _)]
      simp [rawInt]
  · exact (Heap.SameBut.update ..).trans (Heap.SameBut.update ..)
theorem pyNext_set_end {it a : Addr} {i ep : Nat} {ks : List (Nat × Tok)} {Q : Option Value → Shared → Prop} (sm : Small ks) (hh : A.handled = none)
    (hit : IsSetIt s.heap it a (slotAt (w.params.followText "set-order") ks i) i ks.length ep) (hs : SetE (!w.params.followText "set-order") s.heap a ks ep) (hi : i = ks.length)
    (hQ : ∀ h', Heap.ExtBut it s.heap h' → Q none { s with heap := h' }) : wpAny (model prog w) A (pyNext (.ref it)) Q E s := by
  obtain ⟨o, ho, hc, hd⟩ := id hit
  obtain ⟨os, t, hos, hexs, hds, T, hf⟩ := id hs
  unfold pyNext
  refine wpAny_bind (wpAny_attempt (wpAny_callSpecial?_slot (name := Str.ofString "__next__") hit.typeIs slot_sit_next
    (wpAny_call_entry slot_sit_next hit.typeIs entry_sit_next ?_ (args_sit_next _))))
  unfold Builtin.«set_iterator.__next__»
  refine wpAny_bind (wpAny_pure ?_)
  refine wpAny_bind (wpAny_fieldsOf ho hd ?_)
  dsimp only
  refine wpAny_bind (wpAny_setEntries_of hos hds hf ?_)
  rw [if_neg (by rw [List.size_toArray, ents_len]; simp)]
  dsimp only [Int.toNat_natCast]
  refine wpAny_bind (next_set sm hs (Nat.le_of_eq hi) ?_)
  rw [show (setOut w a ep ks)[i]? = none by rw [List.getElem?_eq_none_iff, (setOut_perm w a ep ks).length_eq, ents_len, hi]; exact Nat.le_refl _]
  dsimp only [Option.map_none]
  refine wpAny_bind (wpAny_setField ho hd (by simp) ?_)
  show wpAny _ _ (newExc (.type "StopIteration") [] >>= _) _ _ _
  refine wpAny_bind ?_
  simp only [newExc, newTuple]
  refine wpAny_bind (wpAny_newObj_type ?_ (by size_fits))
  refine wpAny_bind (m := firstArgMember _ _) (wpAny_of_eq (a := Value.none) (by first | rfl | (simp only [firstArgMember]; rfl)) ?_)
  refine wpAny_newObj_type ?_ (by size_fits)
  simp only [raiseNew]
  refine wpAny_bind (wpAny_handled ?_)
  rw [show A.in1.handled = none from hh]
  refine wpAny_bind (wpAny_pure (wpAny_throw ?_))
  refine wpAny_bind (wpAny_isInstance (T := "StopIteration") (b := true) ⟨_, Heap.get?_push_size _ rfl, rfl⟩ isSubtype_stop ?_)
  exact wpAny_pure (hQ _ (((Heap.SameBut.update ..).extBut.push _).push _))
theorem walks_set {I a : Addr} {ks : List (Nat × Tok)} {ep : Nat} (hh : A.handled = none) (hne : a ≠ I) (sm : Small ks) :
    Walks prog w A I [I, a] [I] ks.length (fun i v => ∃ x, (setOut w a ep ks)[i]? = some (x, v)) (fun i h => IsSetIt h I a (slotAt (w.params.followText "set-order") ks i) i ks.length ep ∧ SetE (!w.params.followText "set-order") h a ks ep) where
  sub := fun b hb => by simp at hb; simp [hb]
  frame := fun _ _ _ st hk => ⟨st.1.at fun o e => hk I (by simp) o e, st.2.at fun o e => hk a (by simp) o e⟩
  item := fun i s Q E hi st hQ => by
    have hl : i < (setOut w a ep ks).length := by rw [(setOut_perm w a ep ks).length_eq, ents_len]; exact hi
    obtain ⟨⟨x, v⟩, hx⟩ : ∃ p, (setOut w a ep ks)[i]? = some p := ⟨_, List.getElem?_eq_getElem hl⟩
    refine pyNext_set_item sm st.1 st.2 hx hne fun h' hit' hs' => ?_
    exact hQ v h' s.toks ⟨x, hx⟩ ⟨hit', st.2.at fun o e => hs'.extBut a o hne e⟩ fun b o hb e => hs'.extBut b o (fun h => hb (by simp [h])) e
  done := fun s Q E st hQ => pyNext_set_end sm hh st.1 st.2 rfl fun h' he' => hQ h' s.toks fun b o hb e => he' b o (fun h => hb (by simp [h])) e
  self := fun i s Q E st hQ => by
    refine wpAny_pyIter_slot st.1.typeIs slot_sit_iter (wpAny_call_entry slot_sit_iter st.1.typeIs entry_sit_iter ?_ (args_sit_iter _))
    show wpAny _ _ (ret (.ref I)) _ _ s
    exact wpAny_pure ⟨_, rfl, "set_iterator", _, st.1.typeIs, slot_sit_next.lookup, hQ⟩
theorem hint_set {r : Addr} {Q : Bool → Shared → Prop} (hT : s.TypeIs (.ref r) "set") (h : Q false s) : wpAny (model prog w) A (Builtin.List.listLengthHint (.ref r)) Q E s := by
  unfold Builtin.List.listLengthHint
  refine wpAny_bind (wpAny_specialOf hT PySem.F.slot_set_len.lookup ?_)
  generalize hid : ("set.__len__" : String) = id0
  wp_delta
  rw [show splitId id0 = some ("set", "__len__") from by subst hid; decide +kernel]
  subst hid
  refine wpAny_bind (wpAny_isInstance (T := "set") (b := true) hT (by rw [isSubtype_type]; kernel_rfl) ?_)
  refine wpAny_ite_split (fun hab => absurd hab (by decide)) (fun _ => ?_)
  refine wpAny_ite_split (fun _ => ?_) (fun hab => absurd (by decide +kernel) hab)
  refine wpAny_bind (wpAny_typeOf hT ?_)
  exact wpAny_pure h
theorem src_set {a : Addr} {ks : List (Nat × Tok)} {ep : Nat} (sm : Small ks) :
    PySem.W.KdlSrc prog w "set" a a ks.length (fun i v => ∃ x, (setOut w a ep ks)[i]? = some (x, v)) (fun h => SetE (!w.params.followText "set-order") h a ks ep) where
  type := fun _ hm => hm.typeIs
  there := fun _ hm => let ⟨_, _, ho, _⟩ := hm; ⟨Heap.lt_size ho, Heap.lt_size ho⟩
  keep := fun _ _ hm hk => hm.at fun o e => hk a (.inl rfl) o e
  notList := by decide
  notTuple := by decide
  hint := fun _ _ _ _ hm hq => hint_set hm.typeIs hq
  iter := fun _ _ hh hm => ⟨_, _, (fun _ _ hq => iter_set hm hq), walks_set hh (let ⟨_, _, ho, _⟩ := hm; Nat.ne_of_lt (Heap.lt_size ho)) sm, ⟨⟨_, Heap.get?_push_size _ rfl, rfl, rfl⟩, hm.at fun o e => Heap.get?_push_of_some _ e⟩⟩
end
theorem ks_of : ∀ {ns : List Nat} {its : List Value}, IntsAre its (ns.map fun (n : Nat) => (n : Int)) → ∃ ks : List (Nat × Tok), its = (ks.map fun p => Value.int p.1 p.2) ∧ ks.map (·.1) = ns
  | [], [], _ => ⟨[], rfl, rfl⟩
  | [], _ :: _, h => by cases h
  | n :: ns, _, h => by
    cases h with
    | cons m t hr =>
      obtain ⟨ks, h1, h2⟩ := ks_of hr
      exact ⟨(n, t) :: ks, by rw [h1]; rfl, by rw [← h2]; rfl⟩
def RiseN (ns : List Nat) : Prop := ns.Pairwise (· < ·) ∧ ∀ n ∈ ns, n < 6
theorem rise_len : ∀ {ns : List Nat} {m : Nat}, ns.Pairwise (· < ·) → (∀ n ∈ ns, m ≤ n ∧ n < 6) → m ≤ 6 → ns.length ≤ 6 - m
  | [], m, _, _, _ => Nat.zero_le _
  | n :: ns, m, h, hb, hm => by
    rw [List.pairwise_cons] at h
    have h1 := hb n (List.mem_cons_self ..)
    have := rise_len (m := n + 1) h.2 (fun k hk => ⟨h.1 k hk, (hb k (List.mem_cons_of_mem _ hk)).2⟩) (by omega)
    rw [List.length_cons]
    omega
theorem small_of {ns : List Nat} {ks : List (Nat × Tok)} (h : RiseN ns) (e : ks.map (·.1) = ns) : Small ks :=
  ⟨by have := rise_len (m := 0) h.1 (fun n hn => ⟨Nat.zero_le _, h.2 n hn⟩) (by decide); rw [← e, List.length_map] at this; exact this, fun p hp => h.2 p.1 (by rw [← e]; exact List.mem_map.mpr ⟨p, hp, rfl⟩), by rw [e]; exact h.1⟩
section
variable {X : Cx}
def setHO (w : World) (l : Addr) (ks : List (Nat × Tok)) : HO := .ext fun h => SetS (!w.params.followText "set-order") h l ks
def rSetS (K : PySem.W.Frag) (w : World) : List V → Hp → VK → Prop := fun xs H Q => ∃ (p : Addr) (ns : List Nat), xs = [.ref p] ∧ SqL K H p ((ns.map fun (n : Nat) => (n : Int)).map V.int) ∧ RiseN ns ∧ ∀ l ks, H l = none → ks.map (·.1) = ns → Q (.ref l) (upd H l (setHO w l ks))
def rSortS (w : World) : List V → Hp → VK → Prop := fun xs H Q => ∃ (p : Addr) (ns : List Nat) (ks : List (Nat × Tok)), xs = [.ref p] ∧ H p = some (setHO w p ks) ∧ RiseN ns ∧ ks.map (·.1) = ns ∧ ∀ (l : Addr) (ms : List Int), H l = none → ms.Perm (ns.map fun (n : Nat) => (n : Int)) → ms.Pairwise (· ≤ ·) → Q (.ref l) (upd H l (.lst (ms.map V.int)))
theorem call_setS (hc : X.calm = true) : CallR X (.type "set") (rSetS X.K X.w) := by
  intro pins s σ H xs us Q I r h
  obtain ⟨p, ns, rfl, hq, hr, q⟩ := h
  obtain ⟨u, rfl, rx⟩ := vals1 r
  cases rx
  obtain ⟨its, rv, pl, _⟩ := I.list hq
  obtain ⟨ks, rfl, e⟩ := ks_of (intsAre_of rv)
  refine call_small (I.ok.hd hc) pl.isList (small_of hr e) fun h' tk hs kp => ?_
  refine ⟨.ref s.heap.objs.size, _, I.laid (t' := tk) (o := setHO X.w s.heap.objs.size ks) kp (Nat.le_refl _) ?_, rfl, q _ ks (I.hok.fresh (Nat.le_refl _)) e⟩
  refine ⟨hs, ?_, fun h1 h2 x e => x.at e⟩
  obtain ⟨o, _, _, ho, _⟩ := hs
  exact ⟨o, ho⟩
theorem call_sortedS (hc : X.calm = true) : CallR X (.builtin "sorted") (rSortS X.w) := by
  intro pins s σ H xs us Q I r h
  obtain ⟨p, ns, ks, rfl, hp, hr, hks, q⟩ := h
  obtain ⟨u, rfl, rx⟩ := vals1 r
  cases rx
  have sm := small_of hr hks
  have hS : SetS (!X.w.params.followText "set-order") s.heap p ks := (show ObjOk X.prog X.w H s.heap p (setHO X.w p ks) from I.hok p _ hp).1
  obtain ⟨o, t, ep, h1, h2, h3, h4, h5⟩ := hS.stand sm
  have hE : SetE (!X.w.params.followText "set-order") s.heap p ks ep := ⟨o, t, h1, h2, h3, h4, h5⟩
  have big : 1000 < sizeLine := by decide
  have l6 := sm.len
  refine Calls.call_function_entry kind_sorted plain_sorted entry_sorted (args_sorted1 _) ?_
  unfold Builtin.«sorted»
  refine wpAny_bind (m := checkCount "sorted" 1 1 _) (wpAny_pure ?_)
  refine wpAny_bind (PySem.W.kdu_collect (A := X.A.in1) (src_set (ep := ep) sm) (I.ok.hd hc) hE (by omega) fun h' tk acc hk hacc => ?_)
  have ha : acc.toList.length = ks.length := by rw [Array.length_toList, hacc.1]
  have hval : acc.toList = (setOut X.w p ep ks).map (·.2) := by
    apply List.ext_getElem?
    intro j
    rcases Nat.lt_or_ge j acc.toList.length with hj | hj
    · obtain ⟨x, hx⟩ := hacc.2 j acc.toList[j] (by rw [← Array.getElem?_toList]; exact List.getElem?_eq_getElem hj)
      rw [List.getElem?_eq_getElem hj, List.getElem?_map, hx]
      rfl
    · rw [List.getElem?_eq_none hj, List.getElem?_eq_none (by rw [List.length_map, (setOut_perm X.w p ep ks).length_eq, ents_len, ← ha]; exact hj)]
  obtain ⟨ls, hls, hperm⟩ : ∃ ls : List Int, IntsAre acc.toList ls ∧ ls.Perm (ns.map fun (n : Nat) => (n : Int)) := by
    refine ⟨(setOut X.w p ep ks).map (·.1), ?_, ?_⟩
    · rw [hval]
      have key : ∀ l : List (Int × Value), (∀ e ∈ l, ∃ t, e.2 = .int e.1 t) → IntsAre (l.map (·.2)) (l.map (·.1)) := by
        intro l
        induction l with
        | nil => intro _; exact .nil
        | cons e l ih =>
          intro h
          obtain ⟨t, et⟩ := h e (List.mem_cons_self ..)
          rw [List.map_cons, List.map_cons, et]
          exact .cons _ _ (ih fun x hx => h x (List.mem_cons_of_mem _ hx))
      refine key _ fun e he => ?_
      have he' := (setOut_perm X.w p ep ks).mem_iff.mp he
      obtain ⟨q, _, rfl⟩ := List.mem_map.mp he'
      exact ⟨_, rfl⟩
    · rw [← hks, ← ents_fst]
      exact (setOut_perm X.w p ep ks).map _
  refine wpAny_bind (wpAny_newList ?_ (by rw [ha]; omega))
  have hoL : (h'.push (seqObj "list" acc.toList.toArray 0)).get? h'.objs.size = some (seqObj "list" acc.toList.toArray 0) := Heap.get?_push_size _ rfl
  refine wpAny_bind (wpAny_holding (wpAny_call_entry slot_list_sort ⟨_, hoL, rfl⟩ entry_list_sort (list_sort_tree (s := { s with heap := h'.push (seqObj "list" acc.toList.toArray 0), toks := tk }) hoL hls (by rw [ha]; omega) fun out ns' a1 a2 a3 => ⟨_, rfl, ?_⟩) (args_list_sort _)))
  refine wpAny_pure ⟨_, rfl, ?_⟩
  obtain ⟨e, he⟩ := sortedHeap_at (out := out) hoL
  have I1 : Inv X pins σ H { s with heap := h', toks := tk } := I.kept (t' := tk) hk
  refine ⟨.ref h'.objs.size, _, I1.laid (t' := tk) (o := .lst (ns'.map V.int)) (fun b o eb => ?_) (Nat.le_refl _) ?_, rfl, q _ ns' (I1.hok.fresh (Nat.le_refl _)) (a2.trans hperm) a3⟩
  · have lt : b < h'.objs.size := Heap.lt_size eb
    rw [sortedHeap_old (Nat.ne_of_lt lt) (by rw [size_push']; exact Nat.lt_succ_of_lt lt), Heap.get?_push_ne _ _ _ (Nat.ne_of_lt lt)]
    exact eb
  · refine ⟨?_, out.toList, e, vals_ints a1, by rw [Array.toArray_toList]; exact he⟩
    have := a2.length_eq
    have := hls.length
    rw [List.length_map]
    omega
end
section
variable {ι : Type} {F : Fam ι} {e a b c : Expr} {es : List Expr} {ρ : En} {t ta tb' : Tr} {ts : List Tr} {pos : Pos}
theorem ev_sortset {ns : List Nat} (hm : F.mg "sorted" = none) (hm2 : F.mg "set" = none) (ha : Ev F a ρ ta) (ea : er ta = dis (ns.map fun (n : Nat) => (n : Int))) (hz : RiseN ns) {p1 p2 pos1 : Pos} (hg : ∀ i, Gl (F.cx i) "sorted" := by intro _; rfl) (hg2 : ∀ i, Gl (F.cx i) "set" := by intro _; rfl)
    (hs : ∀ i, starEach [a] (F.cx i).env = [(false, eval a (F.cx i).env)] := by intro _; rfl) (hs2 : ∀ i, starEach [.Call (.Name "set" p2) [a] [] pos1] (F.cx i).env = [(false, eval (.Call (.Name "set" p2) [a] [] pos1) (F.cx i).env)] := by intro _; rfl) :
    Ev F (.Call (.Name "sorted" p1) [.Call (.Name "set" p2) [a] [] pos1] [] pos) ρ (.ow ((ns.map fun (n : Nat) => (n : Int)).map fun n => .fz (di n))) := by
  obtain ⟨τ, p, q⟩ := ha.use
  refine ⟨tCB (rSortS F.w) (tCons (tCB (rSetS F.K F.w) (tCons τ tNil)) tNil), fun i => pe_callB (F.hw i ▸ call_sortedS (F.calm i)) (hg i) ((F.hm i).symm ▸ hm) bt_sorted (pa_cons (pe_callTy (F.hK i ▸ F.hw i ▸ call_setS (F.calm i)) (hg2 i) ((F.hm i).symm ▸ hm2) bt_set (pa_cons (p i) pa_nil (hs i)) (by decide) (by decide) (hs i) rfl) pa_nil (hs2 i)) (by decide) (by decide) (hs2 i) rfl, fun σ G H Q s rr k => q σ G H _ s rr fun x G1 H1 s1 hx => ?_⟩
  rw [ea] at hx
  obtain ⟨l, ys, rfl, h1, h2⟩ := hx
  have := hvl_ints h2
  subst this
  refine ⟨l, ns, rfl, s1.s.seq h1, hz, fun l0 ks hl0 hks => ⟨l0, ns, ks, rfl, upd_same, hz, hks, fun l2 ms hl2 pm pw => ?_⟩⟩
  have k2 := k.step (s1.trans (Step.newO (o := setHO F.w l0 ks) s1.s hl0))
  have em : ms = ns.map fun (n : Nat) => (n : Int) := sort_unique pm pw (by
    rw [List.pairwise_map]
    exact hz.1.imp fun h => by omega)
  subst em
  refine k2.lst (s1.s.trans (Same.new hl0)) ?_ hl2
  rw [← ints_tr]
  exact ints_hvl.owl
end
end L2
namespace K33
open PySem L2
def top (i : Nat) : Stmt := PySem.Challenge.pw_lotmeal_k33_planted_papers.main.body.getD i (.Pass ⟨0, 0, 0, 0⟩)
structure Txt (mg : Str → Option Value) : Prop where
  b_isinstance : mg "isinstance" = none
  b_int : mg "int" = none
  b_bool : mg "bool" = none
  b_list : mg "list" = none
  b_tuple : mg "tuple" = none
  b_str : mg "str" = none
  b_len : mg "len" = none
  b_range : mg "range" = none
  b_enumerate : mg "enumerate" = none
  b_sorted : mg "sorted" = none
  b_set : mg "set" = none
  b_min : mg "min" = none
  b_max : mg "max" = none
  b_sum : mg "sum" = none
section
variable {P : Program} {w : World} {K : PySem.W.Frag} {mg : Str → Option Value} {base : Heap}
def numsF (n : Nat) : List Int := (List.range n).map fun i => 0 + ((i : Nat) : Int)
theorem mem_nums {n : Nat} {x : Int} : x ∈ numsF n ↔ 0 ≤ x ∧ x < n := by
  unfold numsF
  constructor
  · intro h
    obtain ⟨i, hi, rfl⟩ := List.mem_map.mp h
    have := List.mem_range.mp hi
    omega
  · rintro ⟨h0, h1⟩
    exact List.mem_map.mpr ⟨x.toNat, List.mem_range.mpr (by omega), by omega⟩
theorem nums_nodup (n : Nat) : (numsF n).Nodup := by
  unfold numsF
  rw [List.nodup_iff_pairwise_ne, List.pairwise_map]
  exact (List.nodup_range (n := n)).imp fun h z => h (by omega)
def lat (l : List Int) (x : Int) : Int := l.getD x.toNat 0
def vI (x : Int) : V := if x < 0 then .non else .int x
abbrev Rs := Bool × List Int × List Int
def holdF (d : List Int) (x : Int) : List Int := (numsF d.length).filter fun o => decide (lat d o = x)
def othF (rec : List Int → List Int → Int → Rs) (a x : Int) : List Int → List Int → List Int → Rs
  | [], d, s => (false, d, s)
  | o :: os, d, s => if s.contains o then othF rec a x os d s else
    match rec d s o with
    | (true, d', s') => (true, d'.set a.toNat x, s')
    | (false, d', s') => othF rec a x os d' s'
def thgF (rec : List Int → List Int → Int → Rs) (c : List Int) (a : Int) : List Int → List Int → List Int → Rs
  | [], d, s => (false, d, s)
  | x :: xs, d, s => if (d.count x : Int) < lat c x then (true, d.set a.toNat x, s) else
    match othF rec a x (holdF d x) d s with
    | (true, d', s') => (true, d', s')
    | (false, d', s') => thgF rec c a xs d' s'
def nx1 (rec : List Int → List Int → Int → Rs) (c : List Int) (a : Int) (xs : List Int) (r : Rs) : Rs := if r.1 = true then r else thgF rec c a xs r.2.1 r.2.2
theorem thg_cons (rec : List Int → List Int → Int → Rs) (c : List Int) (a x : Int) (xs d s : List Int) : thgF rec c a (x :: xs) d s = if (d.count x : Int) < lat c x then (true, d.set a.toNat x, s) else nx1 rec c a xs (othF rec a x (holdF d x) d s) := by
  rw [thgF]
  split
  · rfl
  · unfold nx1
    rcases othF rec a x (holdF d x) d s with ⟨b, d', s'⟩
    cases b <;> rfl
def nx2 (rec : List Int → List Int → Int → Rs) (a x : Int) (os : List Int) (r : Rs) : Rs := if r.1 = true then (true, r.2.1.set a.toNat x, r.2.2) else othF rec a x os r.2.1 r.2.2
theorem oth_cons (rec : List Int → List Int → Int → Rs) (a x o : Int) (os d s : List Int) : othF rec a x (o :: os) d s = if s.contains o = true then othF rec a x os d s else nx2 rec a x os (rec d s o) := by
  rw [othF]
  split
  · rfl
  · unfold nx2
    rcases rec d s o with ⟨b, d', s'⟩
    cases b <;> rfl
def givF (c : List Int) (may : List (List Int)) : Nat → List Int → List Int → Int → Rs
  | 0, d, s, _ => (false, d, s)
  | f + 1, d, s, a => thgF (givF c may f) c a (may.getD a.toNat []) d (s ++ [a])
structure InOk (c : List Int) (may : List (List Int)) : Prop where
  n6 : c.length ≤ 6
  A6 : may.length ≤ 6
  row : ∀ r ∈ may, r.length ≤ 7 ∧ ∀ x ∈ r, 0 ≤ x ∧ x ≤ c.length
structure GvOk (c : List Int) (may : List (List Int)) (d s : List Int) : Prop where
  dl : d.length = may.length
  dr : ∀ x ∈ d, -1 ≤ x ∧ x ≤ c.length
  sr : ∀ x ∈ s, 0 ≤ x ∧ x < may.length
  sn : s.Nodup
  no : ∀ a : Int, 0 ≤ a → a < may.length → (c.length : Int) ∈ may.getD a.toNat [] → lat d a = c.length
theorem lat_set {l : List Int} {a b : Int} {v : Int} (a0 : 0 ≤ a) (b0 : 0 ≤ b) (b1 : b < l.length) : lat (l.set a.toNat v) b = if a = b then v else lat l b := by
  unfold lat
  rw [List.getD_eq_getElem?_getD, List.getElem?_set]
  by_cases e : a = b
  · subst e
    rw [if_pos rfl, if_pos rfl, if_pos (by omega)]; rfl
  · rw [if_neg (by omega), if_neg e, List.getD_eq_getElem?_getD]
theorem lat_mem {l : List Int} {x : Int} (h0 : 0 ≤ x) (h1 : x < l.length) : lat l x ∈ l := by
  unfold lat
  rw [List.getD_eq_getElem?_getD, List.getElem?_eq_getElem (show x.toNat < l.length by omega)]
  exact List.getElem_mem _
theorem lat_at {α : Type} (f : Int → α) {l : List Int} {x : Int} (h0 : 0 ≤ x) (h1 : x < l.length) : atI (l.map f) x = some (f (lat l x)) := by
  obtain ⟨j, rfl⟩ : ∃ j : Nat, x = (j : Int) := ⟨x.toNat, by omega⟩
  refine atI_nat ?_
  unfold lat
  rw [List.getElem?_map, List.getD_eq_getElem?_getD, Int.toNat_natCast, List.getElem?_eq_getElem (by omega)]; rfl
theorem nums_len (n : Nat) : (numsF n).length = n := by unfold numsF; rw [List.length_map, List.length_range]
theorem mem_hold {d : List Int} {x o : Int} : o ∈ holdF d x ↔ (0 ≤ o ∧ o < d.length) ∧ lat d o = x := by
  unfold holdF
  rw [List.mem_filter, mem_nums, decide_eq_true_iff]
theorem GvOk.put {c : List Int} {may : List (List Int)} {d s : List Int} (h : GvOk c may d s) {a x : Int} (a0 : 0 ≤ a) (nn : (c.length : Int) ∉ may.getD a.toNat []) (x0 : 0 ≤ x) (x1 : x ≤ c.length) : GvOk c may (d.set a.toNat x) s := by
  refine ⟨by rw [List.length_set]; exact h.dl, fun y hy => ?_, h.sr, h.sn, fun b b0 b1 hb => ?_⟩
  · rcases List.mem_or_eq_of_mem_set hy with z | rfl
    · exact h.dr y z
    · omega
  · rw [lat_set a0 b0 (by rw [h.dl]; exact b1), if_neg (show ¬ a = b from fun e => nn (e ▸ hb))]
    exact h.no b b0 b1 hb
structure Kp (c : List Int) (may : List (List Int)) (s : List Int) (r : Rs) : Prop where
  ok : GvOk c may r.2.1 r.2.2
  sub : ∀ x ∈ s, x ∈ r.2.2
  len : s.length ≤ r.2.2.length
theorem oth_ok {c : List Int} {may : List (List Int)} {rec : List Int → List Int → Int → Rs} {a x : Int} (a0 : 0 ≤ a) (nn : (c.length : Int) ∉ may.getD a.toNat []) (x0 : 0 ≤ x) (x1 : x < c.length) {A0 : Nat}
    (hrec : ∀ (d s : List Int) (o : Int), GvOk c may d s → 0 ≤ o → o < may.length → o ∉ s → (c.length : Int) ∉ may.getD o.toNat [] → A0 ≤ s.length → Kp c may s (rec d s o)) :
    ∀ (os d s : List Int), GvOk c may d s → A0 ≤ s.length → (∀ o ∈ os, 0 ≤ o ∧ o < may.length ∧ (c.length : Int) ∉ may.getD o.toNat []) → Kp c may s (othF rec a x os d s)
  | [], d, s, h, _, _ => ⟨h, fun _ z => z, Nat.le_refl _⟩
  | o :: os, d, s, h, hA, ho => by
    have ho' := ho o (.head _)
    unfold othF
    by_cases hs : s.contains o = true
    · rw [if_pos hs]
      exact oth_ok a0 nn x0 x1 hrec os d s h hA fun o' h' => ho o' (.tail _ h')
    · rw [if_neg hs]
      have hn : o ∉ s := fun z => hs (by simpa using z)
      have hk := hrec d s o h ho'.1 ho'.2.1 hn ho'.2.2 hA
      rcases hr : rec d s o with ⟨b, d', s'⟩
      rw [hr] at hk
      cases b with
      | true => exact ⟨hk.ok.put a0 nn x0 (by omega), hk.sub, hk.len⟩
      | false =>
        have ih := oth_ok a0 nn x0 x1 hrec os d' s' hk.ok (Nat.le_trans hA hk.len) fun o' h' => ho o' (.tail _ h')
        exact ⟨ih.ok, fun y hy => ih.sub y (hk.sub y hy), Nat.le_trans hk.len ih.len⟩
theorem hold_ok {c : List Int} {may : List (List Int)} {d s : List Int} (h : GvOk c may d s) {x : Int} (x1 : x < c.length) : ∀ o ∈ holdF d x, 0 ≤ o ∧ o < may.length ∧ (c.length : Int) ∉ may.getD o.toNat [] := fun o ho => by
  obtain ⟨⟨o0, o1⟩, e⟩ := mem_hold.mp ho
  have o1' : o < may.length := by rw [← h.dl]; exact o1
  exact ⟨o0, o1', fun z => by have := h.no o o0 o1' z; omega⟩
theorem thg_ok {c : List Int} {may : List (List Int)} {rec : List Int → List Int → Int → Rs} {a : Int} (a0 : 0 ≤ a) (nn : (c.length : Int) ∉ may.getD a.toNat []) {A0 : Nat}
    (hrec : ∀ (d s : List Int) (o : Int), GvOk c may d s → 0 ≤ o → o < may.length → o ∉ s → (c.length : Int) ∉ may.getD o.toNat [] → A0 ≤ s.length → Kp c may s (rec d s o)) :
    ∀ (xs d s : List Int), GvOk c may d s → A0 ≤ s.length → (∀ x ∈ xs, 0 ≤ x ∧ x < c.length) → Kp c may s (thgF rec c a xs d s)
  | [], d, s, h, _, _ => ⟨h, fun _ z => z, Nat.le_refl _⟩
  | x :: xs, d, s, h, hA, hx => by
    have hx' := hx x (.head _)
    unfold thgF
    by_cases hc : (d.count x : Int) < lat c x
    · rw [if_pos hc]
      exact ⟨h.put a0 nn hx'.1 (by omega), fun _ z => z, Nat.le_refl _⟩
    · rw [if_neg hc]
      have hk := oth_ok a0 nn hx'.1 hx'.2 hrec (holdF d x) d s h hA (hold_ok h hx'.2)
      rcases hr : othF rec a x (holdF d x) d s with ⟨b, d', s'⟩
      rw [hr] at hk
      cases b with
      | true => exact hk
      | false =>
        have ih := thg_ok a0 nn hrec xs d' s' hk.ok (Nat.le_trans hA hk.len) fun y hy => hx y (.tail _ hy)
        exact ⟨ih.ok, fun y hy => ih.sub y (hk.sub y hy), Nat.le_trans hk.len ih.len⟩
theorem row_in {c : List Int} {may : List (List Int)} (io : InOk c may) {a : Int} (a0 : 0 ≤ a) (a1 : a < may.length) (nn : (c.length : Int) ∉ may.getD a.toNat []) : (may.getD a.toNat []).length ≤ 7 ∧ ∀ x ∈ may.getD a.toNat [], 0 ≤ x ∧ x < c.length := by
  have hm : may.getD a.toNat [] ∈ may := by
    rw [List.getD_eq_getElem?_getD, List.getElem?_eq_getElem (show a.toNat < may.length by omega)]
    exact List.getElem_mem _
  refine ⟨(io.row _ hm).1, fun x hx => ?_⟩
  have h := (io.row _ hm).2 x hx
  have : x ≠ c.length := fun e => nn (e ▸ hx)
  omega
theorem GvOk.see {c : List Int} {may : List (List Int)} {d s : List Int} (h : GvOk c may d s) {a : Int} (a0 : 0 ≤ a) (a1 : a < may.length) (na : a ∉ s) : GvOk c may d (s ++ [a]) :=
  ⟨h.dl, h.dr, fun x hx => by
    rcases List.mem_append.mp hx with z | z
    · exact h.sr x z
    · rw [List.mem_singleton.mp z]; exact ⟨a0, a1⟩, List.nodup_append.mpr ⟨h.sn, by simp, fun x hx y hy e => by
      rw [List.mem_singleton.mp hy] at e
      exact na (e ▸ hx)⟩, h.no⟩
theorem giv_ok {c : List Int} {may : List (List Int)} (io : InOk c may) : ∀ (f : Nat) (d s : List Int) (a : Int), GvOk c may d s → 0 ≤ a → a < may.length → a ∉ s → (c.length : Int) ∉ may.getD a.toNat [] → Kp c may s (givF c may f d s a)
  | 0, d, s, a, h, _, _, _, _ => ⟨h, fun _ z => z, Nat.le_refl _⟩
  | f + 1, d, s, a, h, a0, a1, na, nn => by
    have hk := thg_ok (A0 := 0) a0 nn (fun d s o h o0 o1 no nn' _ => giv_ok io f d s o h o0 o1 no nn') (may.getD a.toNat []) d (s ++ [a]) (h.see a0 a1 na) (Nat.zero_le _) (row_in io a0 a1 nn).2
    exact ⟨hk.ok, fun x hx => hk.sub x (List.mem_append_left _ hx), Nat.le_trans (by rw [List.length_append]; omega) hk.len⟩
theorem ne_len (a : Int) : ∀ {s : List Int}, s.Nodup → s.length ≤ (s.filter fun x => decide (x ≠ a)).length + 1
  | [], _ => Nat.zero_le _
  | x :: s, nd => by
    have n2 := List.nodup_cons.mp nd
    have ih := ne_len a n2.2
    rw [List.filter_cons]
    by_cases e : x = a
    · rw [if_neg (by simpa using e)]
      have : s.filter (fun y => decide (y ≠ a)) = s := List.filter_eq_self.mpr fun y hy => decide_eq_true fun z => n2.1 (by rw [e, ← z]; exact hy)
      rw [this]; exact Nat.le_refl _
    · rw [if_pos (by simpa using e), List.length_cons, List.length_cons]; omega
theorem seen_le : ∀ {A : Nat} {s : List Int}, (∀ x ∈ s, 0 ≤ x ∧ x < (A : Int)) → s.Nodup → s.length ≤ A
  | 0, [], _, _ => Nat.le_refl _
  | 0, x :: s, h, _ => by have := h x (.head _); omega
  | A + 1, s, h, nd => by
    have h1 := seen_le (A := A) (s := s.filter fun x => decide (x ≠ (A : Int))) (fun x hx => by
      obtain ⟨hx1, hx2⟩ := List.mem_filter.mp hx
      have := h x hx1
      have hx3 := of_decide_eq_true hx2
      omega) (nd.filter _)
    have := ne_len (A : Int) nd
    omega
theorem iteT' {a b : Prop} (h : a) : if true = true then a else b := by rw [if_pos rfl]; exact h
theorem vI_pos {x : Int} (h : 0 ≤ x) : vI x = .int x := by unfold vI; rw [if_neg (by omega)]
theorem vI_neg {x : Int} (h : x < 0) : vI x = .non := by unfold vI; rw [if_pos h]
theorem eqV_vI {x y : Int} (hy : 0 ≤ y) : eqV (vI x) (.int y) = decide (x = y) := by
  by_cases h : x < 0
  · rw [vI_neg h, decide_eq_false (by omega)]; rfl
  · rw [vI_pos (by omega)]
    show (x == y) = _
    rw [Bool.beq_eq_decide_eq]
theorem flat_vI (x : Int) : flatV (vI x) = true := by
  by_cases h : x < 0
  · rw [vI_neg h]; rfl
  · rw [vI_pos (by omega)]; rfl
theorem count_vI {x : Int} (hx : 0 ≤ x) : ∀ d : List Int, (d.map vI).countP (fun z => eqV z (.int x)) = d.count x
  | [] => rfl
  | y :: d => by
    rw [List.map_cons, List.countP_cons, count_vI hx d, List.count_cons, eqV_vI hx]
    by_cases h : y = x
    · rw [if_pos (decide_eq_true h), if_pos (by simpa using h)]
    · rw [if_neg (by rw [decide_eq_false h]; decide), if_neg (by simpa using h)]
theorem hvl_vI {K : PySem.W.Frag} {G : Hp} : ∀ d : List Int, HvL K G ((d.map vI).map .fl) (d.map vI)
  | [] => rfl
  | x :: d => ⟨_, _, rfl, ⟨rfl, flat_vI x⟩, hvl_vI d⟩
theorem sK_val (s : List Int) (o : Int) : (valV (sK s) (.inl o)).isSome = s.contains o := by
  rw [← valV_any]
  unfold sK
  rw [List.any_map]
  induction s with
  | nil => rfl
  | cons x s ih =>
    rw [List.any_cons, ih, List.contains_cons]
    congr 1
    show decide ((Sum.inl x : Key) = Sum.inl o) = _
    rw [key_ll]
    exact Bool.beq_comm
theorem sK_put {s : List Int} {a : Int} (h : a ∉ s) : putK (sK s) (.inl a) (.bl true) = sK (s ++ [a]) := by
  have hn : valV (sK s) (.inl a) = none := by
    have := sK_val s a
    rw [show s.contains a = false by simpa using h] at this
    cases q : valV (sK s) (.inl a) with
    | none => rfl
    | some v => rw [q] at this; cases this
  rw [putK_new _ hn]
  unfold sK
  rw [List.map_append]; rfl
theorem scal_vI (x y : Int) : scal (vI x) (.int y) = true := by
  by_cases h : x < 0
  · rw [vI_neg h]; rfl
  · rw [vI_pos (by omega)]; rfl
theorem dec_vI {x y : Int} (hy : 0 ≤ y) : decide (vI x = .int y) = decide (x = y) := by
  refine decide_eq_decide.mpr ⟨fun h => ?_, fun h => by rw [h, vI_pos hy]⟩
  by_cases hx : x < 0
  · rw [vI_neg hx] at h; cases h
  · rw [vI_pos (by omega)] at h
    injection h
theorem enum_vI (d : List Int) : enuD ((d.map vI).map .fl) = (numsF d.length).map fun o => Dv.tup [di o, .fl (vI (lat d o))] := by
  unfold enuD
  refine List.ext_getElem? fun n => ?_
  rw [List.getElem?_zipWith, List.length_map, List.length_map, List.getElem?_map, List.getElem?_map, List.getElem?_map]
  by_cases hn : n < d.length
  · have e1 : (numsF d.length)[n]? = some (0 + (n : Int)) := by
      unfold numsF
      rw [List.getElem?_map, List.getElem?_range hn]; rfl
    rw [e1, List.getElem?_range hn, List.getElem?_eq_getElem hn]
    show some (Dv.tup [di (n : Int), .fl (vI d[n])]) = some (Dv.tup [di (0 + (n : Int)), .fl (vI (d.getD (0 + (n : Int)).toNat 0))])
    rw [Int.zero_add, Int.toNat_natCast, List.getD_eq_getElem?_getD, List.getElem?_eq_getElem hn]; rfl
  · rw [List.getElem?_eq_none (l := List.range d.length) (by rw [List.length_range]; omega), List.getElem?_eq_none (l := numsF d.length) (by rw [nums_len]; omega)]; rfl
structure GS (ld ls : Addr) (H : Hp) (d s : List Int) : Prop where
  d : H ld = some (.lst (d.map vI))
  s : H ls = some (.dK (sK s))
theorem GS.mono {ld ls : Addr} {H H1 : Hp} {d s : List Int} (g : GS ld ls H d s) (e : Same H H1) : GS ld ls H1 d s := ⟨e _ _ g.d, e _ _ g.s⟩
theorem GS.put {ld ls : Addr} {H : Hp} {d s : List Int} (g : GS ld ls H d s) (ne : ld ≠ ls) {a x : Int} (x0 : 0 ≤ x) : GS ld ls (upd H ld (.lst ((d.map vI).set a.toNat (.int x)))) (d.set a.toNat x) s := by
  refine ⟨?_, by rw [upd_ne (Ne.symm ne)]; exact g.s⟩
  rw [upd_same, List.map_set, vI_pos x0]
theorem md_same {f : List Addr} {G H H1 : Hp} (s : Same G H) (n : ∀ a ∈ f, G a = none) (m : Md f H H1) : Same G H1 := fun b o hb => m b o (fun z => by rw [n b z] at hb; cases hb) (s b o hb)
abbrev s_give_thing : Stmt := top 1
theorem sc_give_thing : FnScope ["counts", "may", "deal", "asker", "seen", "thing", "other"] ["counts", "may", "deal", "asker", "seen"] (defScope s_give_thing) := ⟨rfl, rfl, rfl, by decide +kernel, rfl, by decide +kernel, by decide +kernel⟩
def spGive (K : PySem.W.Frag) (f : Nat) : Sp := fun vs H Q _ => ∃ (c : List Int) (may : List (List Int)) (vc vm : V) (ld ls : Addr) (G : Hp) (d s : List Int) (a : Int), vs = [vc, vm, .ref ld, .int a, .ref ls] ∧ Same G H ∧ Hv K G (dis c) vc ∧ Hv K G (.lst (may.map dis)) vm ∧ (∀ b ∈ [ld, ls], G b = none) ∧ ld ≠ ls ∧ GS ld ls H d s ∧ InOk c may ∧ GvOk c may d s ∧ 0 ≤ a ∧ a < may.length ∧ a ∉ s ∧ (c.length : Int) ∉ may.getD a.toNat [] ∧ may.length ≤ f + s.length ∧
  ∀ H', Md [ld, ls] H H' → GS ld ls H' (givF c may f d s a).2.1 (givF c may f d s a).2.2 → Q (.bl (givF c may f d s a).1) H'
theorem okr_give_thing {f : Addr} {fd : FuncData} {k : Nat} (F : Fun K "give_thing" "give_thing" s_give_thing f fd) (T : Txt mg) (Kn0 : ∀ sp j, FnOk P w K mg base CX0 j f fd ["counts", "may", "deal", "asker", "seen"] sp → Kn P w K mg base CX0 j "give_thing" f fd ["counts", "may", "deal", "asker", "seen"] sp) : ∀ n, FnOk P w K mg base CX0 (k + n + 1) f fd ["counts", "may", "deal", "asker", "seen"] (spGive K n)
  | 0 => by
    refine F.ok sc_give_thing (fun vs H Q E h => by obtain ⟨_, _, _, _, _, _, _, _, _, _, rfl, _⟩ := h; rfl) fun cdv A outer s H vs Q E hr h => ?_
    obtain ⟨c, may, vc, vm, ld, ls, G, d, sn, a, rfl, sGH, hc, hmv, gn, ne, gs, io, ok, a0, a1, na, nn, fu, fin⟩ := h
    have := seen_le (fun x hx => (ok.see a0 a1 na).sr x hx) (ok.see a0 a1 na).sn
    rw [List.length_append, List.length_singleton] at this
    omega
  | n + 1 => by
    have ih := okr_give_thing (k := k) F T Kn0 n
    refine F.ok sc_give_thing (fun vs H Q E h => by obtain ⟨_, _, _, _, _, _, _, _, _, _, rfl, _⟩ := h; rfl) fun cdv A outer s H vs Q E hr h => ?_
    obtain ⟨c, may, vc, vm, ld, ls, G, d, sn, a, rfl, sGH, hc, hmv, gn, ne, gs, io, ok, a0, a1, na, nn, fu, fin⟩ := h
    have big : 1000 < sizeLine := by decide
    have hu : ((cxOf CX0 P w K mg base ["counts", "may", "deal", "asker", "seen", "thing", "other"] "give_thing" (defScope s_give_thing) f cdv A outer s H E).nox).A.units + 1 < cLine := Nat.lt_of_le_of_lt (Nat.add_le_add_left (show 1 ≤ 64 by decide) _) hr.units
    refine ⟨_, pss_cons (ps_dput hu (pv 4) (pv 3) pe_bl rfl) (pss_cons (ps_for PassesOwn.never rfl (pi_list (pe_ix ix_list (pv 1) (pv 3) (fun _ _ => rfl))) (pg_name (i := 5) sc_give_thing.nd rfl (by first | exact Or.inl rfl | exact Or.inr rfl))
      (pss_cons (ps_if (uT_ok (F := famD P w K mg base ["counts", "may", "deal", "asker", "seen", "thing", "other"] "give_thing" (defScope s_give_thing) f (k + n + 1)) ⟨cdv, A, outer, s, H, E, hr⟩) (pss_cons (ps_asg (pv 5) (pg_sub (pv 2) (pv 3) set_list)) (pss_one (ps_ret pe_bl))) pss_nil)
      (pss_one (ps_for PassesOwn.never rfl (pi_list (uE_ok (F := famD P w K mg base ["counts", "may", "deal", "asker", "seen", "thing", "other"] "give_thing" (defScope s_give_thing) f (k + n + 1)) ⟨cdv, A, outer, s, H, E, hr⟩)) (pg_name (i := 6) sc_give_thing.nd rfl (by first | exact Or.inl rfl | exact Or.inr rfl))
        (pss_one (ps_if (PW.pt (pw_and (pt_cmp (pc_dnotin hu (pv 6) (pv 4)) rfl) (pw_and1 (pt_val (pe_kn (Kn0 _ _ ih) hr (by rfl) (pa_cons (pv 0) (pa_cons (pv 1) (pa_cons (pv 2) (pa_cons (pv 6) (pa_cons (pv 4) pa_nil)))))))))) (pss_cons (ps_asg (pv 5) (pg_sub (pv 2) (pv 3) set_list)) (pss_one (ps_ret pe_bl))) pss_nil)))))) (pss_one (ps_ret pe_bl))), ?_⟩
    show tSeq _ _ _ [some vc, some vm, some (.ref ld), some (.int a), some (.ref ls), none, none] H
    have okS := ok.see a0 a1 na
    have sl := seen_le okS.sr okS.sn
    rw [List.length_append, List.length_singleton] at sl
    have A6 := io.A6
    refine ⟨_, rfl, _, rfl, ls, _, rfl, DPut.k (k := .inl a) gs.s (by unfold sK; rw [List.length_map]; omega), ?_⟩
    rw [sK_put na]
    have gs1 : GS ld ls (upd H ls (.dK (sK (sn ++ [a])))) d (sn ++ [a]) := ⟨by rw [upd_ne ne]; exact gs.d, upd_same⟩
    have md1 : Md [ld, ls] H (upd H ls (.dK (sK (sn ++ [a])))) := .upd (.tail _ (.head _))
    generalize upd H ls (.dK (sK (sn ++ [a]))) = H1 at gs1 md1
    have ri := row_in io a0 a1 nn
    obtain ⟨lm, xm, rfl, sqm, hvm⟩ := hmv
    have hrow : (may.map dis)[a.toNat]? = some (dis (may.getD a.toNat [])) := by rw [List.getElem?_map, List.getD_eq_getElem?_getD, List.getElem?_eq_getElem (show a.toNat < may.length by omega)]; rfl
    obtain ⟨vr, hvr, lr, xr, rfl, sqr, hvr2⟩ := hvl_at hvm hrow
    have := hvl_ints hvr2
    subst this
    have hat : atI xm a = some (.ref lr) := by
      have e : a = ((a.toNat : Nat) : Int) := by omega
      rw [e]; exact atI_nat hvr
    have er : givF c may (n + 1) d sn a = thgF (givF c may n) c a (may.getD a.toNat []) d (sn ++ [a]) := rfl
    rw [er] at fin
    generalize hres : thgF (givF c may n) c a (may.getD a.toNat []) d (sn ++ [a]) = res at fin
    generalize may.getD a.toNat [] = row at *
    have sG : ∀ {Hc : Hp}, Md [ld, ls] H Hc → Same G Hc := fun m => md_same sGH gn m
    dsimp only [tSeq]
    refine tFor_list (a := lr) (xs := row.map V.int) ⟨_, rfl, _, rfl, lm, _, a, .ref lr, rfl, rfl, (sG md1).seq sqm, hat, rfl, rfl⟩ (fun R hR => ⟨_, rfl, _, rfl, lm, _, a, .ref lr, rfl, rfl, (sG md1).seq sqm, hat, hR⟩) ((sG md1).seq sqr)
      (fun i σ Hc => ∃ o5 o6 d' s', σ = [some vc, some (.ref lm), some (.ref ld), some (.int a), some (.ref ls), o5, o6] ∧ Md [ld, ls] H Hc ∧ GS ld ls Hc d' s' ∧ GvOk c may d' s' ∧ sn.length + 1 ≤ s'.length ∧ thgF (givF c may n) c a (row.drop i) d' s' = res)
      ⟨none, none, d, sn ++ [a], rfl, md1, gs1, okS, by rw [List.length_append]; exact Nat.le_refl _, hres⟩ (fun i σ Hc _ h => by obtain ⟨_, _, _, _, _, m, _⟩ := h; exact (sG m).seq sqr) ?_ ?_
    · rintro i v σ Hc hv ⟨o5, o6, d', s', rfl, md, g, gok, sl', hr'⟩
      obtain ⟨x, hx, rfl⟩ := map_get hv
      have hxm := ri.2 x (List.mem_of_getElem? hx)
      have hdrop : row.drop i = x :: row.drop (i + 1) := by
        obtain ⟨h1, h2⟩ := List.getElem?_eq_some_iff.mp hx
        rw [List.drop_eq_getElem_cons h1, h2]
      rw [hdrop] at hr'
      dsimp only [gName, List.set]
      refine uT_of (ρ := [some (.fz (dis c)), none, some (.fz (.lst ((d'.map vI).map .fl))), none, none, some (ti x), none]) (Et.to (et_lt (ev_countF (v := .int x) (ev_nm 2 rfl) rfl (ev_nm 5 rfl)) (ev_ix (d := di (lat c x)) (ev_nm 0 rfl) (ev_nm 5 rfl) rfl (lat_at di hxm.1 hxm.2))) (q := decide ((d'.count x : Int) < lat c x)) (by rw [count_vI hxm.1])) (Same.refl Hc) (OwS.rpd (H := Hc) (fp := []) ⟨_, _, [], [], rfl, rfl, ⟨rfl, hc.mono (sG md)⟩, _, _, rfl, _, _, [], [], rfl, rfl, ⟨rfl, ld, _, rfl, SqL.of g.d, hvl_vI d'⟩, _, _, rfl, _, _, rfl, _, _, [], [], rfl, rfl, ⟨rfl, rfl, rfl⟩, _, _, rfl, rfl, rfl⟩) fun G2 H2 st2 => ?_
      have md2 := md.trans (.same st2.h)
      have g2 := g.mono st2.h
      by_cases hlt : (d'.count x : Int) < lat c x
      · rw [if_pos (decide_eq_true hlt)]
        rw [thg_cons, if_pos hlt] at hr'
        refine ⟨_, rfl, _, rfl, _, rfl, ld, _, a, a.toNat, rfl, rfl, g2.d, ?_, ?_⟩
        · rw [List.length_map, gok.dl]
          unfold ixN
          rw [if_pos a0, if_pos a1]
        · rw [← hr'] at fin
          exact fin _ (md2.trans (.upd (.head _))) (g2.put ne hxm.1)
      · rw [if_neg (by rw [decide_eq_false hlt]; decide)]
        rw [thg_cons, if_neg hlt] at hr'
        have hos := hold_ok gok hxm.2
        have dl6 : d'.length ≤ 6 := by rw [gok.dl]; exact A6
        refine uE_of (ρ := [none, none, some (.fz (.lst ((d'.map vI).map .fl))), none, none, some (ti x), none]) (t := tInts (holdF d' x)) (Ev.to (ev_lcf (own := ["holder", "one"]) (fr := [5]) (numsF d'.length) (fun o => .tup [di o, .fl (vI (lat d' o))]) (fun o => decide (lat d' o = x)) ti (fun i => lcs ⟨rfl, rfl, by decide +kernel, by decide +kernel, by decide +kernel, by decide +kernel⟩) (EvI.to (evi_enum T.b_enumerate (ev_nm 2 rfl) rfl) (enum_vI d')) (evg_t2 0 1 (fun _ => by show List.Nodup (["holder", "one", "thing"] : List Str); decide)) (by decide) (by rw [nums_len]; omega) (fun o ho => ⟨_, rfl, by exact el_one (Et.to (et_eqF (ev_nm 1 rfl) (ev_nm 2 rfl) (scal_vI _ _)) (dec_vI hxm.1)), fun _ => by exact ev_nm 0 rfl⟩) (fun dd => by rcases dd with _ | ⟨_, _ | ⟨_, _⟩⟩ <;> rfl)) rfl) (Same.refl H2) (OwS.rpd (H := H2) (fp := []) ⟨_, _, rfl, _, _, rfl, _, _, [], [], rfl, rfl, ⟨rfl, ld, _, rfl, SqL.of g2.d, hvl_vI d'⟩, _, _, rfl, _, _, rfl, _, _, [], [], rfl, rfl, ⟨rfl, rfl, rfl⟩, _, _, rfl, rfl, rfl⟩) fun vo G3 H3 fq3 st3 o3 w3 => ?_
        obtain ⟨lo, xo, fo, rfl, hlo, oo, rfl⟩ := o3
        obtain ⟨rfl, _⟩ := ints_ow oo
        have nlo := w3.n lo (.head _)
        have lod : lo ∉ [ld, ls] := fun z => by
          rcases List.mem_cons.mp z with rfl | z
          · rw [g2.d] at nlo; cases nlo
          · rw [List.mem_singleton.mp z, g2.s] at nlo; cases nlo
        have md3 := md2.trans (.same st3.h)
        have g3 := g2.mono st3.h
        have hmv' : Hv K G (.lst (may.map dis)) (.ref lm) := ⟨lm, xm, rfl, sqm, hvm⟩
        refine ⟨lo, rfl, ⟨_, SqL.of hlo⟩, for_list (fun j σ Hc => ∃ o6 d1 s1, σ = [some vc, some (.ref lm), some (.ref ld), some (.int a), some (.ref ls), some (.int x), o6] ∧ Md [ld, ls] H Hc ∧ Hc lo = some (.lst ((holdF d' x).map V.int)) ∧ GS ld ls Hc d1 s1 ∧ GvOk c may d1 s1 ∧ sn.length + 1 ≤ s1.length ∧ nx1 (givF c may n) c a (row.drop (i + 1)) (othF (givF c may n) a x ((holdF d' x).drop j) d1 s1) = res)
          ⟨o6, d', s', rfl, md3, hlo, g3, gok, sl', hr'⟩ (fun j σ Hc _ h => by obtain ⟨_, _, _, _, _, hl, _⟩ := h; exact SqL.of hl) ?_ ?_⟩
        · rintro j v σ H4 hv ⟨o6, d1, s1, rfl, md4, hl4, g4, gok4, sl4, hr4⟩
          obtain ⟨o, ho, rfl⟩ := map_get hv
          have hom := hos o (List.mem_of_getElem? ho)
          have hdrop4 : (holdF d' x).drop j = o :: (holdF d' x).drop (j + 1) := by
            obtain ⟨h1, h2⟩ := List.getElem?_eq_some_iff.mp ho
            rw [List.drop_eq_getElem_cons h1, h2]
          rw [hdrop4, oth_cons] at hr4
          dsimp only [gName, List.set]
          refine ⟨_, rfl, _, rfl, ls, _, rfl, DGet.k (k := .inl o) g4.s, _, rfl, ?_⟩
          rw [sK_val]
          by_cases hs : s1.contains o = true
          · rw [hs]
            rw [if_pos hs] at hr4
            exact iteF (iteF ⟨_, d1, s1, rfl, md4, hl4, g4, gok4, sl4, hr4⟩)
          · have hsf : s1.contains o = false := by simpa using hs
            rw [hsf]
            rw [if_neg hs] at hr4
            have hno : o ∉ s1 := fun z => hs (by simpa using z)
            have kp := giv_ok io n d1 s1 o gok4 hom.1 hom.2.1 hno hom.2.2
            refine iteT' ?_
            refine ⟨_, rfl, _, rfl, _, rfl, _, rfl, _, rfl, ?_⟩
            dsimp only [tNil, List.cons_append, List.nil_append]
            refine ⟨c, may, vc, .ref lm, ld, ls, G, d1, s1, o, rfl, sG md4, hc, hmv', gn, ne, g4, io, gok4, hom.1, hom.2.1, hno, hom.2.2, by omega, fun H5 md5 g5 => ⟨_, rfl, ?_⟩⟩
            rcases hg : givF c may n d1 s1 o with ⟨b, d2, s2⟩
            rw [hg] at g5 kp hr4
            have md45 := md4.trans md5
            cases b with
            | true =>
              refine iteT' ?_
              refine ⟨_, rfl, _, rfl, _, rfl, ld, _, a, a.toNat, rfl, rfl, g5.d, ?_, ?_⟩
              · rw [List.length_map, kp.ok.dl]
                unfold ixN
                rw [if_pos a0, if_pos a1]
              · have e : res = (true, d2.set a.toNat x, s2) := hr4.symm
                rw [e] at fin
                exact fin _ (md45.trans (.upd (.head _))) (g5.put ne hxm.1)
            | false =>
              exact iteF ⟨_, d2, s2, rfl, md45, md5 _ _ lod hl4, g5, kp.ok, Nat.le_trans sl4 kp.len, hr4⟩
        · rintro σ H4 ⟨o6, d1, s1, rfl, md4, hl4, g4, gok4, sl4, hr4⟩
          rw [List.length_map, List.drop_length] at hr4
          exact ⟨_, _, d1, s1, rfl, md4, g4, gok4, sl4, hr4⟩
    · rintro σ Hc ⟨o5, o6, d', s', rfl, md, g, gok, sl', hr'⟩
      rw [List.length_map, List.drop_length] at hr'
      rw [← hr'] at fin
      exact fin Hc md g
theorem ok_give_thing {f : Addr} {fd : FuncData} {k : Nat} (F : Fun K "give_thing" "give_thing" s_give_thing f fd) (T : Txt mg) (R0 : ∀ sp j, FnOk P w K mg base CX0 j f fd ["counts", "may", "deal", "asker", "seen"] sp → Kn P w K mg base CX0 j "give_thing" f fd ["counts", "may", "deal", "asker", "seen"] sp) : FnOk P w K mg base CX0 (k + 8) f fd ["counts", "may", "deal", "asker", "seen"] (spGive K 7) := by
  exact okr_give_thing F T R0 7
end
end K33
namespace K33
open PySem L2
section
variable {P : Program} {w : World} {K : PySem.W.Frag} {mg : Str → Option Value} {base : Heap}
mutual
def outL (rec : List Int → List Int → Int → Rs) (must : List Int) (x : Int) : List (List Int) → Int → List Int → List Int → Rs
  | [], _, d, s => (false, d, s)
  | r :: rs, a, d, s => if r.contains x && !s.contains (lat d a) then (if must.contains (lat d a) then (if (rec d s (lat d a)).1 = true then (true, (rec d s (lat d a)).2.1.set a.toNat x, (rec d s (lat d a)).2.2) else outL rec must x rs (a + 1) (rec d s (lat d a)).2.1 (rec d s (lat d a)).2.2) else (true, d.set a.toNat x, s)) else outL rec must x rs (a + 1) d s
end
def outF (may : List (List Int)) (must : List Int) : Nat → List Int → List Int → Int → Rs
  | 0, d, s, _ => (false, d, s)
  | f + 1, d, s, x => outL (outF may must f) must x may 0 d (s ++ [x])
structure OtOk (n A : Nat) (d s : List Int) : Prop where
  dl : d.length = A
  dr : ∀ y ∈ d, 0 ≤ y ∧ y ≤ n
  sr : ∀ y ∈ s, 0 ≤ y ∧ y < n
  sn : s.Nodup
structure Kp2 (n A : Nat) (s : List Int) (r : Rs) : Prop where
  ok : OtOk n A r.2.1 r.2.2
  sub : ∀ x ∈ s, x ∈ r.2.2
  len : s.length ≤ r.2.2.length
theorem OtOk.put {n A : Nat} {d s : List Int} (h : OtOk n A d s) {a : Nat} {x : Int} (x0 : 0 ≤ x) (x1 : x ≤ n) : OtOk n A (d.set a x) s := by
  refine ⟨by rw [List.length_set]; exact h.dl, fun y hy => ?_, h.sr, h.sn⟩
  rcases List.mem_or_eq_of_mem_set hy with z | rfl
  · exact h.dr y z
  · exact ⟨x0, x1⟩
theorem OtOk.see {n A : Nat} {d s : List Int} (h : OtOk n A d s) {x : Int} (x0 : 0 ≤ x) (x1 : x < n) (nx : x ∉ s) : OtOk n A d (s ++ [x]) :=
  ⟨h.dl, h.dr, fun y hy => by
    rcases List.mem_append.mp hy with z | z
    · exact h.sr y z
    · rw [List.mem_singleton.mp z]; exact ⟨x0, x1⟩, List.nodup_append.mpr ⟨h.sn, by simp, fun y hy z hz e => by
      rw [List.mem_singleton.mp hz] at e
      exact nx (e ▸ hy)⟩⟩
theorem outL_ok {n A : Nat} {must : List Int} {rec : List Int → List Int → Int → Rs} {x : Int} (x0 : 0 ≤ x) (x1 : x < n) (hmu : ∀ y ∈ must, 0 ≤ y ∧ y < (n : Int))
    (hrec : ∀ (d s : List Int) (y : Int), OtOk n A d s → 0 ≤ y → y < n → y ∉ s → Kp2 n A s (rec d s y)) : ∀ (rs : List (List Int)) (a : Int) (d s : List Int), OtOk n A d s → Kp2 n A s (outL rec must x rs a d s)
  | [], a, d, s, h => ⟨h, fun _ z => z, Nat.le_refl _⟩
  | r :: rs, a, d, s, h => by
    unfold outL
    by_cases h1 : (r.contains x && !s.contains (lat d a)) = true
    · rw [if_pos h1]
      by_cases h2 : must.contains (lat d a) = true
      · rw [if_pos h2]
        have hy := hmu (lat d a) (by simpa using h2)
        have hn : lat d a ∉ s := fun z => by
          rw [Bool.and_eq_true] at h1
          have := h1.2
          simp at this
          exact this z
        have kp := hrec d s (lat d a) h hy.1 hy.2 hn
        generalize rec d s (lat d a) = q at kp
        by_cases h3 : q.1 = true
        · rw [if_pos h3]
          exact ⟨kp.ok.put x0 (by omega), kp.sub, kp.len⟩
        · rw [if_neg h3]
          have ih := outL_ok x0 x1 hmu hrec rs (a + 1) q.2.1 q.2.2 kp.ok
          exact ⟨ih.ok, fun y hy => ih.sub y (kp.sub y hy), Nat.le_trans kp.len ih.len⟩
      · rw [if_neg h2]
        exact ⟨h.put x0 (by omega), fun _ z => z, Nat.le_refl _⟩
    · rw [if_neg h1]
      exact outL_ok x0 x1 hmu hrec rs (a + 1) d s h
theorem outF_ok {n A : Nat} {may : List (List Int)} {must : List Int} (hmu : ∀ y ∈ must, 0 ≤ y ∧ y < (n : Int)) : ∀ (f : Nat) (d s : List Int) (x : Int), OtOk n A d s → 0 ≤ x → x < n → x ∉ s → Kp2 n A s (outF may must f d s x)
  | 0, d, s, x, h, _, _, _ => ⟨h, fun _ z => z, Nat.le_refl _⟩
  | f + 1, d, s, x, h, x0, x1, nx => by
    have hk := outL_ok x0 x1 hmu (fun d s y h y0 y1 ny => outF_ok (may := may) hmu f d s y h y0 y1 ny) may 0 d (s ++ [x]) (h.see x0 x1 nx)
    exact ⟨hk.ok, fun y hy => hk.sub y (List.mem_append_left _ hy), Nat.le_trans (by rw [List.length_append]; omega) hk.len⟩
abbrev s_deal_out : Stmt := top 2
theorem sc_deal_out : FnScope ["may", "must", "deal", "thing", "seen", "asker", "some", "had"] ["may", "must", "deal", "thing", "seen"] (defScope s_deal_out) := ⟨rfl, rfl, rfl, by decide +kernel, rfl, by decide +kernel, by decide +kernel⟩
def spOut (K : PySem.W.Frag) (f : Nat) : Sp := fun vs H Q _ => ∃ (nn : Nat) (may : List (List Int)) (must : List Int) (vm vu : V) (ld ls : Addr) (G : Hp) (d s : List Int) (x : Int), vs = [vm, vu, .ref ld, .int x, .ref ls] ∧ Same G H ∧ Hv K G (.lst (may.map dis)) vm ∧ Hv K G (dis must) vu ∧ (∀ b ∈ [ld, ls], G b = none) ∧ ld ≠ ls ∧ GS ld ls H d s ∧ may.length ≤ 6 ∧ nn ≤ 6 ∧ (∀ y ∈ must, 0 ≤ y ∧ y < (nn : Int)) ∧ OtOk nn may.length d s ∧ 0 ≤ x ∧ x < nn ∧ x ∉ s ∧ nn ≤ f + s.length ∧
  ∀ H', Md [ld, ls] H H' → GS ld ls H' (outF may must f d s x).2.1 (outF may must f d s x).2.2 → Q (.bl (outF may must f d s x).1) H'
theorem okr_deal_out {f : Addr} {fd : FuncData} {k : Nat} (F : Fun K "deal_out" "deal_out" s_deal_out f fd) (T : Txt mg) (Kn0 : ∀ sp j, FnOk P w K mg base CX0 j f fd ["may", "must", "deal", "thing", "seen"] sp → Kn P w K mg base CX0 j "deal_out" f fd ["may", "must", "deal", "thing", "seen"] sp) : ∀ n, FnOk P w K mg base CX0 (k + n + 1) f fd ["may", "must", "deal", "thing", "seen"] (spOut K n)
  | 0 => by
    refine F.ok sc_deal_out (fun vs H Q E h => by obtain ⟨_, _, _, _, _, _, _, _, _, _, _, rfl, _⟩ := h; rfl) fun cdv A outer s H vs Q E hr h => ?_
    obtain ⟨nn, may, must, vm, vu, ld, ls, G, d, sn, x, rfl, sGH, hmv, hc, gn, ne, gs, A6, n6, hmu, ok, x0, x1, nx, fu, fin⟩ := h
    have := seen_le (fun y hy => (ok.see x0 x1 nx).sr y hy) (ok.see x0 x1 nx).sn
    rw [List.length_append, List.length_singleton] at this
    omega
  | n + 1 => by
    have ih := okr_deal_out (k := k) F T Kn0 n
    refine F.ok sc_deal_out (fun vs H Q E h => by obtain ⟨_, _, _, _, _, _, _, _, _, _, _, rfl, _⟩ := h; rfl) fun cdv A outer s H vs Q E hr h => ?_
    obtain ⟨nn, may, must, vm, vu, ld, ls, G, d, sn, x, rfl, sGH, hmv, hc, gn, ne, gs, A6, n6, hmu, ok, x0, x1, nx, fu, fin⟩ := h
    have big : 1000 < sizeLine := by decide
    have hu : ((cxOf CX0 P w K mg base ["may", "must", "deal", "thing", "seen", "asker", "some", "had"] "deal_out" (defScope s_deal_out) f cdv A outer s H E).nox).A.units + 1 < cLine := Nat.lt_of_le_of_lt (Nat.add_le_add_left (show 1 ≤ 64 by decide) _) hr.units
    refine ⟨_, pss_cons (ps_dput hu (pv 4) (pv 3) pe_bl rfl) (pss_cons (ps_for PassesOwn.never rfl (pi_enum (by rfl) T.b_enumerate (pa_cons (pv 0) pa_nil)) (pg_tup rfl (pgs_cons (pg_name (i := 5) sc_deal_out.nd rfl (by first | exact Or.inl rfl | exact Or.inr rfl)) (pgs_cons (pg_name (i := 6) sc_deal_out.nd rfl (by first | exact Or.inl rfl | exact Or.inr rfl)) pgs_nil)))
      (pss_cons (ps_set (i := 7) sc_deal_out.nd rfl (by first | exact Or.inl rfl | exact Or.inr rfl) (pe_ix ix_list (pv 2) (pv 5) (fun _ _ => rfl)))
      (pss_one (ps_if (PW.pt (pw_and (uT_ok (F := famD P w K mg base ["may", "must", "deal", "thing", "seen", "asker", "some", "had"] "deal_out" (defScope s_deal_out) f (k + n + 1)) ⟨cdv, A, outer, s, H, E, hr⟩) (pw_and1 (pt_cmp (pc_dnotin hu (pv 7) (pv 4)) rfl))))
        (pss_one (ps_if (PW.pt (pw_or (uT_ok (F := famD P w K mg base ["may", "must", "deal", "thing", "seen", "asker", "some", "had"] "deal_out" (defScope s_deal_out) f (k + n + 1)) ⟨cdv, A, outer, s, H, E, hr⟩) (pw_or1 (pt_val (pe_kn (Kn0 _ _ ih) hr (by rfl) (pa_cons (pv 0) (pa_cons (pv 1) (pa_cons (pv 2) (pa_cons (pv 7) (pa_cons (pv 4) pa_nil)))))))))) (pss_cons (ps_asg (pv 3) (pg_sub (pv 2) (pv 5) set_list)) (pss_one (ps_ret pe_bl))) pss_nil)) pss_nil)))) (pss_one (ps_ret pe_bl))), ?_⟩
    show tSeq _ _ _ [some vm, some vu, some (.ref ld), some (.int x), some (.ref ls), none, none, none] H
    have okS := ok.see x0 x1 nx
    have sl := seen_le okS.sr okS.sn
    rw [List.length_append, List.length_singleton] at sl
    refine ⟨_, rfl, _, rfl, ls, _, rfl, DPut.k (k := .inl x) gs.s (by unfold sK; rw [List.length_map]; omega), ?_⟩
    rw [sK_put nx]
    have gs1 : GS ld ls (upd H ls (.dK (sK (sn ++ [x])))) d (sn ++ [x]) := ⟨by rw [upd_ne ne]; exact gs.d, upd_same⟩
    have md1 : Md [ld, ls] H (upd H ls (.dK (sK (sn ++ [x])))) := .upd (.tail _ (.head _))
    generalize upd H ls (.dK (sK (sn ++ [x]))) = H1 at gs1 md1
    obtain ⟨lm, xm, rfl, sqm, hvm⟩ := hmv
    have hmv' : Hv K G (.lst (may.map dis)) (.ref lm) := ⟨lm, xm, rfl, sqm, hvm⟩
    have xml : xm.length = may.length := by rw [← hvm.length, List.length_map]
    have er : outF may must (n + 1) d sn x = outL (outF may must n) must x (may.drop 0) ((0 : Nat) : Int) d (sn ++ [x]) := rfl
    rw [er] at fin
    generalize hres : outL (outF may must n) must x (may.drop 0) ((0 : Nat) : Int) d (sn ++ [x]) = res at fin
    have sG : ∀ {Hc : Hp}, Md [ld, ls] H Hc → Same G Hc := fun m => md_same sGH gn m
    have hld : ld ∈ [ld, ls] := .head _
    have hls : ls ∈ [ld, ls] := .tail _ (.head _)
    dsimp only [tSeq]
    refine ⟨_, rfl, lm, xm, rfl, (sG md1).seq sqm, ?_⟩
    refine for_enum (fun i σ Hc => ∃ o5 o6 o7 d' s', σ = [some (.ref lm), some vu, some (.ref ld), some (.int x), some (.ref ls), o5, o6, o7] ∧ Md [ld, ls] H Hc ∧ GS ld ls Hc d' s' ∧ OtOk nn may.length d' s' ∧ sn.length + 1 ≤ s'.length ∧ outL (outF may must n) must x (may.drop i) (i : Nat) d' s' = res)
      ⟨none, none, none, d, sn ++ [x], rfl, md1, gs1, okS, by rw [List.length_append]; exact Nat.le_refl _, hres⟩ (fun i σ Hc _ h => by obtain ⟨_, _, _, _, _, _, m, _⟩ := h; exact (sG m).seq sqm) ?_ ?_
    · rintro i v σ Hc0 Tt hv ⟨o5, o6, o7, d', s', rfl, md0, g0, gok, sl', hr'⟩ hT
      have hi : i < may.length := by rw [← xml]; exact (List.getElem?_eq_some_iff.mp hv).1
      have hrow : (may.map dis)[i]? = some (dis may[i]) := by rw [List.getElem?_map, List.getElem?_eq_getElem hi]; rfl
      obtain ⟨vr, hvr, hvr2⟩ := hvl_at hvm hrow
      rw [hv] at hvr
      cases hvr
      generalize hrw : may[i] = row at *
      have hdrop : may.drop i = row :: may.drop (i + 1) := by rw [List.drop_eq_getElem_cons hi, hrw]
      rw [hdrop] at hr'
      have hne : Tt ≠ ld ∧ Tt ≠ ls := ⟨fun z => (by rw [z, g0.d] at hT; cases hT), fun z => (by rw [z, g0.s] at hT; cases hT)⟩
      have md : Md [ld, ls] H (upd Hc0 Tt (.tup [.int (i : Nat), v])) := md0.trans (.new hT)
      have g : GS ld ls (upd Hc0 Tt (.tup [.int (i : Nat), v])) d' s' := ⟨by rw [upd_ne (Ne.symm hne.1)]; exact g0.d, by rw [upd_ne (Ne.symm hne.2)]; exact g0.s⟩
      have hTt : upd Hc0 Tt (.tup [.int (i : Nat), v]) Tt = some (.tup [.int (i : Nat), v]) := upd_same
      generalize upd Hc0 Tt (.tup [.int (i : Nat), v]) = Hc at md g hTt
      have i0 : (0 : Int) ≤ (i : Nat) := by omega
      have i1 : ((i : Nat) : Int) < d'.length := by rw [gok.dl]; omega
      have hy := gok.dr _ (lat_mem i0 i1)
      have hat : atI (d'.map vI) (i : Nat) = some (.int (lat d' (i : Nat))) := by rw [lat_at vI i0 i1, vI_pos hy.1]
      unfold outL at hr'
      generalize hyy : lat d' ((i : Nat) : Int) = y at *
      refine ⟨Tt, _, rfl, SqT.of hTt, rfl, _, _, rfl, _, _, rfl, rfl, ?_⟩
      dsimp only [gName, List.set]
      refine ⟨_, rfl, _, rfl, ld, _, _, .int y, rfl, rfl, SqL.of g.d, hat, ?_⟩
      dsimp only [gName, List.set]
      refine uT_of (ρ := [none, none, none, some (ti x), none, none, some (.fz (dis row)), none]) (et_in (ev_nm 3 rfl) (ev_nm 6 rfl) rfl (by with_unfolding_all rfl)) (Same.refl Hc) (OwS.rpd (H := Hc) (fp := []) ⟨_, _, rfl, _, _, rfl, _, _, rfl, _, _, [], [], rfl, rfl, ⟨rfl, rfl, rfl⟩, _, _, rfl, _, _, rfl, _, _, [], [], rfl, rfl, ⟨rfl, hvr2.mono (sG md)⟩, _, _, rfl, rfl, rfl⟩) fun G2 H2 st2 => ?_
      have md2 := md.trans (.same st2.h)
      have g2 := g.mono st2.h
      have ei : ((i + 1 : Nat) : Int) = ((i : Nat) : Int) + 1 := by omega
      rw [← ei] at hr'
      have ixi : ∀ {m : Nat}, m = may.length → ixN m ((i : Nat) : Int) = some i := fun {m} hm => by
        unfold ixN
        rw [if_pos i0, if_pos (by omega)]; rfl
      by_cases h1 : row.contains x = true
      · rw [h1] at hr' ⊢
        refine iteT ?_
        refine ⟨_, rfl, _, rfl, ls, _, rfl, DGet.k (k := .inl y) g2.s, _, rfl, ?_⟩
        rw [sK_val]
        by_cases h2 : s'.contains y = true
        · rw [h2] at hr' ⊢
          exact iteF ⟨_, _, _, d', s', rfl, md2, g2, gok, sl', hr'⟩
        · have h2f : s'.contains y = false := by simpa using h2
          rw [h2f] at hr' ⊢
          have hr2 : (if must.contains y = true then (if (outF may must n d' s' y).1 = true then (true, (outF may must n d' s' y).2.1.set i x, (outF may must n d' s' y).2.2) else outL (outF may must n) must x (may.drop (i + 1)) ((i + 1 : Nat) : Int) (outF may must n d' s' y).2.1 (outF may must n d' s' y).2.2) else (true, d'.set i x, s')) = res := hr'
          refine iteT ?_
          refine uT_of (ρ := [none, some (.fz (dis must)), none, none, none, none, none, some (ti y)]) (et_notin (ev_nm 7 rfl) (ev_nm 1 rfl) rfl (by with_unfolding_all rfl)) (Same.refl H2) (OwS.rpd (H := H2) (fp := []) ⟨_, _, rfl, _, _, [], [], rfl, rfl, ⟨rfl, hc.mono (sG md2)⟩, _, _, rfl, _, _, rfl, _, _, rfl, _, _, rfl, _, _, rfl, _, _, [], [], rfl, rfl, ⟨rfl, rfl, rfl⟩, rfl, rfl⟩) fun G3 H3 st3 => ?_
          have md3 := md2.trans (.same st3.h)
          have g3 := g2.mono st3.h
          by_cases h3 : must.contains y = true
          · rw [h3]
            rw [if_pos h3] at hr2
            have hyn := hmu y (by simpa using h3)
            have hno : y ∉ s' := fun z => h2 (by simpa using z)
            have kp := outF_ok (may := may) hmu n d' s' y gok hyn.1 hyn.2 hno
            refine iteF ?_
            refine ⟨_, rfl, _, rfl, _, rfl, _, rfl, _, rfl, ?_⟩
            dsimp only [tNil, List.cons_append, List.nil_append]
            refine ⟨nn, may, must, .ref lm, vu, ld, ls, G, d', s', y, rfl, sG md3, hmv', hc, gn, ne, g3, A6, n6, hmu, gok, hyn.1, hyn.2, hno, by omega, fun H5 md5 g5 => ⟨_, rfl, ?_⟩⟩
            rcases hg : outF may must n d' s' y with ⟨b, d2, s2⟩
            rw [hg] at g5 kp hr2
            have md45 := md3.trans md5
            cases b with
            | true =>
              refine iteT ?_
              refine ⟨_, rfl, _, rfl, _, rfl, ld, _, _, i, rfl, rfl, g5.d, ixi (by rw [List.length_map]; exact kp.ok.dl), ?_⟩
              have e : res = (true, d2.set i x, s2) := hr2.symm
              rw [e] at fin
              exact fin _ (md45.trans (.upd (.head _))) (g5.put (a := ((i : Nat) : Int)) ne x0)
            | false =>
              exact iteF ⟨_, _, _, d2, s2, rfl, md45, g5, kp.ok, Nat.le_trans sl' kp.len, hr2⟩
          · have h3f : must.contains y = false := by simpa using h3
            rw [h3f]
            rw [if_neg h3] at hr2
            refine iteT (iteT ?_)
            refine ⟨_, rfl, _, rfl, _, rfl, ld, _, _, i, rfl, rfl, g3.d, ixi (by rw [List.length_map]; exact gok.dl), ?_⟩
            rw [← hr2] at fin
            exact fin _ (md3.trans (.upd (.head _))) (g3.put (a := ((i : Nat) : Int)) ne x0)
      · have h1f : row.contains x = false := by simpa using h1
        rw [h1f] at hr' ⊢
        exact iteF (iteF ⟨_, _, _, d', s', rfl, md2, g2, gok, sl', hr'⟩)
    · rintro σ Hc ⟨o5, o6, o7, d', s', rfl, md, g, gok, sl', hr'⟩
      rw [xml, List.drop_length] at hr'
      rw [← hr'] at fin
      exact fin Hc md g
theorem ok_deal_out {f : Addr} {fd : FuncData} {k : Nat} (F : Fun K "deal_out" "deal_out" s_deal_out f fd) (T : Txt mg) (R0 : ∀ sp j, FnOk P w K mg base CX0 j f fd ["may", "must", "deal", "thing", "seen"] sp → Kn P w K mg base CX0 j "deal_out" f fd ["may", "must", "deal", "thing", "seen"] sp) : FnOk P w K mg base CX0 (k + 8) f fd ["may", "must", "deal", "thing", "seen"] (spOut K 7) := by
  exact okr_deal_out F T R0 7
end
end K33
namespace K33
open PySem L2
section
variable {P : Program} {w : World} {K : PySem.W.Frag} {mg : Str → Option Value} {base : Heap}
theorem count_setI {x v : Int} : ∀ {l : List Int} {a : Nat} {u : Int}, l[a]? = some u → ((l.set a v).count x : Int) + (if u = x then 1 else 0) = (l.count x : Int) + (if v = x then 1 else 0)
  | [], a, u, h => by cases a <;> cases h
  | y :: l, 0, u, h => by
    cases h
    rw [List.set_cons_zero, List.count_cons, List.count_cons]
    by_cases h1 : y = x
    · by_cases h2 : v = x
      · rw [if_pos h1, if_pos h2, if_pos (by simpa using h2), if_pos (by simpa using h1)]
      · rw [if_pos h1, if_neg h2, if_neg (by simpa using h2), if_pos (by simpa using h1)]; omega
    · by_cases h2 : v = x
      · rw [if_neg h1, if_pos h2, if_pos (by simpa using h2), if_neg (by simpa using h1)]; omega
      · rw [if_neg h1, if_neg h2, if_neg (by simpa using h2), if_neg (by simpa using h1)]
  | y :: l, a + 1, u, h => by
    have ih := count_setI (x := x) (v := v) (l := l) (a := a) (u := u) h
    rw [List.set_cons_succ, List.count_cons, List.count_cons]
    omega
theorem lat_get {d : List Int} {a : Int} (a0 : 0 ≤ a) (a1 : a < d.length) : d[a.toNat]? = some (lat d a) := by
  unfold lat
  rw [List.getD_eq_getElem?_getD, List.getElem?_eq_getElem (show a.toNat < d.length by omega)]; rfl
structure Tr1 (may : List (List Int)) (must s : List Int) (x : Int) (d d' : List Int) : Prop where
  z : ∃ z, z ∉ must ∧ ∀ y, (d'.count y : Int) + (if z = y then 1 else 0) = d.count y + (if x = y then 1 else 0)
  keep : ∀ a : Int, 0 ≤ a → a < d.length → lat d a ∈ s → lat d' a = lat d a
  may' : ∀ a : Int, 0 ≤ a → a < d.length → lat d' a = lat d a ∨ lat d' a ∈ may.getD a.toNat []
  dl : d'.length = d.length
theorem outL_false {must : List Int} {rec : List Int → List Int → Int → Rs} {x : Int} (hrec : ∀ d s y, (rec d s y).1 = false → (rec d s y).2.1 = d) : ∀ (rs : List (List Int)) (a : Int) (d s : List Int), (outL rec must x rs a d s).1 = false → (outL rec must x rs a d s).2.1 = d
  | [], a, d, s, _ => rfl
  | r :: rs, a, d, s, h => by
    unfold outL at h ⊢
    by_cases h1 : (r.contains x && !s.contains (lat d a)) = true
    · rw [if_pos h1] at h ⊢
      by_cases h2 : must.contains (lat d a) = true
      · rw [if_pos h2] at h ⊢
        by_cases h3 : (rec d s (lat d a)).1 = true
        · rw [if_pos h3] at h; cases h
        · rw [if_neg h3] at h ⊢
          have := outL_false hrec rs (a + 1) _ _ h
          rw [this]
          exact hrec d s _ (by simpa using h3)
      · rw [if_neg h2] at h; cases h
    · rw [if_neg h1] at h ⊢
      exact outL_false hrec rs (a + 1) d s h
theorem outF_false {may : List (List Int)} {must : List Int} : ∀ (f : Nat) (d s : List Int) (x : Int), (outF may must f d s x).1 = false → (outF may must f d s x).2.1 = d
  | 0, _, _, _, _ => rfl
  | f + 1, d, s, x, h => outL_false (fun d s y => outF_false f d s y) may 0 d (s ++ [x]) h
theorem outL_sub {must : List Int} {rec : List Int → List Int → Int → Rs} {x : Int} (hrec : ∀ d s y, ∀ v ∈ s, v ∈ (rec d s y).2.2) : ∀ (rs : List (List Int)) (a : Int) (d s : List Int), ∀ v ∈ s, v ∈ (outL rec must x rs a d s).2.2
  | [], a, d, s, v, h => h
  | r :: rs, a, d, s, v, h => by
    unfold outL
    by_cases h1 : (r.contains x && !s.contains (lat d a)) = true
    · rw [if_pos h1]
      by_cases h2 : must.contains (lat d a) = true
      · rw [if_pos h2]
        by_cases h3 : (rec d s (lat d a)).1 = true
        · rw [if_pos h3]; exact hrec d s _ v h
        · rw [if_neg h3]; exact outL_sub hrec rs (a + 1) _ _ v (hrec d s _ v h)
      · rw [if_neg h2]; exact h
    · rw [if_neg h1]; exact outL_sub hrec rs (a + 1) d s v h
theorem outF_sub {may : List (List Int)} {must : List Int} : ∀ (f : Nat) (d s : List Int) (x : Int), ∀ v ∈ s, v ∈ (outF may must f d s x).2.2
  | 0, _, _, _, _, h => h
  | f + 1, d, s, x, v, h => outL_sub (fun d s y => outF_sub f d s y) may 0 d (s ++ [x]) v (List.mem_append_left _ h)
theorem outL_true {may : List (List Int)} {must : List Int} {rec : List Int → List Int → Int → Rs} {x : Int} (hf : ∀ d s y, (rec d s y).1 = false → (rec d s y).2.1 = d) (hs : ∀ d s y, ∀ v ∈ s, v ∈ (rec d s y).2.2)
    (hrec : ∀ d s y, d.length = may.length → (rec d s y).1 = true → Tr1 may must (s ++ [y]) y d (rec d s y).2.1) :
    ∀ (rs : List (List Int)) (a : Nat) (d s : List Int), may.drop a = rs → d.length = may.length → x ∈ s → (outL rec must x rs a d s).1 = true → Tr1 may must s x d (outL rec must x rs a d s).2.1
  | [], a, d, s, _, _, _, h => by cases h
  | r :: rs, a, d, s, hm, dl, hx, h => by
    have ha : a < may.length := by
      rcases Nat.lt_or_ge a may.length with z | z
      · exact z
      · rw [List.drop_of_length_le z] at hm; cases hm
    have hm2 : may[a] = r ∧ may.drop (a + 1) = rs := by
      rw [List.drop_eq_getElem_cons ha] at hm
      injection hm with e1 e2
      exact ⟨e1, e2⟩
    have hrow : may.getD ((a : Nat) : Int).toNat [] = r := by rw [Int.toNat_natCast, List.getD_eq_getElem?_getD, List.getElem?_eq_getElem ha, hm2.1]; rfl
    have ea : ((a + 1 : Nat) : Int) = (a : Int) + 1 := by omega
    have a0 : (0 : Int) ≤ a := by omega
    have a1 : (a : Int) < d.length := by rw [dl]; omega
    unfold outL at h ⊢
    by_cases h1 : (r.contains x && !s.contains (lat d a)) = true
    · rw [if_pos h1] at h ⊢
      rw [Bool.and_eq_true] at h1
      have hxr : x ∈ r := by simpa using h1.1
      have hns : lat d a ∉ s := by simpa using h1.2
      have fin : ∀ d1 : List Int, d1.length = d.length → lat d1 a = lat d a → (∀ b : Int, 0 ≤ b → b < d.length → lat d b ∈ s → lat d1 b = lat d b) → (∀ b : Int, 0 ≤ b → b < d.length → lat d1 b = lat d b ∨ lat d1 b ∈ may.getD b.toNat []) → (∃ z, z ∉ must ∧ ∀ y, (d1.count y : Int) + (if z = y then 1 else 0) = d.count y + (if lat d a = y then 1 else 0)) → Tr1 may must s x d (d1.set (a : Int).toNat x) := fun d1 l1 e1 k1 m1 ⟨z, hz1, hz2⟩ => by
        refine ⟨⟨z, hz1, fun y => ?_⟩, fun b b0 b1 hb => ?_, fun b b0 b1 => ?_, by rw [List.length_set]; exact l1⟩
        · have g := lat_get (d := d1) a0 (by rw [l1]; exact a1)
          rw [e1] at g
          have c1 := count_setI (x := y) (v := x) g
          have c2 := hz2 y
          omega
        · rw [lat_set a0 b0 (by rw [l1]; exact b1), if_neg (fun e => hns (by rw [e]; exact hb))]
          exact k1 b b0 b1 hb
        · rw [lat_set a0 b0 (by rw [l1]; exact b1)]
          by_cases e : (a : Int) = b
          · rw [if_pos e]
            right
            rw [← e, hrow]; exact hxr
          · rw [if_neg e]; exact m1 b b0 b1
      by_cases h2 : must.contains (lat d a) = true
      · rw [if_pos h2] at h ⊢
        by_cases h3 : (rec d s (lat d a)).1 = true
        · rw [if_pos h3]
          have T := hrec d s _ dl h3
          exact fin _ T.dl (T.keep a a0 a1 (List.mem_append_right _ (.head _))) (fun b b0 b1 hb => T.keep b b0 b1 (List.mem_append_left _ hb)) T.may' T.z
        · rw [if_neg h3] at h ⊢
          have e := hf d s _ (by simpa using h3)
          rw [e] at h ⊢
          rw [← ea] at h ⊢
          have T := outL_true hf hs hrec rs (a + 1) d _ hm2.2 dl (hs d s _ x hx) h
          exact ⟨T.z, fun b b0 b1 hb => T.keep b b0 b1 (hs d s _ _ hb), T.may', T.dl⟩
      · rw [if_neg h2]
        exact fin d rfl rfl (fun _ _ _ _ => rfl) (fun _ _ _ => .inl rfl) ⟨lat d a, by simpa using h2, fun y => rfl⟩
    · rw [if_neg h1] at h ⊢
      rw [← ea] at h ⊢
      exact outL_true hf hs hrec rs (a + 1) d s hm2.2 dl hx h
theorem outF_true {may : List (List Int)} {must : List Int} : ∀ (f : Nat) (d s : List Int) (x : Int), d.length = may.length → (outF may must f d s x).1 = true → Tr1 may must (s ++ [x]) x d (outF may must f d s x).2.1
  | 0, _, _, _, _, h => by cases h
  | f + 1, d, s, x, dl, h => outL_true (fun d s y => outF_false f d s y) (fun d s y => outF_sub f d s y) (fun d s y dl h => outF_true f d s y dl h) may 0 d (s ++ [x]) rfl dl (List.mem_append_right _ (.head _)) h
theorem oth_false {rec : List Int → List Int → Int → Rs} {a x : Int} (hrec : ∀ d s o, (rec d s o).1 = false → (rec d s o).2.1 = d) : ∀ (os d s : List Int), (othF rec a x os d s).1 = false → (othF rec a x os d s).2.1 = d
  | [], d, s, _ => rfl
  | o :: os, d, s, h => by
    rw [oth_cons] at h ⊢
    by_cases hs : s.contains o = true
    · rw [if_pos hs] at h ⊢
      exact oth_false hrec os d s h
    · rw [if_neg hs] at h ⊢
      unfold nx2 at h ⊢
      by_cases hr : (rec d s o).1 = true
      · rw [if_pos hr] at h; cases h
      · rw [if_neg hr] at h ⊢
        have e := hrec d s o (by simpa using hr)
        rw [e] at h ⊢
        exact oth_false hrec os d _ h
theorem thg_false {rec : List Int → List Int → Int → Rs} {c : List Int} {a : Int} (hrec : ∀ d s o, (rec d s o).1 = false → (rec d s o).2.1 = d) : ∀ (xs d s : List Int), (thgF rec c a xs d s).1 = false → (thgF rec c a xs d s).2.1 = d
  | [], d, s, _ => rfl
  | x :: xs, d, s, h => by
    rw [thg_cons] at h ⊢
    by_cases hc : (d.count x : Int) < lat c x
    · rw [if_pos hc] at h; cases h
    · rw [if_neg hc] at h ⊢
      unfold nx1 at h ⊢
      by_cases hr : (othF rec a x (holdF d x) d s).1 = true
      · rw [if_pos hr, hr] at h; cases h
      · rw [if_neg hr] at h ⊢
        have e := oth_false hrec _ d s (by simpa using hr)
        rw [e] at h ⊢
        exact thg_false hrec xs d _ h
theorem giv_false {c : List Int} {may : List (List Int)} : ∀ (f : Nat) (d s : List Int) (a : Int), (givF c may f d s a).1 = false → (givF c may f d s a).2.1 = d
  | 0, _, _, _, _ => rfl
  | f + 1, d, s, a, h => thg_false (fun d s o => giv_false f d s o) _ d (s ++ [a]) h
theorem oth_sub {rec : List Int → List Int → Int → Rs} {a x : Int} (hrec : ∀ d s o, ∀ v ∈ s, v ∈ (rec d s o).2.2) : ∀ (os d s : List Int), ∀ v ∈ s, v ∈ (othF rec a x os d s).2.2
  | [], d, s, v, h => h
  | o :: os, d, s, v, h => by
    rw [oth_cons]
    by_cases hs : s.contains o = true
    · rw [if_pos hs]; exact oth_sub hrec os d s v h
    · rw [if_neg hs]
      unfold nx2
      by_cases hr : (rec d s o).1 = true
      · rw [if_pos hr]; exact hrec d s o v h
      · rw [if_neg hr]; exact oth_sub hrec os _ _ v (hrec d s o v h)
theorem thg_sub {rec : List Int → List Int → Int → Rs} {c : List Int} {a : Int} (hrec : ∀ d s o, ∀ v ∈ s, v ∈ (rec d s o).2.2) : ∀ (xs d s : List Int), ∀ v ∈ s, v ∈ (thgF rec c a xs d s).2.2
  | [], d, s, v, h => h
  | x :: xs, d, s, v, h => by
    rw [thg_cons]
    by_cases hc : (d.count x : Int) < lat c x
    · rw [if_pos hc]; exact h
    · rw [if_neg hc]
      unfold nx1
      by_cases hr : (othF rec a x (holdF d x) d s).1 = true
      · rw [if_pos hr]; exact oth_sub hrec _ d s v h
      · rw [if_neg hr]; exact thg_sub hrec xs _ _ v (oth_sub hrec _ d s v h)
theorem giv_sub {c : List Int} {may : List (List Int)} : ∀ (f : Nat) (d s : List Int) (a : Int), ∀ v ∈ s, v ∈ (givF c may f d s a).2.2
  | 0, _, _, _, _, h => h
  | f + 1, d, s, a, v, h => thg_sub (fun d s o => giv_sub f d s o) _ d (s ++ [a]) v (List.mem_append_left _ h)
def NoOk (c : List Int) (may : List (List Int)) (d : List Int) : Prop := ∀ a : Int, 0 ≤ a → a < may.length → (c.length : Int) ∈ may.getD a.toNat [] → lat d a = c.length
structure Tr2 (c : List Int) (may : List (List Int)) (s : List Int) (a : Int) (d d' : List Int) : Prop where
  z : ∃ z : Int, (d.count z : Int) < lat c z ∧ 0 ≤ z ∧ z < c.length ∧ ∀ y, (d'.count y : Int) + (if lat d a = y then 1 else 0) = d.count y + (if z = y then 1 else 0)
  keep : ∀ b : Int, 0 ≤ b → b < d.length → b ∈ s → b ≠ a → lat d' b = lat d b
  may' : ∀ b : Int, 0 ≤ b → b < d.length → lat d' b = lat d b ∨ lat d' b ∈ may.getD b.toNat []
  self : lat d' a ∈ may.getD a.toNat []
  dl : d'.length = d.length
theorem oth_true {c : List Int} {may : List (List Int)} {rec : List Int → List Int → Int → Rs} {a x : Int} (a0 : 0 ≤ a) (a1 : a < may.length) (hx : x ∈ may.getD a.toNat []) (hf : ∀ d s y, (rec d s y).1 = false → (rec d s y).2.1 = d) (hs : ∀ d s y, ∀ v ∈ s, v ∈ (rec d s y).2.2)
    (hrec : ∀ (d s : List Int) (o : Int), d.length = may.length → NoOk c may d → 0 ≤ o → o < d.length → o ∉ s → (c.length : Int) ∉ may.getD o.toNat [] → (rec d s o).1 = true → Tr2 c may s o d (rec d s o).2.1) :
    ∀ (os d s : List Int), d.length = may.length → NoOk c may d → a ∈ s → (∀ o ∈ os, (0 ≤ o ∧ o < d.length ∧ (c.length : Int) ∉ may.getD o.toNat []) ∧ lat d o = x) → (othF rec a x os d s).1 = true → Tr2 c may s a d (othF rec a x os d s).2.1
  | [], d, s, _, _, _, _, h => by cases h
  | o :: os, d, s, dl, no, ha, hos, h => by
    rw [oth_cons] at h ⊢
    by_cases hso : s.contains o = true
    · rw [if_pos hso] at h ⊢
      exact oth_true a0 a1 hx hf hs hrec os d s dl no ha (fun o' h' => hos o' (.tail _ h')) h
    · rw [if_neg hso] at h ⊢
      have ons : o ∉ s := by simpa using hso
      have ho := hos o (.head _)
      unfold nx2 at h ⊢
      by_cases hr : (rec d s o).1 = true
      · rw [if_pos hr] at h ⊢
        have T := hrec d s o dl no ho.1.1 ho.1.2.1 ons ho.1.2.2 hr
        obtain ⟨z, z1, z2, z3, z4⟩ := T.z
        have ad : a < d.length := by rw [dl]; exact a1
        have ao : a ≠ o := fun e => ons (e ▸ ha)
        have ka := T.keep a a0 ad ha ao
        refine ⟨⟨z, z1, z2, z3, fun y => ?_⟩, fun b b0 b1 hb hn => ?_, fun b b0 b1 => ?_, ?_, by rw [List.length_set]; exact T.dl⟩
        · have g := lat_get (d := (rec d s o).2.1) a0 (by rw [T.dl]; exact ad)
          rw [ka] at g
          have c1 := count_setI (x := y) (v := x) g
          have c2 := z4 y
          rw [ho.2] at c2
          show (((rec d s o).2.1.set a.toNat x).count y : Int) + _ = _
          omega
        · rw [lat_set a0 b0 (by rw [T.dl]; exact b1), if_neg (fun e => hn e.symm)]
          exact T.keep b b0 b1 hb (fun e => ons (e ▸ hb))
        · rw [lat_set a0 b0 (by rw [T.dl]; exact b1)]
          by_cases e : a = b
          · rw [if_pos e]
            exact .inr (e ▸ hx)
          · rw [if_neg e]; exact T.may' b b0 b1
        · rw [lat_set a0 a0 (by rw [T.dl]; exact ad), if_pos rfl]
          exact hx
      · rw [if_neg hr] at h ⊢
        have e := hf d s o (by simpa using hr)
        rw [e] at h ⊢
        have T := oth_true a0 a1 hx hf hs hrec os d _ dl no (hs d s o a ha) (fun o' h' => hos o' (.tail _ h')) h
        exact ⟨T.z, fun b b0 b1 hb hn => T.keep b b0 b1 (hs d s o b hb) hn, T.may', T.self, T.dl⟩
theorem hold_all {c : List Int} {may : List (List Int)} {d : List Int} (dl : d.length = may.length) (no : NoOk c may d) {x : Int} (x1 : x < c.length) : ∀ o ∈ holdF d x, (0 ≤ o ∧ o < d.length ∧ (c.length : Int) ∉ may.getD o.toNat []) ∧ lat d o = x := fun o ho => by
  obtain ⟨⟨o0, o1⟩, e⟩ := mem_hold.mp ho
  exact ⟨⟨o0, o1, fun z => by have := no o o0 (by rw [← dl]; exact o1) z; omega⟩, e⟩
theorem thg_true {c : List Int} {may : List (List Int)} {rec : List Int → List Int → Int → Rs} {a : Int} (a0 : 0 ≤ a) (a1 : a < may.length) (hf : ∀ d s y, (rec d s y).1 = false → (rec d s y).2.1 = d) (hs : ∀ d s y, ∀ v ∈ s, v ∈ (rec d s y).2.2)
    (hrec : ∀ (d s : List Int) (o : Int), d.length = may.length → NoOk c may d → 0 ≤ o → o < d.length → o ∉ s → (c.length : Int) ∉ may.getD o.toNat [] → (rec d s o).1 = true → Tr2 c may s o d (rec d s o).2.1) :
    ∀ (xs d s : List Int), d.length = may.length → NoOk c may d → a ∈ s → (∀ x ∈ xs, (0 ≤ x ∧ x < c.length) ∧ x ∈ may.getD a.toNat []) → (thgF rec c a xs d s).1 = true → Tr2 c may s a d (thgF rec c a xs d s).2.1
  | [], d, s, _, _, _, _, h => by cases h
  | x :: xs, d, s, dl, no, ha, hxs, h => by
    have hx := hxs x (.head _)
    have ad : a < d.length := by rw [dl]; exact a1
    rw [thg_cons] at h ⊢
    by_cases hc : (d.count x : Int) < lat c x
    · rw [if_pos hc]
      refine ⟨⟨x, hc, hx.1.1, hx.1.2, fun y => count_setI (lat_get a0 ad)⟩, fun b b0 b1 _ hn => ?_, fun b b0 b1 => ?_, ?_, List.length_set⟩
      · rw [lat_set a0 b0 b1, if_neg (fun e => hn e.symm)]
      · rw [lat_set a0 b0 b1]
        by_cases e : a = b
        · rw [if_pos e]; exact .inr (e ▸ hx.2)
        · rw [if_neg e]; exact .inl rfl
      · rw [lat_set a0 a0 ad, if_pos rfl]; exact hx.2
    · rw [if_neg hc] at h ⊢
      unfold nx1 at h ⊢
      by_cases hr : (othF rec a x (holdF d x) d s).1 = true
      · rw [if_pos hr]
        exact oth_true a0 a1 hx.2 hf hs hrec _ d s dl no ha (hold_all dl no hx.1.2) hr
      · rw [if_neg hr] at h ⊢
        have e := oth_false hf _ d s (by simpa using hr)
        rw [e] at h ⊢
        have T := thg_true a0 a1 hf hs hrec xs d _ dl no (oth_sub hs _ d s a ha) (fun x' h' => hxs x' (.tail _ h')) h
        exact ⟨T.z, fun b b0 b1 hb hn => T.keep b b0 b1 (oth_sub hs _ d s b hb) hn, T.may', T.self, T.dl⟩
theorem giv_true {c : List Int} {may : List (List Int)} (io : InOk c may) : ∀ (f : Nat) (d s : List Int) (a : Int), d.length = may.length → NoOk c may d → 0 ≤ a → a < d.length → a ∉ s → (c.length : Int) ∉ may.getD a.toNat [] → (givF c may f d s a).1 = true → Tr2 c may s a d (givF c may f d s a).2.1
  | 0, _, _, _, _, _, _, _, _, _, h => by cases h
  | f + 1, d, s, a, dl, no, a0, a1, na, nn, h => by
    have a1' : a < may.length := by rw [← dl]; exact a1
    have T := thg_true a0 a1' (fun d s y => giv_false f d s y) (fun d s y => giv_sub f d s y) (fun d s o h1 h2 h3 h4 h5 h6 h7 => giv_true io f d s o h1 h2 h3 h4 h5 h6 h7) (may.getD a.toNat []) d (s ++ [a]) dl no (List.mem_append_right _ (.head _)) (fun x hx => ⟨(row_in io a0 a1' nn).2 x hx, hx⟩) h
    exact ⟨T.z, fun b b0 b1 hb hn => T.keep b b0 b1 (List.mem_append_left _ hb) hn, T.may', T.self, T.dl⟩
def Dn (c : List Int) (may : List (List Int)) (d s : List Int) (b : Int) : Prop := (c.length : Int) ∉ may.getD b.toNat [] ∧ ∀ x ∈ may.getD b.toNat [], ¬ (d.count x : Int) < lat c x ∧ ∀ o : Int, 0 ≤ o → o < d.length → lat d o = x → o ∈ s
structure Fl (c : List Int) (may : List (List Int)) (d s s' : List Int) : Prop where
  ok : GvOk c may d s'
  sub : ∀ v ∈ s, v ∈ s'
  len : s.length ≤ s'.length
  new : ∀ b ∈ s', b ∈ s ∨ Dn c may d s' b
theorem Dn.mono {c : List Int} {may : List (List Int)} {d s s' : List Int} {b : Int} (h : Dn c may d s b) (e : ∀ v ∈ s, v ∈ s') : Dn c may d s' b := ⟨h.1, fun x hx => ⟨(h.2 x hx).1, fun o o0 o1 ho => e o ((h.2 x hx).2 o o0 o1 ho)⟩⟩
theorem Fl.trans {c : List Int} {may : List (List Int)} {d s s1 s2 : List Int} (h1 : Fl c may d s s1) (h2 : Fl c may d s1 s2) : Fl c may d s s2 :=
  ⟨h2.ok, fun v hv => h2.sub v (h1.sub v hv), Nat.le_trans h1.len h2.len, fun b hb => (h2.new b hb).elim (fun z => (h1.new b z).elim .inl fun y => .inr (y.mono h2.sub)) .inr⟩
theorem oth_fail {c : List Int} {may : List (List Int)} {rec : List Int → List Int → Int → Rs} {a x : Int} {f : Nat} {d : List Int} (hf : ∀ d s y, (rec d s y).1 = false → (rec d s y).2.1 = d)
    (hrec : ∀ (s : List Int) (o : Int), GvOk c may d s → 0 ≤ o → o < d.length → o ∉ s → (c.length : Int) ∉ may.getD o.toNat [] → may.length ≤ f + s.length → (rec d s o).1 = false → Fl c may d s (rec d s o).2.2 ∧ o ∈ (rec d s o).2.2) :
    ∀ (os s : List Int), GvOk c may d s → may.length ≤ f + s.length → (∀ o ∈ os, (0 ≤ o ∧ o < d.length ∧ (c.length : Int) ∉ may.getD o.toNat []) ∧ lat d o = x) → (othF rec a x os d s).1 = false → Fl c may d s (othF rec a x os d s).2.2 ∧ ∀ o ∈ os, o ∈ (othF rec a x os d s).2.2
  | [], s, ok, _, _, _ => ⟨⟨ok, fun _ z => z, Nat.le_refl _, fun b z => .inl z⟩, fun _ z => nomatch z⟩
  | o :: os, s, ok, fu, hos, h => by
    have ho := hos o (.head _)
    rw [oth_cons] at h ⊢
    by_cases hso : s.contains o = true
    · rw [if_pos hso] at h ⊢
      have ih := oth_fail hf hrec os s ok fu (fun o' h' => hos o' (.tail _ h')) h
      refine ⟨ih.1, fun o' h' => ?_⟩
      rcases List.mem_cons.mp h' with rfl | z
      · exact ih.1.sub _ (by simpa using hso)
      · exact ih.2 o' z
    · rw [if_neg hso] at h ⊢
      have ons : o ∉ s := by simpa using hso
      unfold nx2 at h ⊢
      by_cases hr : (rec d s o).1 = true
      · rw [if_pos hr] at h; cases h
      · rw [if_neg hr] at h ⊢
        have hr' : (rec d s o).1 = false := by simpa using hr
        have e := hf d s o hr'
        have q := hrec s o ok ho.1.1 ho.1.2.1 ons ho.1.2.2 fu hr'
        rw [e] at h ⊢
        have ih := oth_fail hf hrec os _ q.1.ok (Nat.le_trans fu (Nat.add_le_add_left q.1.len _)) (fun o' h' => hos o' (.tail _ h')) h
        refine ⟨q.1.trans ih.1, fun o' h' => ?_⟩
        rcases List.mem_cons.mp h' with rfl | z
        · exact ih.1.sub _ q.2
        · exact ih.2 o' z
theorem thg_fail {c : List Int} {may : List (List Int)} {rec : List Int → List Int → Int → Rs} {a : Int} {f : Nat} {d : List Int} (hf : ∀ d s y, (rec d s y).1 = false → (rec d s y).2.1 = d) (no : NoOk c may d)
    (hrec : ∀ (s : List Int) (o : Int), GvOk c may d s → 0 ≤ o → o < d.length → o ∉ s → (c.length : Int) ∉ may.getD o.toNat [] → may.length ≤ f + s.length → (rec d s o).1 = false → Fl c may d s (rec d s o).2.2 ∧ o ∈ (rec d s o).2.2) :
    ∀ (xs s : List Int), GvOk c may d s → may.length ≤ f + s.length → (∀ x ∈ xs, x < c.length) → (thgF rec c a xs d s).1 = false → Fl c may d s (thgF rec c a xs d s).2.2 ∧ ∀ x ∈ xs, ¬ (d.count x : Int) < lat c x ∧ ∀ o : Int, 0 ≤ o → o < d.length → lat d o = x → o ∈ (thgF rec c a xs d s).2.2
  | [], s, ok, _, _, _ => ⟨⟨ok, fun _ z => z, Nat.le_refl _, fun b z => .inl z⟩, fun _ z => nomatch z⟩
  | x :: xs, s, ok, fu, hxs, h => by
    rw [thg_cons] at h ⊢
    by_cases hc : (d.count x : Int) < lat c x
    · rw [if_pos hc] at h; cases h
    · rw [if_neg hc] at h ⊢
      unfold nx1 at h ⊢
      by_cases hr : (othF rec a x (holdF d x) d s).1 = true
      · rw [if_pos hr, hr] at h; cases h
      · rw [if_neg hr] at h ⊢
        have hr' : (othF rec a x (holdF d x) d s).1 = false := by simpa using hr
        have e := oth_false hf _ d s hr'
        have q := oth_fail hf hrec (holdF d x) s ok fu (hold_all ok.dl no (hxs x (.head _))) hr'
        rw [e] at h ⊢
        have ih := thg_fail hf no hrec xs _ q.1.ok (Nat.le_trans fu (Nat.add_le_add_left q.1.len _)) (fun o' h' => hxs o' (.tail _ h')) h
        refine ⟨q.1.trans ih.1, fun y hy => ?_⟩
        rcases List.mem_cons.mp hy with rfl | z
        · exact ⟨hc, fun o o0 o1 ho => ih.1.sub _ (q.2 o (mem_hold.mpr ⟨⟨o0, o1⟩, ho⟩))⟩
        · exact ih.2 y z
theorem giv_fail {c : List Int} {may : List (List Int)} (io : InOk c may) {d : List Int} : ∀ (f : Nat) (s : List Int) (a : Int), GvOk c may d s → 0 ≤ a → a < d.length → a ∉ s → (c.length : Int) ∉ may.getD a.toNat [] → may.length ≤ f + s.length → (givF c may f d s a).1 = false → Fl c may d s (givF c may f d s a).2.2 ∧ a ∈ (givF c may f d s a).2.2
  | 0, s, a, ok, a0, a1, na, nn, fu, h => by
    have a1' : a < may.length := by rw [← ok.dl]; exact a1
    have := seen_le (ok.see a0 a1' na).sr (ok.see a0 a1' na).sn
    rw [List.length_append, List.length_singleton] at this
    omega
  | f + 1, s, a, ok, a0, a1, na, nn, fu, h => by
    have a1' : a < may.length := by rw [← ok.dl]; exact a1
    have q := thg_fail (a := a) (fun d s y => giv_false f d s y) ok.no (fun s o h1 h2 h3 h4 h5 h6 h7 => giv_fail io f s o h1 h2 h3 h4 h5 h6 h7) (may.getD a.toNat []) (s ++ [a]) (ok.see a0 a1' na) (by rw [List.length_append, List.length_singleton]; omega) (fun x hx => ((row_in io a0 a1' nn).2 x hx).2) h
    refine ⟨⟨q.1.ok, fun v hv => q.1.sub v (List.mem_append_left _ hv), Nat.le_trans (by rw [List.length_append]; omega) q.1.len, fun b hb => ?_⟩, q.1.sub a (List.mem_append_right _ (.head _))⟩
    rcases q.1.new b hb with z | z
    · rcases List.mem_append.mp z with z | z
      · exact .inl z
      · rw [List.mem_singleton.mp z]
        exact .inr ⟨nn, q.2⟩
    · exact .inr z
structure Fo (n : Nat) (may : List (List Int)) (must d s s' : List Int) : Prop where
  ok : OtOk n may.length d s'
  sub : ∀ v ∈ s, v ∈ s'
  len : s.length ≤ s'.length
  new : ∀ y ∈ s', y ∈ s ∨ (y ∈ must ∧ ∀ a : Int, 0 ≤ a → a < may.length → y ∈ may.getD a.toNat [] → lat d a ∈ s')
theorem Fo.trans {n : Nat} {may : List (List Int)} {must d s s1 s2 : List Int} (h1 : Fo n may must d s s1) (h2 : Fo n may must d s1 s2) : Fo n may must d s s2 :=
  ⟨h2.ok, fun v hv => h2.sub v (h1.sub v hv), Nat.le_trans h1.len h2.len, fun b hb => (h2.new b hb).elim (fun z => (h1.new b z).elim .inl fun y => .inr ⟨y.1, fun a a0 a1 ha => h2.sub _ (y.2 a a0 a1 ha)⟩) .inr⟩
theorem outL_fail {n : Nat} {may : List (List Int)} {must : List Int} {rec : List Int → List Int → Int → Rs} {x : Int} {f : Nat} {d : List Int} (hmu : ∀ y ∈ must, 0 ≤ y ∧ y < (n : Int)) (hf : ∀ d s y, (rec d s y).1 = false → (rec d s y).2.1 = d)
    (hrec : ∀ (s : List Int) (y : Int), OtOk n may.length d s → 0 ≤ y → y < n → y ∉ s → y ∈ must → n ≤ f + s.length → (rec d s y).1 = false → Fo n may must d s (rec d s y).2.2 ∧ y ∈ (rec d s y).2.2) :
    ∀ (rs : List (List Int)) (a : Nat) (s : List Int), may.drop a = rs → OtOk n may.length d s → n ≤ f + s.length → (outL rec must x rs a d s).1 = false → Fo n may must d s (outL rec must x rs a d s).2.2 ∧ ∀ b : Nat, a ≤ b → b < may.length → x ∈ may.getD b [] → lat d b ∈ (outL rec must x rs a d s).2.2
  | [], a, s, hm, ok, fu, h => by
    refine ⟨⟨ok, fun _ z => z, Nat.le_refl _, fun b z => .inl z⟩, fun b h1 h2 _ => ?_⟩
    have : (may.drop a).length = 0 := by rw [hm]; rfl
    rw [List.length_drop] at this
    omega
  | r :: rs, a, s, hm, ok, fu, h => by
    have ha : a < may.length := by
      rcases Nat.lt_or_ge a may.length with z | z
      · exact z
      · rw [List.drop_of_length_le z] at hm; cases hm
    have hm2 : may[a] = r ∧ may.drop (a + 1) = rs := by
      rw [List.drop_eq_getElem_cons ha] at hm
      injection hm with e1 e2
      exact ⟨e1, e2⟩
    have hrow : may.getD a [] = r := by rw [List.getD_eq_getElem?_getD, List.getElem?_eq_getElem ha, hm2.1]; rfl
    have ea : (a : Int) + 1 = ((a + 1 : Nat) : Int) := by omega
    unfold outL at h ⊢
    by_cases h1 : (r.contains x && !s.contains (lat d a)) = true
    · rw [if_pos h1] at h ⊢
      rw [Bool.and_eq_true] at h1
      have hns : lat d a ∉ s := by simpa using h1.2
      by_cases h2 : must.contains (lat d a) = true
      · rw [if_pos h2] at h ⊢
        have h2' : lat d a ∈ must := by simpa using h2
        by_cases h3 : (rec d s (lat d a)).1 = true
        · rw [if_pos h3] at h; cases h
        · rw [if_neg h3] at h ⊢
          have h3' : (rec d s (lat d a)).1 = false := by simpa using h3
          have e := hf d s _ h3'
          have q := hrec s _ ok (hmu _ h2').1 (hmu _ h2').2 hns h2' fu h3'
          rw [e, ea] at h ⊢
          have ih := outL_fail hmu hf hrec rs (a + 1) _ hm2.2 q.1.ok (Nat.le_trans fu (Nat.add_le_add_left q.1.len _)) h
          refine ⟨q.1.trans ih.1, fun b b0 b1 hb => ?_⟩
          by_cases eb : a = b
          · rw [← eb]; exact ih.1.sub _ q.2
          · exact ih.2 b (by omega) b1 hb
      · rw [if_neg h2] at h; cases h
    · rw [if_neg h1] at h ⊢
      rw [ea] at h ⊢
      have ih := outL_fail hmu hf hrec rs (a + 1) s hm2.2 ok fu h
      refine ⟨ih.1, fun b b0 b1 hb => ?_⟩
      by_cases eb : a = b
      · subst eb
        rw [hrow] at hb
        refine ih.1.sub _ (Classical.byContradiction fun z => h1 ?_)
        rw [Bool.and_eq_true]
        exact ⟨by simpa using hb, by simpa using z⟩
      · exact ih.2 b (by omega) b1 hb
theorem outF_fail {n : Nat} {may : List (List Int)} {must : List Int} {d : List Int} (hmu : ∀ y ∈ must, 0 ≤ y ∧ y < (n : Int)) : ∀ (f : Nat) (s : List Int) (x : Int), OtOk n may.length d s → 0 ≤ x → x < n → x ∉ s → x ∈ must → n ≤ f + s.length → (outF may must f d s x).1 = false → Fo n may must d s (outF may must f d s x).2.2 ∧ x ∈ (outF may must f d s x).2.2
  | 0, s, x, ok, x0, x1, nx, hx, fu, h => by
    have := seen_le (ok.see x0 x1 nx).sr (ok.see x0 x1 nx).sn
    rw [List.length_append, List.length_singleton] at this
    omega
  | f + 1, s, x, ok, x0, x1, nx, hx, fu, h => by
    have q := outL_fail (x := x) hmu (fun d s y => outF_false f d s y) (fun s y h1 h2 h3 h4 h5 h6 h7 => outF_fail hmu f s y h1 h2 h3 h4 h5 h6 h7) may 0 (s ++ [x]) rfl (ok.see x0 x1 nx) (by rw [List.length_append, List.length_singleton]; omega) h
    refine ⟨⟨q.1.ok, fun v hv => q.1.sub v (List.mem_append_left _ hv), Nat.le_trans (by rw [List.length_append]; omega) q.1.len, fun b hb => ?_⟩, q.1.sub x (List.mem_append_right _ (.head _))⟩
    rcases q.1.new b hb with z | z
    · rcases List.mem_append.mp z with z | z
      · exact .inl z
      · rw [List.mem_singleton.mp z]
        exact .inr ⟨hx, fun a a0 a1 ha => by
          have := q.2 a.toNat (Nat.zero_le _) (by omega) ha
          rw [show ((a.toNat : Nat) : Int) = a by omega] at this
          exact this⟩
    · exact .inr z
theorem nodup_len : ∀ {L S : List Int}, L.Nodup → (∀ x ∈ L, x ∈ S) → L.length ≤ S.length
  | [], _, _, _ => Nat.zero_le _
  | x :: L, S, nd, h => by
    have n2 := List.nodup_cons.mp nd
    have hx := h x (.head _)
    have ih := nodup_len (L := L) (S := S.erase x) n2.2 fun y hy => (List.mem_erase_of_ne (show y ≠ x from fun e => n2.1 (e ▸ hy))).mpr (h y (.tail _ hy))
    rw [List.length_erase_of_mem hx] at ih
    have := List.length_pos_of_mem hx
    rw [List.length_cons]
    omega
theorem filt_cons {k : Int} {N : List Int} (h : k ∉ N) : ∀ d : List Int, (d.filter fun y => (k :: N).contains y).length = d.count k + (d.filter fun y => N.contains y).length
  | [] => rfl
  | y :: d => by
    have ih := filt_cons h d
    rw [List.filter_cons, List.filter_cons, List.count_cons, List.contains_cons]
    by_cases e : y = k
    · subst e
      rw [show N.contains y = false by simpa using h, show (y == y) = true by simp, Bool.true_or, if_pos rfl, if_neg (c := (false = true)) (by simp), if_pos rfl, List.length_cons, ih]
      omega
    · rw [show (y == k) = false by simpa using e, Bool.false_or, if_neg (c := (false = true)) (by simp)]
      by_cases hn : N.contains y = true
      · rw [hn, if_pos rfl, if_pos rfl, List.length_cons, List.length_cons, ih]; omega
      · rw [if_neg hn, if_neg hn, ih]; omega
theorem sum_count (d : List Int) : ∀ {N : List Int}, N.Nodup → (N.map fun k => (d.count k : Int)).sum = ((d.filter fun y => N.contains y).length : Nat)
  | [], _ => by
    rw [List.filter_eq_nil_iff.mpr (fun y _ => by simp)]; rfl
  | k :: N, nd => by
    have n2 := List.nodup_cons.mp nd
    rw [List.map_cons, List.sum_cons, sum_count d n2.2, filt_cons n2.1]
    omega
theorem sum_le {f g : Int → Int} : ∀ {N : List Int}, (∀ k ∈ N, f k ≤ g k) → (N.map f).sum ≤ (N.map g).sum
  | [], _ => Int.le_refl _
  | k :: N, h => by
    have := sum_le (f := f) (g := g) (N := N) fun y hy => h y (.tail _ hy)
    have := h k (.head _)
    rw [List.map_cons, List.map_cons, List.sum_cons, List.sum_cons]; omega
theorem sum_lt {f g : Int → Int} {x : Int} : ∀ {N : List Int}, (∀ k ∈ N, f k ≤ g k) → x ∈ N → f x < g x → (N.map f).sum < (N.map g).sum
  | k :: N, h, hx, lt => by
    have h1 := sum_le (f := f) (g := g) (N := N) fun y hy => h y (.tail _ hy)
    have h2 := h k (.head _)
    rw [List.map_cons, List.map_cons, List.sum_cons, List.sum_cons]
    rcases List.mem_cons.mp hx with rfl | z
    · omega
    · have := sum_lt (f := f) (g := g) (N := N) (fun y hy => h y (.tail _ hy)) z lt
      omega
theorem sum_perm {f : Int → Int} {a b : List Int} (p : a.Perm b) : (a.map f).sum = (b.map f).sum := by
  induction p with
  | nil => rfl
  | cons x _ ih => rw [List.map_cons, List.map_cons, List.sum_cons, List.sum_cons, ih]
  | swap x y l => rw [List.map_cons, List.map_cons, List.map_cons, List.map_cons, List.sum_cons, List.sum_cons, List.sum_cons, List.sum_cons]; omega
  | trans _ _ h1 h2 => exact h1.trans h2
theorem map_nums {α : Type} (l : List α) (e : α) : l = (numsF l.length).map fun a => l.getD a.toNat e := by
  refine List.ext_getElem? fun n => ?_
  unfold numsF
  rw [List.map_map, List.getElem?_map]
  by_cases hn : n < l.length
  · rw [List.getElem?_range hn, List.getElem?_eq_getElem hn]
    show some l[n] = some (l.getD (0 + ((n : Nat) : Int)).toNat e)
    rw [Int.zero_add, Int.toNat_natCast, List.getD_eq_getElem?_getD, List.getElem?_eq_getElem hn]; rfl
  · rw [List.getElem?_eq_none (l := l) (by omega), List.getElem?_eq_none (l := List.range l.length) (by rw [List.length_range]; omega)]; rfl
theorem filt_nums {α : Type} (l : List α) (e : α) (p : α → Bool) : (l.filter p).length = ((numsF l.length).filter fun a => p (l.getD a.toNat e)).length := by
  have h := map_nums l e
  have : l.filter p = ((numsF l.length).map fun a => l.getD a.toNat e).filter p := by rw [← h]
  rw [this, List.filter_map, List.length_map]; rfl
structure AskU (c : List Int) (may : List (List Int)) (S : List Int) : Prop where
  ne : S ≠ []
  nd : S.Nodup
  rg : ∀ b ∈ S, (0 ≤ b ∧ b < may.length) ∧ (c.length : Int) ∉ may.getD b.toNat []
  sum : (((numsF c.length).filter fun k => S.any fun b => (may.getD b.toNat []).contains k).map (lat c)).sum < S.length
structure ThgU (c : List Int) (may : List (List Int)) (must S : List Int) : Prop where
  ne : S ≠ []
  nd : S.Nodup
  sub : ∀ y ∈ S, y ∈ must
  sum : ((may.filter fun r => r.any fun y => S.contains y).length : Int) < (S.map (lat c)).sum
theorem AskU.of {c : List Int} {may : List (List Int)} {d S : List Int} {a : Int} (dl : d.length = may.length) (nd : S.Nodup) (ha : a ∈ S) (hd : lat d a = -1) (rg : ∀ b ∈ S, 0 ≤ b ∧ b < may.length) (dn : ∀ b ∈ S, Dn c may d S b) : AskU c may S := by
  refine ⟨fun e => (by rw [e] at ha; cases ha), nd, fun b hb => ⟨rg b hb, (dn b hb).1⟩, ?_⟩
  have hN : ∀ k ∈ (numsF c.length).filter (fun k => S.any fun b => (may.getD b.toNat []).contains k), 0 ≤ k ∧ ∃ b ∈ S, k ∈ may.getD b.toNat [] := fun k hk => by
    obtain ⟨h1, h2⟩ := List.mem_filter.mp hk
    obtain ⟨b, hb, h3⟩ := List.any_eq_true.mp h2
    exact ⟨(mem_nums.mp h1).1, b, hb, by simpa using h3⟩
  have nN : ((numsF c.length).filter fun k => S.any fun b => (may.getD b.toNat []).contains k).Nodup := (nums_nodup _).filter _
  generalize (numsF c.length).filter (fun k => S.any fun b => (may.getD b.toNat []).contains k) = N at hN nN
  have h1 := sum_le (f := lat c) (g := fun k => (d.count k : Int)) (N := N) fun k hk => by
    obtain ⟨_, b, hb, h⟩ := hN k hk
    have := ((dn b hb).2 k h).1
    omega
  rw [sum_count d nN, filt_nums d 0] at h1
  have h2 : ((numsF d.length).filter fun o => N.contains (d.getD o.toNat 0)).length ≤ (S.erase a).length := nodup_len ((nums_nodup _).filter _) fun o ho => by
    obtain ⟨h3, h4⟩ := List.mem_filter.mp ho
    have h3' := mem_nums.mp h3
    have h4' : lat d o ∈ N := by
      unfold lat
      simpa using h4
    obtain ⟨h5, b, hb, h6⟩ := hN _ h4'
    have : o ≠ a := fun e => by rw [e, hd] at h5; omega
    exact (List.mem_erase_of_ne this).mpr (((dn b hb).2 _ h6).2 o h3'.1 h3'.2 rfl)
  rw [List.length_erase_of_mem ha] at h2
  have := List.length_pos_of_mem ha
  omega
theorem ThgU.of {c : List Int} {may : List (List Int)} {must d S : List Int} {x : Int} (dl : d.length = may.length) (nd : S.Nodup) (hx : x ∈ S) (lt : (d.count x : Int) < lat c x) (le : ∀ k ∈ S, (d.count k : Int) ≤ lat c k) (sub : ∀ y ∈ S, y ∈ must) (cl : ∀ y ∈ S, ∀ a : Int, 0 ≤ a → a < may.length → y ∈ may.getD a.toNat [] → lat d a ∈ S) : ThgU c may must S := by
  refine ⟨fun e => (by rw [e] at hx; cases hx), nd, sub, ?_⟩
  have h1 := sum_lt (f := fun k => (d.count k : Int)) (g := lat c) le hx lt
  rw [sum_count d nd, filt_nums d 0] at h1
  rw [filt_nums may []]
  refine Int.lt_of_le_of_lt (Int.ofNat_le.mpr ?_) h1
  rw [← dl, ← List.countP_eq_length_filter, ← List.countP_eq_length_filter]
  refine List.countP_mono_left fun a ha h => ?_
  have ha' := mem_nums.mp ha
  obtain ⟨y, hy, hy2⟩ := List.any_eq_true.mp h
  have := cl y (by simpa using hy2) a ha'.1 (by rw [← dl]; exact ha'.2) hy
  unfold lat at this
  simpa using this
def startF (n : Nat) (may : List (List Int)) : List Int := may.map fun r => if r.contains (n : Int) then (n : Int) else -1
def givL (c : List Int) (may : List (List Int)) : List Int → List Int → Rs
  | [], d => (true, d, [])
  | a :: as, d => if lat d a < 0 then (if (givF c may 7 d [] a).1 = true then givL c may as (givF c may 7 d [] a).2.1 else givF c may 7 d [] a) else givL c may as d
def outW (c : List Int) (may : List (List Int)) (must : List Int) (x : Int) : Nat → List Int → Rs
  | 0, d => (true, d, [])
  | m + 1, d => if (outF may must 7 d [] x).1 = true then outW c may must x m (outF may must 7 d [] x).2.1 else outF may must 7 d [] x
def outM (c : List Int) (may : List (List Int)) (must : List Int) : List Int → List Int → Rs
  | [], d => (true, d, [])
  | x :: xs, d => if (outW c may must x (lat c x - d.count x).toNat d).1 = true then outM c may must xs (outW c may must x (lat c x - d.count x).toNat d).2.1 else outW c may must x (lat c x - d.count x).toNat d
structure DOk (c : List Int) (may : List (List Int)) (d : List Int) : Prop where
  g : GvOk c may d []
  mem : ∀ a : Int, 0 ≤ a → a < may.length → lat d a = -1 ∨ lat d a ∈ may.getD a.toNat []
  cnt : ∀ k : Int, 0 ≤ k → k < c.length → (d.count k : Int) ≤ lat c k
theorem GvOk.fresh {c : List Int} {may : List (List Int)} {d s : List Int} (h : GvOk c may d s) : GvOk c may d [] := ⟨h.dl, h.dr, fun _ z => (nomatch z), .nil, h.no⟩
theorem row_mem {may : List (List Int)} {a : Int} (a0 : 0 ≤ a) (a1 : a < may.length) : may.getD a.toNat [] ∈ may := by
  rw [List.getD_eq_getElem?_getD, List.getElem?_eq_getElem (show a.toNat < may.length by omega)]
  exact List.getElem_mem _
theorem DOk.nn {c : List Int} {may : List (List Int)} {d : List Int} (h : DOk c may d) {a : Int} (a0 : 0 ≤ a) (a1 : a < may.length) (hd : lat d a < 0) : (c.length : Int) ∉ may.getD a.toNat [] := fun z => by
  have := h.g.no a a0 a1 z
  omega
theorem DOk.neg {c : List Int} {may : List (List Int)} (io : InOk c may) {d : List Int} (h : DOk c may d) {a : Int} (a0 : 0 ≤ a) (a1 : a < may.length) (hd : lat d a < 0) : lat d a = -1 := by
  rcases h.mem a a0 a1 with z | z
  · exact z
  · have := (io.row _ (row_mem a0 a1)).2 _ z
    omega
theorem DOk.give {c : List Int} {may : List (List Int)} (io : InOk c may) {d : List Int} (h : DOk c may d) {a : Int} (a0 : 0 ≤ a) (a1 : a < may.length) (hd : lat d a < 0) (ht : (givF c may 7 d [] a).1 = true) : DOk c may (givF c may 7 d [] a).2.1 ∧ (0 ≤ lat (givF c may 7 d [] a).2.1 a) ∧ ∀ b : Int, 0 ≤ b → b < may.length → 0 ≤ lat d b → 0 ≤ lat (givF c may 7 d [] a).2.1 b := by
  have nn := h.nn a0 a1 hd
  have hd' := h.neg io a0 a1 hd
  have kp := giv_ok io 7 d [] a h.g a0 a1 (fun z => nomatch z) nn
  have T := giv_true io 7 d [] a h.g.dl h.g.no a0 (by rw [h.g.dl]; exact a1) (fun z => nomatch z) nn ht
  have kf : GvOk c may (givF c may 7 d [] a).2.1 [] := kp.ok.fresh
  generalize (givF c may 7 d [] a).2.1 = d' at kf T
  have ge : ∀ b : Int, 0 ≤ b → b < may.length → ∀ x, x ∈ may.getD b.toNat [] → 0 ≤ x := fun b b0 b1 x hx => ((io.row _ (row_mem b0 b1)).2 x hx).1
  refine ⟨⟨kf, fun b b0 b1 => ?_, fun k k0 k1 => ?_⟩, ge a a0 a1 _ T.self, fun b b0 b1 hb => ?_⟩
  · rcases T.may' b b0 (by rw [h.g.dl]; exact b1) with z | z
    · rw [z]; exact h.mem b b0 b1
    · exact .inr z
  · obtain ⟨z, z1, z2, z3, z4⟩ := T.z
    have h1 := z4 k
    have h2 := h.cnt k k0 k1
    rw [if_neg (show ¬ lat d a = k by omega)] at h1
    by_cases e : z = k
    · rw [if_pos e] at h1
      rw [e] at z1
      omega
    · rw [if_neg e] at h1; omega
  · rcases T.may' b b0 (by rw [h.g.dl]; exact b1) with z | z
    · rw [z]; exact hb
    · exact ge b b0 b1 _ z
theorem DOk.short {c : List Int} {may : List (List Int)} (io : InOk c may) {d : List Int} (h : DOk c may d) {a : Int} (a0 : 0 ≤ a) (a1 : a < may.length) (hd : lat d a < 0) (ht : (givF c may 7 d [] a).1 = false) : AskU c may (givF c may 7 d [] a).2.2 := by
  have A6 := io.A6
  have nn := h.nn a0 a1 hd
  have q := giv_fail io 7 [] a h.g a0 (by rw [h.g.dl]; exact a1) (fun z => nomatch z) nn (by rw [List.length_nil]; omega) ht
  exact AskU.of h.g.dl q.1.ok.sn q.2 (h.neg io a0 a1 hd) q.1.ok.sr fun b hb => (q.1.new b hb).elim (fun z => nomatch z) id
theorem givL_ok {c : List Int} {may : List (List Int)} (io : InOk c may) : ∀ (as d : List Int), DOk c may d → (∀ a ∈ as, 0 ≤ a ∧ a < may.length) → ((givL c may as d).1 = true → DOk c may (givL c may as d).2.1 ∧ (∀ a ∈ as, 0 ≤ lat (givL c may as d).2.1 a) ∧ ∀ b : Int, 0 ≤ b → b < may.length → 0 ≤ lat d b → 0 ≤ lat (givL c may as d).2.1 b) ∧ ((givL c may as d).1 = false → AskU c may (givL c may as d).2.2)
  | [], d, h, _ => ⟨fun _ => ⟨h, fun _ z => (nomatch z), fun _ _ _ z => z⟩, fun z => by cases z⟩
  | a :: as, d, h, has => by
    have ha := has a (.head _)
    have hs : ∀ b ∈ as, 0 ≤ b ∧ b < may.length := fun b hb => has b (.tail _ hb)
    unfold givL
    by_cases hd : lat d a < 0
    · rw [if_pos hd]
      by_cases ht : (givF c may 7 d [] a).1 = true
      · rw [if_pos ht]
        have g := h.give io ha.1 ha.2 hd ht
        have ih := givL_ok io as _ g.1 hs
        refine ⟨fun z => ?_, ih.2⟩
        have q := ih.1 z
        refine ⟨q.1, fun b hb => ?_, fun b b0 b1 hb => q.2.2 b b0 b1 (g.2.2 b b0 b1 hb)⟩
        rcases List.mem_cons.mp hb with rfl | y
        · exact q.2.2 _ ha.1 ha.2 g.2.1
        · exact q.2.1 b y
      · rw [if_neg ht]
        exact ⟨fun z => absurd z ht, fun z => h.short io ha.1 ha.2 hd z⟩
    · rw [if_neg hd]
      have ih := givL_ok io as d h hs
      refine ⟨fun z => ?_, ih.2⟩
      have q := ih.1 z
      refine ⟨q.1, fun b hb => ?_, q.2.2⟩
      rcases List.mem_cons.mp hb with rfl | y
      · exact q.2.2 _ ha.1 ha.2 (by omega)
      · exact q.2.1 b y
theorem start_lat {n : Nat} {may : List (List Int)} {a : Int} (a0 : 0 ≤ a) (a1 : a < may.length) : lat (startF n may) a = if (may.getD a.toNat []).contains (n : Int) then (n : Int) else -1 := by
  unfold lat startF
  rw [List.getD_eq_getElem?_getD, List.getElem?_map, List.getD_eq_getElem?_getD, List.getElem?_eq_getElem (show a.toNat < may.length by omega)]; rfl
theorem start_ok {c : List Int} {may : List (List Int)} (io : InOk c may) (c0 : ∀ x ∈ c, 0 ≤ x) : DOk c may (startF c.length may) := by
  have hv : ∀ y ∈ startF c.length may, y = c.length ∨ y = -1 := fun y hy => by
    obtain ⟨r, hr, rfl⟩ := List.mem_map.mp hy
    split
    · exact .inl rfl
    · exact .inr rfl
  refine ⟨⟨List.length_map _, fun y hy => ?_, fun _ z => (nomatch z), .nil, fun a a0 a1 ha => ?_⟩, fun a a0 a1 => ?_, fun k k0 k1 => ?_⟩
  · rcases hv y hy with z | z <;> omega
  · rw [start_lat a0 a1, if_pos (by simpa using ha)]
  · rw [start_lat a0 a1]
    by_cases z : (may.getD a.toNat []).contains (c.length : Int) = true
    · rw [if_pos z]; exact .inr (by simpa using z)
    · rw [if_neg z]; exact .inl rfl
  · have : (startF c.length may).count k = 0 := List.count_eq_zero.mpr fun z => by
      rcases hv k z with y | y <;> omega
    rw [this]
    exact c0 _ (lat_mem k0 k1)
structure EOk (c : List Int) (may : List (List Int)) (d : List Int) : Prop where
  dl : d.length = may.length
  mem : ∀ a : Int, 0 ≤ a → a < may.length → lat d a ∈ may.getD a.toNat []
  cnt : ∀ k : Int, 0 ≤ k → k < c.length → (d.count k : Int) ≤ lat c k
theorem EOk.ot {c : List Int} {may : List (List Int)} (io : InOk c may) {d : List Int} (h : EOk c may d) : OtOk c.length may.length d [] := by
  refine ⟨h.dl, fun y hy => ?_, fun _ z => (nomatch z), .nil⟩
  obtain ⟨n, hn, e⟩ := List.getElem_of_mem hy
  have := h.mem n (by omega) (by rw [← h.dl]; omega)
  have hl : lat d (n : Nat) = y := by
    unfold lat
    rw [Int.toNat_natCast, List.getD_eq_getElem?_getD, List.getElem?_eq_getElem hn, e]; rfl
  rw [hl] at this
  have := (io.row _ (row_mem (a := n) (by omega) (by rw [← h.dl]; omega))).2 y this
  omega
theorem EOk.out {c : List Int} {may : List (List Int)} (io : InOk c may) {must d : List Int} (h : EOk c may d) (hmu : ∀ y ∈ must, 0 ≤ y ∧ y < (c.length : Int)) {x : Int} (hx : x ∈ must) (lt : (d.count x : Int) < lat c x) (ht : (outF may must 7 d [] x).1 = true) : EOk c may (outF may must 7 d [] x).2.1 ∧ ((outF may must 7 d [] x).2.1.count x : Int) = d.count x + 1 ∧ ∀ y ∈ must, (d.count y : Int) ≤ (outF may must 7 d [] x).2.1.count y := by
  have T := outF_true 7 d [] x h.dl ht
  generalize (outF may must 7 d [] x).2.1 = d' at T
  obtain ⟨z, z1, z2⟩ := T.z
  refine ⟨⟨T.dl.trans h.dl, fun a a0 a1 => ?_, fun k k0 k1 => ?_⟩, ?_, fun y hy => ?_⟩
  · rcases T.may' a a0 (by rw [h.dl]; exact a1) with y | y
    · rw [y]; exact h.mem a a0 a1
    · exact y
  · have h1 := z2 k
    have h2 := h.cnt k k0 k1
    by_cases e : x = k
    · subst e
      rw [if_pos rfl] at h1
      by_cases e2 : z = x
      · rw [if_pos e2] at h1; omega
      · rw [if_neg e2] at h1; omega
    · rw [if_neg e] at h1
      by_cases e2 : z = k
      · rw [if_pos e2] at h1; omega
      · rw [if_neg e2] at h1; omega
  · have h1 := z2 x
    rw [if_pos rfl, if_neg (show ¬ z = x from fun e => z1 (e ▸ hx))] at h1
    omega
  · have h1 := z2 y
    rw [if_neg (show ¬ z = y from fun e => z1 (e ▸ hy))] at h1
    by_cases e : x = y
    · rw [if_pos e] at h1; omega
    · rw [if_neg e] at h1; omega
theorem EOk.many {c : List Int} {may : List (List Int)} (io : InOk c may) {must d : List Int} (h : EOk c may d) (hmu : ∀ y ∈ must, 0 ≤ y ∧ y < (c.length : Int)) {x : Int} (hx : x ∈ must) (lt : (d.count x : Int) < lat c x) (ht : (outF may must 7 d [] x).1 = false) : ThgU c may must (outF may must 7 d [] x).2.2 := by
  have n6 := io.n6
  have q := outF_fail hmu 7 [] x (h.ot io) (hmu x hx).1 (hmu x hx).2 (fun z => nomatch z) hx (by rw [List.length_nil]; omega) ht
  exact ThgU.of h.dl q.1.ok.sn q.2 lt (fun k hk => h.cnt k (q.1.ok.sr k hk).1 (q.1.ok.sr k hk).2) (fun y hy => (q.1.new y hy).elim (fun z => nomatch z) (·.1)) fun y hy => (q.1.new y hy).elim (fun z => nomatch z) (·.2)
theorem outW_ok {c : List Int} {may : List (List Int)} (io : InOk c may) {must : List Int} (hmu : ∀ y ∈ must, 0 ≤ y ∧ y < (c.length : Int)) {x : Int} (hx : x ∈ must) : ∀ (m : Nat) (d : List Int), EOk c may d → m = (lat c x - d.count x).toNat → ((outW c may must x m d).1 = true → EOk c may (outW c may must x m d).2.1 ∧ lat c x ≤ (outW c may must x m d).2.1.count x ∧ ∀ y ∈ must, (d.count y : Int) ≤ (outW c may must x m d).2.1.count y) ∧ ((outW c may must x m d).1 = false → ThgU c may must (outW c may must x m d).2.2)
  | 0, d, h, hm => ⟨fun _ => ⟨h, (by show lat c x ≤ (d.count x : Int); omega), fun _ _ => Int.le_refl _⟩, fun z => by cases z⟩
  | m + 1, d, h, hm => by
    have lt : (d.count x : Int) < lat c x := by omega
    unfold outW
    by_cases ht : (outF may must 7 d [] x).1 = true
    · rw [if_pos ht]
      have g := h.out io hmu hx lt ht
      have ih := outW_ok io hmu hx m _ g.1 (by rw [g.2.1]; omega)
      refine ⟨fun z => ?_, ih.2⟩
      have q := ih.1 z
      exact ⟨q.1, q.2.1, fun y hy => Int.le_trans (g.2.2 y hy) (q.2.2 y hy)⟩
    · rw [if_neg ht]
      exact ⟨fun z => absurd z ht, fun z => h.many io hmu hx lt z⟩
theorem outM_ok {c : List Int} {may : List (List Int)} (io : InOk c may) {must : List Int} (hmu : ∀ y ∈ must, 0 ≤ y ∧ y < (c.length : Int)) : ∀ (xs d : List Int), EOk c may d → (∀ x ∈ xs, x ∈ must) → ((outM c may must xs d).1 = true → EOk c may (outM c may must xs d).2.1 ∧ (∀ x ∈ xs, lat c x ≤ (outM c may must xs d).2.1.count x) ∧ ∀ y ∈ must, (d.count y : Int) ≤ (outM c may must xs d).2.1.count y) ∧ ((outM c may must xs d).1 = false → ThgU c may must (outM c may must xs d).2.2)
  | [], d, h, _ => ⟨fun _ => ⟨h, fun _ z => (nomatch z), fun _ _ => Int.le_refl _⟩, fun z => by cases z⟩
  | x :: xs, d, h, hxs => by
    have hx := hxs x (.head _)
    have W := outW_ok io hmu hx _ d h rfl
    unfold outM
    generalize outW c may must x (lat c x - d.count x).toNat d = r at W
    by_cases ht : r.1 = true
    · rw [if_pos ht]
      have g := W.1 ht
      have ih := outM_ok io hmu xs _ g.1 fun y hy => hxs y (.tail _ hy)
      refine ⟨fun z => ?_, ih.2⟩
      have q := ih.1 z
      refine ⟨q.1, fun y hy => ?_, fun y hy => Int.le_trans (g.2.2 y hy) (q.2.2 y hy)⟩
      rcases List.mem_cons.mp hy with rfl | w
      · exact Int.le_trans g.2.1 (q.2.2 _ hx)
      · exact q.2.1 y w
    · rw [if_neg ht]
      exact ⟨fun z => absurd z ht, W.2⟩
def lookF (c : List Int) (may : List (List Int)) (must : List Int) : Nat × List Int :=
  if (givL c may (numsF may.length) (startF c.length may)).1 = true then
    (if (outM c may must must (givL c may (numsF may.length) (startF c.length may)).2.1).1 = true then (0, (outM c may must must (givL c may (numsF may.length) (startF c.length may)).2.1).2.1)
      else (2, sortI (outM c may must must (givL c may (numsF may.length) (startF c.length may)).2.1).2.2))
  else (1, sortI (givL c may (numsF may.length) (startF c.length may)).2.2)
structure IsDeal (c : List Int) (may : List (List Int)) (must d : List Int) : Prop where
  ok : EOk c may d
  full : ∀ y ∈ must, lat c y ≤ d.count y
structure IsAsk (c : List Int) (may : List (List Int)) (S : List Int) : Prop where
  u : AskU c may S
  lt : S.Pairwise (· < ·)
structure IsThg (c : List Int) (may : List (List Int)) (must S : List Int) : Prop where
  u : ThgU c may must S
  lt : S.Pairwise (· < ·)
theorem sort_lt {S : List Int} (nd : S.Nodup) : (sortI S).Pairwise (· < ·) := by
  have h1 := sortI_le S
  have h2 : (sortI S).Nodup := (sortI_perm S).nodup_iff.mpr nd
  have := h1.and h2
  exact this.imp fun h => by omega
theorem sort_mem {S : List Int} {x : Int} : x ∈ sortI S ↔ x ∈ S := (sortI_perm S).mem_iff
theorem AskU.sorted {c : List Int} {may : List (List Int)} {S : List Int} (h : AskU c may S) : IsAsk c may (sortI S) := by
  refine ⟨⟨fun e => h.ne ?_, (sortI_perm S).nodup_iff.mpr h.nd, fun b hb => h.rg b (sort_mem.mp hb), ?_⟩, sort_lt h.nd⟩
  · have := (sortI_perm S).length_eq
    rw [e] at this
    exact List.eq_nil_of_length_eq_zero this.symm
  · have : ((numsF c.length).filter fun k => (sortI S).any fun b => (may.getD b.toNat []).contains k) = (numsF c.length).filter fun k => S.any fun b => (may.getD b.toNat []).contains k := List.filter_congr fun k _ => by
      rw [Bool.eq_iff_iff, List.any_eq_true, List.any_eq_true]
      exact ⟨fun ⟨b, h1, h2⟩ => ⟨b, sort_mem.mp h1, h2⟩, fun ⟨b, h1, h2⟩ => ⟨b, sort_mem.mpr h1, h2⟩⟩
    rw [this, (sortI_perm S).length_eq]
    exact h.sum
theorem ThgU.sorted {c : List Int} {may : List (List Int)} {must S : List Int} (h : ThgU c may must S) : IsThg c may must (sortI S) := by
  refine ⟨⟨fun e => h.ne ?_, (sortI_perm S).nodup_iff.mpr h.nd, fun b hb => h.sub b (sort_mem.mp hb), ?_⟩, sort_lt h.nd⟩
  · have := (sortI_perm S).length_eq
    rw [e] at this
    exact List.eq_nil_of_length_eq_zero this.symm
  · have : (may.filter fun r => r.any fun y => (sortI S).contains y) = may.filter fun r => r.any fun y => S.contains y := List.filter_congr fun r _ => by
      congr 1
      funext y
      rw [Bool.eq_iff_iff]
      simp only [List.contains_iff_mem]
      exact sort_mem
    rw [this, sum_perm (sortI_perm S)]
    exact h.sum
theorem giv_eok {c : List Int} {may : List (List Int)} (io : InOk c may) (c0 : ∀ x ∈ c, 0 ≤ x) (h : (givL c may (numsF may.length) (startF c.length may)).1 = true) : EOk c may (givL c may (numsF may.length) (startF c.length may)).2.1 := by
  have q := (givL_ok io (numsF may.length) _ (start_ok io c0) fun a ha => mem_nums.mp ha).1 h
  refine ⟨q.1.g.dl, fun a a0 a1 => ?_, q.1.cnt⟩
  rcases q.1.mem a a0 a1 with z | z
  · have := q.2.1 a (mem_nums.mpr ⟨a0, a1⟩)
    omega
  · exact z
theorem look_ok {c : List Int} {may : List (List Int)} (io : InOk c may) (c0 : ∀ x ∈ c, 0 ≤ x) {must : List Int} (hmu : ∀ y ∈ must, 0 ≤ y ∧ y < (c.length : Int)) : ((lookF c may must).1 = 0 ∧ IsDeal c may must (lookF c may must).2) ∨ ((lookF c may must).1 = 1 ∧ IsAsk c may (lookF c may must).2) ∨ ((lookF c may must).1 = 2 ∧ IsThg c may must (lookF c may must).2) := by
  have q := (givL_ok io (numsF may.length) _ (start_ok io c0) fun a ha => mem_nums.mp ha).2
  have e := giv_eok io c0
  unfold lookF
  generalize givL c may (numsF may.length) (startF c.length may) = g at q e
  by_cases hg : g.1 = true
  · rw [if_pos hg]
    have o := outM_ok io hmu must g.2.1 (e hg) fun _ z => z
    generalize outM c may must must g.2.1 = r at o
    by_cases hr : r.1 = true
    · rw [if_pos hr]
      exact .inl ⟨rfl, (o.1 hr).1, (o.1 hr).2.1⟩
    · rw [if_neg hr]
      exact .inr (.inr ⟨rfl, (o.2 (by simpa using hr)).sorted⟩)
  · rw [if_neg hg]
    exact .inr (.inl ⟨rfl, (q (by simpa using hg)).sorted⟩)
end
end K33
namespace K33
open PySem L2
section
variable {P : Program} {w : World} {K : PySem.W.Frag} {mg : Str → Option Value} {base : Heap}
def tPaper (x : Str) (S : List Int) : Tr := .tp [tn, .tp [tx x, tInts S]]
def tOut (r : Rs) : Tr := if r.1 = true then .tp [tInts r.2.1, tn] else tPaper "things" (sortI r.2.2)
def tGiv (c : List Int) (may : List (List Int)) (must : List Int) (r : Rs) : Tr := if r.1 = true then tOut (outM c may must must r.2.1) else tPaper "askers" (sortI r.2.2)
def tLook (c : List Int) (may : List (List Int)) (must : List Int) : Tr := tGiv c may must (givL c may (numsF may.length) (startF c.length may))
structure LkOk (c : List Int) (may : List (List Int)) (must : List Int) : Prop where
  io : InOk c may
  c0 : ∀ x ∈ c, 0 ≤ x
  mu : ∀ y ∈ must, 0 ≤ y ∧ y < (c.length : Int)
def rLook (dd : List Dv) (t : Tr) : Prop := ∃ c may must, LkOk c may must ∧ dd = [dis c, .lst (may.map dis), dis must] ∧ t = tLook c may must
theorem paper_end {K : PySem.W.Frag} {G H Hc : Hp} {l p1 p2 : Addr} {x : Str} {S ms : List Int} {Q : VK} (s : Same G H) (sH : Same H Hc) (pm : ms.Perm S) (pw : ms.Pairwise (· ≤ ·)) (hl : Hc l = none) (h1 : upd Hc l (.lst (ms.map V.int)) p1 = none) (h2 : upd (upd Hc l (.lst (ms.map V.int))) p1 (.tup [.str x, .ref l]) p2 = none) (k : Kv K G H (tPaper x (sortI S)) Q) : Q (.ref p2) (upd (upd (upd Hc l (.lst (ms.map V.int))) p1 (.tup [.str x, .ref l])) p2 (.tup [.non, .ref p1])) := by
  have em : ms = sortI S := sort_unique (pm.trans (sortI_perm S).symm) pw (sortI_le S)
  subst em
  have n1 : p1 ≠ l := fun e => by rw [e, upd_same] at h1; cases h1
  have n2 : p2 ≠ p1 := fun e => by rw [e, upd_same] at h2; cases h2
  have n3 : p2 ≠ l := fun e => by rw [e, upd_ne (Ne.symm n1), upd_same] at h2; cases h2
  have hc1 : Hc p1 = none := by rw [upd_ne n1] at h1; exact h1
  have hc2 : Hc p2 = none := by rw [upd_ne n2, upd_ne n3] at h2; exact h2
  have sF : Same H (upd (upd (upd Hc l (.lst ((sortI S).map V.int))) p1 (.tup [.str x, .ref l])) p2 (.tup [.non, .ref p1])) := ((sH.trans (.new hl)).trans (.new h1)).trans (.new h2)
  have ow : OwL K G (upd (upd (upd Hc l (.lst ((sortI S).map V.int))) p1 (.tup [.str x, .ref l])) p2 (.tup [.non, .ref p1])) ((sortI S).map fun n => .fz (di n)) ((sortI S).map V.int) [] := by
    have := HvL.owl (K := K) (G := G) (H := upd (upd (upd Hc l (.lst ((sortI S).map V.int))) p1 (.tup [.str x, .ref l])) p2 (.tup [.non, .ref p1])) (ints_hvl (ns := sortI S))
    rw [List.map_map] at this
    exact this
  refine k (.ref p2) G _ [p2, p1, l] ⟨Same.refl _, sF, s.trans sF, fun a h h' => absurd h h'⟩ ⟨p2, _, [p1, l], rfl, upd_same, ⟨.non, _, [], [p1, l], rfl, rfl, ⟨rfl, rfl, rfl⟩, .ref p1, _, [p1, l], [], rfl, rfl, ⟨p1, _, [l], rfl, by rw [upd_ne (Ne.symm n2), upd_same], ⟨.str x, _, [], [l], rfl, rfl, ⟨rfl, rfl, rfl⟩, .ref l, _, [l], [], rfl, rfl, ⟨l, _, [], rfl, by rw [upd_ne (Ne.symm n3), upd_ne (Ne.symm n1), upd_same], ow, rfl⟩, rfl, rfl⟩, rfl⟩, rfl, rfl⟩, rfl⟩ ⟨fun a ha => ?_, fun a ha => ?_, ?_⟩
  · rcases List.mem_cons.mp ha with rfl | ha
    · exact sH.free hc2
    · rcases List.mem_cons.mp ha with rfl | ha
      · exact sH.free hc1
      · rw [List.mem_singleton.mp ha]; exact sH.free hl
  · rcases List.mem_cons.mp ha with rfl | ha
    · exact s.free (sH.free hc2)
    · rcases List.mem_cons.mp ha with rfl | ha
      · exact s.free (sH.free hc1)
      · rw [List.mem_singleton.mp ha]; exact s.free (sH.free hl)
  · simp [n1, n2, n3]
theorem deal_end {K : PySem.W.Frag} {G H Hc : Hp} {l p2 : Addr} {d : List Int} {Q : VK} (s : Same G H) (sH : Same H Hc) (hl0 : H l = none) (hd : ∀ y ∈ d, 0 ≤ y) (hl : Hc l = some (.lst (d.map vI))) (h2 : Hc p2 = none) (k : Kv K G H (.tp [tInts d, tn]) Q) : Q (.ref p2) (upd Hc p2 (.tup [.ref l, .non])) := by
  have e : d.map vI = d.map V.int := List.map_congr_left fun y hy => vI_pos (hd y hy)
  rw [e] at hl
  have n2 : p2 ≠ l := fun e => by rw [e, hl] at h2; cases h2
  have sF : Same H (upd Hc p2 (.tup [.ref l, .non])) := sH.trans (.new h2)
  have ow : OwL K G (upd Hc p2 (.tup [.ref l, .non])) (d.map fun n => .fz (di n)) (d.map V.int) [] := by
    have := HvL.owl (K := K) (G := G) (H := upd Hc p2 (.tup [.ref l, .non])) (ints_hvl (ns := d))
    rw [List.map_map] at this
    exact this
  refine k (.ref p2) G _ [p2, l] ⟨Same.refl _, sF, s.trans sF, fun a h h' => absurd h h'⟩ ⟨p2, _, [l], rfl, upd_same, ⟨.ref l, _, [l], [], rfl, rfl, ⟨l, _, [], rfl, by rw [upd_ne (Ne.symm n2)]; exact hl, ow, rfl⟩, .non, _, [], [], rfl, rfl, ⟨rfl, rfl, rfl⟩, rfl, rfl⟩, rfl⟩ ⟨fun a ha => ?_, fun a ha => ?_, ?_⟩
  · rcases List.mem_cons.mp ha with rfl | ha
    · exact sH.free h2
    · rw [List.mem_singleton.mp ha]; exact hl0
  · rcases List.mem_cons.mp ha with rfl | ha
    · exact s.free (sH.free h2)
    · rw [List.mem_singleton.mp ha]; exact s.free hl0
  · simp [n2]
theorem flats_ow {α : Type} {K : PySem.W.Frag} {G H : Hp} {g : α → V} : ∀ {o : List α} {xs : List V} {fq : List Addr}, OwL K G H (o.map fun n => .fz (.fl (g n))) xs fq → xs = o.map g ∧ fq = []
  | [], _, _, h => h
  | n :: o, xs, fq, ⟨v, r, f1, f2, h1, h2, h3, h4⟩ => by
    obtain ⟨rfl, h5⟩ := h3
    obtain ⟨e1, e2⟩ := flats_ow h4
    subst h1 h2 e1 e2
    exact ⟨by rw [hvi h5]; rfl, rfl⟩
abbrev s_looked_for : Stmt := top 3
theorem sc_looked_for : FnScope ["counts", "may", "must", "nothing", "deal", "asker", "seen", "thing"] ["counts", "may", "must"] (defScope s_looked_for) := ⟨rfl, rfl, rfl, by decide +kernel, rfl, by decide +kernel, by decide +kernel⟩
theorem ok_looked_for {f f1 f2 : Addr} {fd fd1 fd2 : FuncData} {k : Nat} (F : Fun K "looked_for" "looked_for" s_looked_for f fd) (T : Txt mg) (K_give_thing : Kn P w K mg base CX0 (k + 8) "give_thing" f1 fd1 ["counts", "may", "deal", "asker", "seen"] (spGive K 7)) (K_deal_out : Kn P w K mg base CX0 (k + 8) "deal_out" f2 fd2 ["may", "must", "deal", "thing", "seen"] (spOut K 7)) : FnOk P w K mg base CX0 (k + 9) f fd ["counts", "may", "must"] (spT K rLook) := by
  refine F.ok sc_looked_for (fun vs H Q E h => by obtain ⟨_, _, _, _, hv, ⟨_, _, _, _, rfl, _⟩, _⟩ := h; exact hv.length.symm) fun cdv A outer s H vs Q E hr h => ?_
  obtain ⟨G, dd, t, sGH, hvs, ⟨c, may, must, lk, rfl, rfl⟩, fin⟩ := h
  obtain ⟨vc, r1, rfl, hc, vm, r2, rfl, hmv, vu, r3, rfl, huv, rfl⟩ := hvs
  have big : 1000 < sizeLine := by decide
  have A6 := lk.io.A6
  have n6 := lk.io.n6
  obtain ⟨τ2, x2, y2⟩ : ∃ τ, (∀ i, PS ((famD P w K mg base ["counts", "may", "must", "nothing", "deal", "asker", "seen", "thing"] "looked_for" (defScope s_looked_for) f (k + 8)).cx i) ((defBody s_looked_for).getD 1 (.Pass ⟨0, 0, 0, 0⟩)) τ) ∧ ∀ D σ G H, Same G H → RpD K G [none, some (.fz (.lst (may.map dis))), none, some (ti c.length), none, none, none, none] σ → (∀ v G' H' fq, Step G H G' H' → Ow K G' H' (.ow (may.map fun r => .fz (.fl (vI (if r.contains (c.length : Int) then (c.length : Int) else -1))))) v fq → Nw H G' fq → D.nx (σ.set 4 (some v)) H') → τ D σ H :=
    lc_put 4 (elcm (own := ["some"]) (fr := [3]) may dis (fun r => .fz (.fl (vI (if r.contains (c.length : Int) then (c.length : Int) else -1)))) (evi_list (ev_nm 1 rfl) rfl) (evg_nm 0 (fun _ => by show List.Nodup (["some", "nothing"] : List Str); decide)) (by decide) (by omega) (fun r hr => ⟨_, rfl, by
      exact ev_if (et_in (ev_nm 1 rfl) (ev_nm 0 rfl) rfl (by with_unfolding_all rfl)) (fun h => Ev.to (ev_nm 1 rfl) (by rw [if_pos h, vI_pos (by omega)])) (fun h => Ev.to ev_non (by rw [if_neg (by rw [h]; decide), vI_neg (by omega)]))⟩) (fun dd => by rcases dd with _ | ⟨_, _⟩ <;> rfl)) (fun i => lcs ⟨rfl, rfl, by decide +kernel, by decide +kernel, by decide +kernel, by decide +kernel⟩) (fun _ => sc_looked_for.nd)
  refine ⟨_, pss_cons (ps_set (i := 3) sc_looked_for.nd rfl (by first | exact Or.inl rfl | exact Or.inr rfl) (uE_ok (F := famD P w K mg base ["counts", "may", "must", "nothing", "deal", "asker", "seen", "thing"] "looked_for" (defScope s_looked_for) f (k + 8)) ⟨cdv, A, outer, s, H, E, hr⟩)) (pss_cons (x2 ⟨cdv, A, outer, s, H, E, hr⟩)
    (pss_cons (ps_for PassesOwn.never rfl (pi_range1 (by rfl) T.b_range (pa_cons (uE_ok (F := famD P w K mg base ["counts", "may", "must", "nothing", "deal", "asker", "seen", "thing"] "looked_for" (defScope s_looked_for) f (k + 8)) ⟨cdv, A, outer, s, H, E, hr⟩) pa_nil)) (pg_name (i := 5) sc_looked_for.nd rfl (by first | exact Or.inl rfl | exact Or.inr rfl))
      (pss_cons (ps_set (i := 6) sc_looked_for.nd rfl (by first | exact Or.inl rfl | exact Or.inr rfl) pe_dnewK)
      (pss_one (ps_if (PW.pt (pw_and (pt_cmp (pc_isN (pe_ix ix_list (pv 4) (pv 5) (fun _ _ => rfl))) rfl) (pw_and1 (pt_not (pt_val (pe_kn K_give_thing hr (by rfl) (pa_cons (pv 0) (pa_cons (pv 1) (pa_cons (pv 4) (pa_cons (pv 5) (pa_cons (pv 6) pa_nil))))))))))) (pss_one (ps_ret (pe_tup (pa_cons pe_non (pa_cons (pe_tup (pa_cons pe_str (pa_cons (pe_callB (call_sortedD rfl) (by rfl) T.b_sorted bt_sorted (pa_cons (pv 6) pa_nil)) pa_nil))) pa_nil))))) pss_nil))))
    (pss_cons (ps_for PassesOwn.never rfl (pi_list (pv 2)) (pg_name (i := 7) sc_looked_for.nd rfl (by first | exact Or.inl rfl | exact Or.inr rfl))
      (pss_one (ps_while PassesOwn.never (uT_ok (F := famD P w K mg base ["counts", "may", "must", "nothing", "deal", "asker", "seen", "thing"] "looked_for" (defScope s_looked_for) f (k + 8)) ⟨cdv, A, outer, s, H, E, hr⟩)
        (pss_cons (ps_set (i := 6) sc_looked_for.nd rfl (by first | exact Or.inl rfl | exact Or.inr rfl) pe_dnewK)
        (pss_one (ps_if (pt_not (pt_val (pe_kn K_deal_out hr (by rfl) (pa_cons (pv 1) (pa_cons (pv 2) (pa_cons (pv 4) (pa_cons (pv 7) (pa_cons (pv 6) pa_nil)))))))) (pss_one (ps_ret (pe_tup (pa_cons pe_non (pa_cons (pe_tup (pa_cons pe_str (pa_cons (pe_callB (call_sortedD rfl) (by rfl) T.b_sorted bt_sorted (pa_cons (pv 6) pa_nil)) pa_nil))) pa_nil))))) pss_nil))))))
    (pss_one (ps_ret (pe_tup (pa_cons (pv 4) (pa_cons pe_non pa_nil)))))))), ?_⟩
  show tSeq _ _ _ [some vc, some vm, some vu, none, none, none, none, none] H
  obtain ⟨lu, xu, rfl, squ, hvu⟩ := huv
  have := hvl_ints hvu
  subst this
  have huv : Hv K G (dis must) (.ref lu) := ⟨lu, _, rfl, squ, hvu⟩
  refine uE_of (ρ := [some (.fz (dis c)), none, none, none, none, none, none, none]) (ev_len T.b_len (ev_nm 0 rfl) (.inl rfl)) (Same.refl H) (OwS.rpd (H := H) (fp := []) ⟨_, _, [], [], rfl, rfl, ⟨rfl, hc.mono sGH⟩, _, _, rfl, _, _, rfl, _, _, rfl, _, _, rfl, _, _, rfl, _, _, rfl, _, _, rfl, rfl, rfl⟩) fun v1 G1 H1 fq1 s1 o1 w1 => ?_
  have e1 : v1 = .int (c.length : Nat) := by
    have := hvi o1.2
    rw [List.length_map] at this
    exact this
  subst e1
  dsimp only [gName, List.set]
  refine y2 _ _ H1 H1 (Same.refl _) (OwS.rpd (H := H1) (fp := []) ⟨_, _, rfl, _, _, [], [], rfl, rfl, ⟨rfl, hmv.mono (sGH.trans s1.h)⟩, _, _, rfl, _, _, [], [], rfl, rfl, ⟨rfl, rfl, rfl⟩, _, _, rfl, _, _, rfl, _, _, rfl, _, _, rfl, rfl, rfl⟩) fun v2 G2 H2 fq2 s2 o2 w2 => ?_
  obtain ⟨ld, xs, fx, rfl, hld, ox, rfl⟩ := o2
  obtain ⟨rfl, rfl⟩ := flats_ow ox
  have hld0 : H ld = none := s1.h.free (w2.n ld (.head _))
  have sH2 : Same H H2 := s1.h.trans s2.h
  have hst : H2 ld = some (.lst ((startF c.length may).map vI)) := by
    unfold startF
    rw [List.map_map]; exact hld
  have Gld : G ld = none := sGH.free hld0
  show tSeq _ _ _ [some vc, some vm, some (.ref lu), some (.int (c.length : Nat)), some (.ref ld), none, none, none] H2
  refine uE_of (ρ := [none, some (.fz (.lst (may.map dis))), none, none, none, none, none, none]) (ev_len T.b_len (ev_nm 1 rfl) (.inl rfl)) (Same.refl H2) (OwS.rpd (H := H2) (fp := []) ⟨_, _, rfl, _, _, [], [], rfl, rfl, ⟨rfl, hmv.mono (sGH.trans sH2)⟩, _, _, rfl, _, _, rfl, _, _, rfl, _, _, rfl, _, _, rfl, _, _, rfl, rfl, rfl⟩) fun vl G3 H3 fq3 s3 o3 w3 => ?_
  have en : ((may.map dis).length : Int) = may.length := by rw [List.length_map]
  refine ⟨_, by rw [hvi o3.2], by rw [en]; omega, by rw [en]; omega, ?_⟩
  rw [en, Int.toNat_natCast]
  have sH3 : Same H H3 := sH2.trans s3.h
  have fin1 : Kv K G H (tGiv c may must (givL c may ((numsF may.length).drop 0) (startF c.length may))) Q := fin
  have eok := giv_eok lk.io lk.c0
  rw [show givL c may (numsF may.length) (startF c.length may) = givL c may ((numsF may.length).drop 0) (startF c.length may) from rfl] at eok
  generalize hres : givL c may ((numsF may.length).drop 0) (startF c.length may) = res at fin1 eok
  refine for_range (fun i σ Hc => ∃ o5 o6 d', σ = [some vc, some vm, some (.ref lu), some (.int (c.length : Nat)), some (.ref ld), o5, o6, none] ∧ Same H Hc ∧ Hc ld = some (.lst (d'.map vI)) ∧ DOk c may d' ∧ givL c may ((numsF may.length).drop i) d' = res)
    ⟨none, none, _, rfl, sH3, s3.h _ _ hst, start_ok lk.io lk.c0, hres⟩ ?_ ?_
  · rintro i σ Hc hi ⟨o5, o6, d', rfl, sHc, hd, dok, hr'⟩
    have hdrop : (numsF may.length).drop i = (0 + (i : Int)) :: (numsF may.length).drop (i + 1) := by
      rw [List.drop_eq_getElem_cons (by rw [nums_len]; exact hi)]
      congr 1
      unfold numsF
      rw [List.getElem_map, List.getElem_range]
    rw [hdrop] at hr'
    have a0 : (0 : Int) ≤ 0 + (i : Int) := by omega
    have a1 : 0 + (i : Int) < may.length := by omega
    generalize (0 + (i : Int)) = a at hr' a0 a1 ⊢
    dsimp only [gName, List.set]
    intro ls hls
    dsimp only [gName, List.set]
    have sH4 : Same H (upd Hc ls (.dK [])) := sHc.trans (.new hls)
    have nls : ld ≠ ls := fun e => by rw [← e, hd] at hls; cases hls
    have hls0 : H ls = none := sHc.free hls
    have gs : GS ld ls (upd Hc ls (.dK [])) d' [] := ⟨by rw [upd_ne nls]; exact hd, upd_same⟩
    generalize upd Hc ls (.dK []) = H4 at sH4 gs
    refine ⟨_, rfl, _, rfl, ld, _, _, vI (lat d' a), rfl, rfl, SqL.of gs.d, lat_at vI a0 (by rw [dok.g.dl]; exact a1), _, rfl, ?_⟩
    unfold givL at hr'
    by_cases hn : lat d' a < 0
    · rw [if_pos hn] at hr'
      rw [show decide (vI (lat d' a) = V.non) = true from decide_eq_true (vI_neg hn)]
      refine iteT ?_
      refine ⟨_, rfl, _, rfl, _, rfl, _, rfl, _, rfl, ?_⟩
      dsimp only [tNil, List.cons_append, List.nil_append]
      have nn := dok.nn a0 a1 hn
      have kp := giv_ok lk.io 7 d' [] a dok.g a0 a1 (fun z => nomatch z) nn
      have gv := dok.give lk.io a0 a1 hn
      refine ⟨c, may, vc, vm, ld, ls, G, d', [], a, rfl, sGH.trans sH4, hc, hmv, fun b hb => ?_, nls, gs, lk.io, dok.g, a0, a1, (fun z => nomatch z), nn, by rw [List.length_nil]; omega, fun H5 md5 g5 => ⟨_, rfl, ?_⟩⟩
      · rcases List.mem_cons.mp hb with rfl | hb
        · exact Gld
        · rw [List.mem_singleton.mp hb]; exact sGH.free hls0
      have sH5 : Same H H5 := md_same sH4 (fun b hb => by
        rcases List.mem_cons.mp hb with rfl | hb
        · exact hld0
        · rw [List.mem_singleton.mp hb]; exact hls0) md5
      generalize givF c may 7 d' [] a = r at *
      by_cases hb : r.1 = true
      · rw [hb]
        rw [if_pos hb] at hr'
        exact iteF ⟨_, _, r.2.1, rfl, sH5, g5.d, (gv hb).1, hr'⟩
      · have hb' : r.1 = false := by simpa using hb
        rw [hb']
        rw [if_neg hb] at hr'
        refine iteT ?_
        have sl := seen_le kp.ok.sr kp.ok.sn
        refine ⟨_, rfl, ls, r.2.2, rfl, g5.s, by omega, fun l ms hl pm pw => ⟨by show 2 ≤ sizeLine; omega, fun p1 hp1 => ⟨by show 2 ≤ sizeLine; omega, fun p2 hp2 => ?_⟩⟩⟩
        unfold tGiv at fin1
        rw [← hr', if_neg hb] at fin1
        exact paper_end sGH sH5 pm pw hl hp1 hp2 fin1
    · rw [if_neg hn] at hr'
      rw [show decide (vI (lat d' a) = V.non) = false from decide_eq_false (by rw [vI_pos (by omega)]; exact fun z => nomatch z)]
      exact iteF (iteF ⟨_, _, d', rfl, sH4, gs.d, dok, hr'⟩)
  · rintro σ Hc ⟨o5, o6, d', rfl, sHc, hd, dok, hr'⟩
    rw [List.drop_of_length_le (by rw [nums_len]; exact Nat.le_refl _)] at hr'
    unfold givL at hr'
    rw [← hr'] at eok fin1
    have ek : EOk c may d' := eok rfl
    have fin2 : Kv K G H (tOut (outM c may must (must.drop 0) d')) Q := fin1
    generalize hres2 : outM c may must (must.drop 0) d' = res2 at fin2
    refine tFor_name (j := 2) (a := lu) (xs := must.map V.int) rfl ((sGH.trans sHc).seq squ) (fun i σ Hc => ∃ o5 o6 o7 d', σ = [some vc, some vm, some (.ref lu), some (.int (c.length : Nat)), some (.ref ld), o5, o6, o7] ∧ Same H Hc ∧ Hc ld = some (.lst (d'.map vI)) ∧ EOk c may d' ∧ outM c may must (must.drop i) d' = res2)
      ⟨_, _, _, d', rfl, sHc, hd, ek, hres2⟩ (fun i σ Hc _ h => by obtain ⟨_, _, _, _, _, m, _⟩ := h; exact (sGH.trans m).seq squ) ?_ ?_
    · rintro i v σ Hc hv ⟨o5, o6, o7, d', rfl, sHc, hd, ek, hr'⟩
      obtain ⟨x, hx, rfl⟩ := map_get hv
      have hxm := List.mem_of_getElem? hx
      have hxr := lk.mu x hxm
      have hdrop : must.drop i = x :: must.drop (i + 1) := by
        obtain ⟨h1, h2⟩ := List.getElem?_eq_some_iff.mp hx
        rw [List.drop_eq_getElem_cons h1, h2]
      rw [hdrop] at hr'
      unfold outM at hr'
      dsimp only [gName, List.set]
      refine ⟨fun m σ Hc => ∃ o5 o6 d', σ = [some vc, some vm, some (.ref lu), some (.int (c.length : Nat)), some (.ref ld), o5, o6, some (.int x)] ∧ Same H Hc ∧ Hc ld = some (.lst (d'.map vI)) ∧ EOk c may d' ∧ m = (lat c x - d'.count x).toNat ∧ (if (outW c may must x m d').1 = true then outM c may must (must.drop (i + 1)) (outW c may must x m d').2.1 else outW c may must x m d') = res2, ⟨_, _, _, d', rfl, sHc, hd, ek, rfl, hr'⟩, ?_⟩
      rintro m σ Hc ⟨o5, o6, d', rfl, sHc, hd, ek, hm, hr'⟩
      refine uT_of (ρ := [some (.fz (dis c)), none, none, none, some (.fz (.lst ((d'.map vI).map .fl))), none, none, some (ti x)]) (Et.to (et_lt (ev_countF (v := .int x) (ev_nm 4 rfl) rfl (ev_nm 7 rfl)) (ev_ix (d := di (lat c x)) (ev_nm 0 rfl) (ev_nm 7 rfl) rfl (lat_at di hxr.1 hxr.2))) (q := decide ((d'.count x : Int) < lat c x)) (by rw [count_vI hxr.1])) (Same.refl Hc) (OwS.rpd (H := Hc) (fp := []) ⟨_, _, [], [], rfl, rfl, ⟨rfl, hc.mono (sGH.trans sHc)⟩, _, _, rfl, _, _, rfl, _, _, rfl, _, _, [], [], rfl, rfl, ⟨rfl, ld, _, rfl, SqL.of hd, hvl_vI d'⟩, _, _, rfl, _, _, rfl, _, _, [], [], rfl, rfl, ⟨rfl, rfl, rfl⟩, rfl, rfl⟩) fun G6 H6 st6 => ?_
      have sH6 : Same H H6 := sHc.trans st6.h
      have hd6 := st6.h _ _ hd
      by_cases hlt : (d'.count x : Int) < lat c x
      · rw [decide_eq_true hlt]
        obtain ⟨m', rfl⟩ : ∃ m', m = m' + 1 := ⟨m - 1, by omega⟩
        unfold outW at hr'
        refine iteT ?_
        refine ⟨_, fun σ' H' hN => ⟨m', Nat.lt_succ_self _, hN⟩, ?_⟩
        intro ls hls
        dsimp only [gName, List.set]
        have sH7 : Same H (upd H6 ls (.dK [])) := sH6.trans (.new hls)
        have nls : ld ≠ ls := fun e => by rw [← e, hd6] at hls; cases hls
        have hls0 : H ls = none := sH6.free hls
        have gs : GS ld ls (upd H6 ls (.dK [])) d' [] := ⟨by rw [upd_ne nls]; exact hd6, upd_same⟩
        generalize upd H6 ls (.dK []) = H7 at sH7 gs
        refine ⟨_, rfl, _, rfl, _, rfl, _, rfl, _, rfl, ?_⟩
        dsimp only [tNil, List.cons_append, List.nil_append]
        have kp := outF_ok (may := may) lk.mu 7 d' [] x (ek.ot lk.io) hxr.1 hxr.2 (fun z => nomatch z)
        have gv := ek.out lk.io lk.mu hxm hlt
        refine ⟨c.length, may, must, vm, .ref lu, ld, ls, G, d', [], x, rfl, sGH.trans sH7, hmv, huv, fun b hb => ?_, nls, gs, A6, n6, lk.mu, ek.ot lk.io, hxr.1, hxr.2, (fun z => nomatch z), by rw [List.length_nil]; omega, fun H8 md8 g8 => ⟨_, rfl, ?_⟩⟩
        · rcases List.mem_cons.mp hb with rfl | hb
          · exact Gld
          · rw [List.mem_singleton.mp hb]; exact sGH.free hls0
        have sH8 : Same H H8 := md_same sH7 (fun b hb => by
          rcases List.mem_cons.mp hb with rfl | hb
          · exact hld0
          · rw [List.mem_singleton.mp hb]; exact hls0) md8
        generalize outF may must 7 d' [] x = r at *
        by_cases hb : r.1 = true
        · rw [hb]
          rw [if_pos hb] at hr'
          exact iteF ⟨_, _, r.2.1, rfl, sH8, g8.d, (gv hb).1, by rw [(gv hb).2.1]; omega, hr'⟩
        · have hb' : r.1 = false := by simpa using hb
          rw [hb']
          rw [if_neg hb, if_neg hb] at hr'
          refine iteT ?_
          have sl := seen_le kp.ok.sr kp.ok.sn
          refine ⟨_, rfl, ls, r.2.2, rfl, g8.s, by omega, fun l ms hl pm pw => ⟨by show 2 ≤ sizeLine; omega, fun p1 hp1 => ⟨by show 2 ≤ sizeLine; omega, fun p2 hp2 => ?_⟩⟩⟩
          unfold tOut at fin2
          rw [← hr', if_neg hb] at fin2
          exact paper_end sGH sH8 pm pw hl hp1 hp2 fin2
      · rw [decide_eq_false hlt]
        obtain rfl : m = 0 := by omega
        unfold outW at hr'
        exact iteF ⟨_, _, _, d', rfl, sH6, hd6, ek, hr'⟩
    · rintro σ Hc ⟨o5, o6, o7, d', rfl, sHc, hd, ek, hr'⟩
      rw [List.length_map, List.drop_length] at hr'
      unfold outM at hr'
      unfold tOut at fin2
      rw [← hr', if_pos rfl] at fin2
      refine ⟨_, rfl, by show 2 ≤ sizeLine; omega, fun p2 hp2 => ?_⟩
      exact deal_end sGH sHc hld0 (fun y hy => ((ek.ot lk.io).dr y hy).1) hd hp2 fin2
def lookD (r : Nat × List Int) : Tr := if r.1 = 0 then tInts r.2 else tn
def lookP (r : Nat × List Int) : Tr := if r.1 = 0 then tn else .tp [tx (if r.1 = 1 then "askers" else "things"), tInts r.2]
theorem tLook_eq (c : List Int) (may : List (List Int)) (must : List Int) : tLook c may must = .tp [lookD (lookF c may must), lookP (lookF c may must)] := by
  unfold tLook tGiv tOut lookF
  generalize givL c may (numsF may.length) (startF c.length may) = g
  by_cases h : g.1 = true
  · rw [if_pos h, if_pos h]
    generalize outM c may must must g.2.1 = o
    by_cases h2 : o.1 = true
    · rw [if_pos h2, if_pos h2]; rfl
    · rw [if_neg h2, if_neg h2]; rfl
  · rw [if_neg h, if_neg h]; rfl
def rDealOf (dd : List Dv) (t : Tr) : Prop := ∃ c may must, LkOk c may must ∧ dd = [dis c, .lst (may.map dis), dis must] ∧ t = lookD (lookF c may must)
def rWhy (dd : List Dv) (t : Tr) : Prop := ∃ c may must, LkOk c may must ∧ dd = [dis c, .lst (may.map dis), dis must] ∧ t = lookP (lookF c may must)
abbrev s_deal_of : Stmt := top 4
theorem sc_deal_of : FnScope ["counts", "may", "must"] ["counts", "may", "must"] (defScope s_deal_of) := ⟨rfl, rfl, rfl, by decide +kernel, rfl, by decide +kernel, by decide +kernel⟩
theorem ok_deal_of {f f1 : Addr} {fd fd1 : FuncData} {k : Nat} (F : Fun K "deal_of" "deal_of" s_deal_of f fd) (T : Txt mg) (K_looked_for : Kn P w K mg base CX0 (k + 9) "looked_for" f1 fd1 ["counts", "may", "must"] (spT K rLook)) : FnOk P w K mg base CX0 (k + 10) f fd ["counts", "may", "must"] (spT K rDealOf) := by
  refine fn_ok F.d sc_deal_of (fun dd t h => by obtain ⟨_, _, _, _, rfl, _⟩ := h; rfl) fun dd t h => ?_
  obtain ⟨c, may, must, lk, rfl, rfl⟩ := h
  refine ⟨_, .inl rfl, ?_⟩
  exact rns_one (rn_ret (Ev.s (ev_ixO (n := 0) (ev_call K_looked_for (Nat.le_refl _) (eva_cons (ev_nm 0 rfl) (eva_cons (ev_nm 1 rfl) (eva_cons (ev_nm 2 rfl) eva_nil))) ⟨c, may, must, lk, rfl, (tLook_eq c may must).symm⟩) ev_int rfl)))
abbrev s_why_none : Stmt := top 5
theorem sc_why_none : FnScope ["counts", "may", "must"] ["counts", "may", "must"] (defScope s_why_none) := ⟨rfl, rfl, rfl, by decide +kernel, rfl, by decide +kernel, by decide +kernel⟩
theorem ok_why_none {f f1 : Addr} {fd fd1 : FuncData} {k : Nat} (F : Fun K "why_none" "why_none" s_why_none f fd) (T : Txt mg) (K_looked_for : Kn P w K mg base CX0 (k + 9) "looked_for" f1 fd1 ["counts", "may", "must"] (spT K rLook)) : FnOk P w K mg base CX0 (k + 10) f fd ["counts", "may", "must"] (spT K rWhy) := by
  refine fn_ok F.d sc_why_none (fun dd t h => by obtain ⟨_, _, _, _, rfl, _⟩ := h; rfl) fun dd t h => ?_
  obtain ⟨c, may, must, lk, rfl, rfl⟩ := h
  refine ⟨_, .inl rfl, ?_⟩
  exact rns_one (rn_ret (Ev.s (ev_ixO (n := 1) (ev_call K_looked_for (Nat.le_refl _) (eva_cons (ev_nm 0 rfl) (eva_cons (ev_nm 1 rfl) (eva_cons (ev_nm 2 rfl) eva_nil))) ⟨c, may, must, lk, rfl, (tLook_eq c may must).symm⟩) ev_int rfl)))
end
end K33
namespace K33
open PySem L2
section
variable {P : Program} {w : World} {K : PySem.W.Frag} {mg : Str → Option Value} {base : Heap}
abbrev s__law_cell_at : Stmt := top 7
theorem sc__law_cell_at : FnScope ["_law_script", "_law_k"] ["_law_script", "_law_k"] (defScope s__law_cell_at) := ⟨rfl, rfl, rfl, by decide +kernel, rfl, by decide +kernel, by decide +kernel⟩
def rCell (dd : List Dv) (t : Tr) : Prop := ∃ (ns : List Int) (k : Int), 0 ≤ k ∧ dd = [dis ns, di k] ∧ t = ti (cellF ns k)
theorem ok__law_cell_at {f : Addr} {fd : FuncData} {k : Nat} (F : Fun K "_law_cell_at" "_law_cell_at" s__law_cell_at f fd) (T : Txt mg) : FnOk P w K mg base CX0 (k + 1) f fd ["_law_script", "_law_k"] (spT K rCell) := by
  refine fn_ok F.d sc__law_cell_at (fun dd t h => by obtain ⟨_, _, _, rfl, _⟩ := h; rfl) fun dd t h => ?_
  obtain ⟨ns, j, hj, rfl, rfl⟩ := h
  refine ⟨_, .inl rfl, ?_⟩
  by_cases hl : j < ns.length
  · refine rns_ret (rn_ifT (Et.s (et_lt (ev_nm 1 rfl) (ev_len T.b_len (ev_nm 0 rfl) (.inl rfl)))) ?_ (rns_one (rn_ret (Ev.s (ev_ix (ev_nm 0 rfl) (ev_nm 1 rfl) rfl ?_)))))
    · rw [List.length_map]; exact decide_eq_true hl
    · exact cell_in hj hl
  · refine rns_cons (rn_skip (Et.s (et_lt (ev_nm 1 rfl) (ev_len T.b_len (ev_nm 0 rfl) (.inl rfl)))) ?_) ?_
    · rw [List.length_map]; exact decide_eq_false hl
    · rw [cell_out hj (by omega)]
      exact rns_one (rn_ret (Ev.s ev_int))
theorem nums_di (n : Nat) : rngD 0 n = (numsF n).map di := by
  unfold rngD numsF
  rw [List.map_map]; rfl
theorem nums_succ (k : Nat) : numsF (k + 1) = numsF k ++ [0 + (k : Int)] := by
  unfold numsF
  rw [List.range_succ, List.map_append]; rfl
def bitL : List Int := [1, 2, 4, 8, 16, 32, 64]
theorem bit_ok {k : Int} (k0 : 0 ≤ k) (k1 : k < 7) : 0 < lat bitL k ∧ lat bitL k < 2 ^ 60 := by
  have h := lat_mem (l := bitL) k0 k1
  have : ∀ x ∈ bitL, 0 < x ∧ x < 2 ^ 60 := by decide
  exact this _ h
def bitsF (cell : Int) (n : Nat) : List Int := (numsF n).filter fun k => decide (cell / lat bitL k % 2 = 1)
abbrev s__law_bits : Stmt := top 8
theorem sc__law_bits : FnScope ["_law_cell", "_law_many_here", "_law_bits_here"] ["_law_cell", "_law_many_here"] (defScope s__law_bits) := ⟨rfl, rfl, rfl, by decide +kernel, rfl, by decide +kernel, by decide +kernel⟩
def rBits (dd : List Dv) (t : Tr) : Prop := ∃ (cell : Int) (n : Nat), n ≤ 7 ∧ dd = [di cell, di (n : Nat)] ∧ t = tInts (bitsF cell n)
theorem ok__law_bits {f : Addr} {fd : FuncData} {k : Nat} (F : Fun K "_law_bits" "_law_bits" s__law_bits f fd) (T : Txt mg) : FnOk P w K mg base CX0 (k + 1) f fd ["_law_cell", "_law_many_here"] (spT K rBits) := by
  refine fn_ok F.d sc__law_bits (fun dd t h => by obtain ⟨_, _, _, rfl, _⟩ := h; rfl) fun dd t h => ?_
  obtain ⟨cell, n, hn, rfl, rfl⟩ := h
  refine ⟨_, .inl rfl, ?_⟩
  have big : 1000 < sizeLine := by decide
  refine rns_cons (rn_set 2 (Ev.s (Ev.as (d := dis bitL) (ev_lst (eva_cons ev_int (eva_cons ev_int (eva_cons ev_int (eva_cons ev_int (eva_cons ev_int (eva_cons ev_int (eva_cons ev_int eva_nil))))))) (by show 7 ≤ sizeLine; decide)) rfl)) (fun _ => sc__law_bits.nd)) ?_
  show Rns _ _ [some (ti cell), some (ti (n : Nat)), some (.fz (dis bitL))] _
  exact rns_one (rn_ret (Ev.s (Ev.to (ev_lcf (own := ["_law_k"]) (fr := [0, 2]) (numsF n) di (fun k => decide (cell / lat bitL k % 2 = 1)) ti (fun i => lcs ⟨rfl, rfl, by decide +kernel, by decide +kernel, by decide +kernel, by decide +kernel⟩) (EvI.to (evi_range1 (n := ((n : Nat) : Int)) T.b_range (ev_nm 1 rfl) ⟨by omega, by omega⟩) (by rw [Int.toNat_natCast, nums_di])) (evg_nm 0 (fun _ => by show List.Nodup (["_law_k", "_law_cell", "_law_bits_here"] : List Str); decide)) (by decide) (by rw [nums_len]; omega) (fun x hx => ⟨_, rfl, by
      have hx' := mem_nums.mp hx
      have hb := bit_ok hx'.1 (show x < 7 by omega)
      exact el_one (et_eq (ev_mod (ev_div (ev_nm 1 rfl) (ev_ix (d := di (lat bitL x)) (ev_nm 2 rfl) (ev_nm 0 rfl) rfl (lat_at (l := bitL) di hx'.1 (show x < 7 by omega))) ⟨hb.1, small_lt (by omega) hb.2⟩) ev_int (by decide)) ev_int), fun _ => by exact ev_nm 0 rfl⟩) (fun dd => by cases dd <;> rfl)) rfl)))
theorem bits_nd (cell : Int) (n : Nat) : (bitsF cell n).Nodup := (nums_nodup n).filter _
theorem bits_rg {cell : Int} {n : Nat} {x : Int} (h : x ∈ bitsF cell n) : 0 ≤ x ∧ x < n := mem_nums.mp (List.mem_filter.mp h).1
theorem bits_len (cell : Int) (n : Nat) : (bitsF cell n).length ≤ n := Nat.le_trans (List.length_filter_le _ _) (by rw [nums_len]; exact Nat.le_refl _)
end
end K33
namespace K33
open PySem L2
section
variable {P : Program} {w : World} {K : PySem.W.Frag} {mg : Str → Option Value} {base : Heap}
theorem look_deal {c : List Int} {may : List (List Int)} {must : List Int} (h : (lookF c may must).1 = 0) : lookD (lookF c may must) = tInts (lookF c may must).2 ∧ lookP (lookF c may must) = tn := by
  unfold lookD lookP
  rw [if_pos h, if_pos h]; exact ⟨rfl, rfl⟩
theorem look_paper {c : List Int} {may : List (List Int)} {must : List Int} (h : (lookF c may must).1 ≠ 0) : lookD (lookF c may must) = tn ∧ lookP (lookF c may must) = .tp [tx (if (lookF c may must).1 = 1 then "askers" else "things"), tInts (lookF c may must).2] := by
  unfold lookD lookP
  rw [if_neg h, if_neg h]; exact ⟨rfl, rfl⟩
theorem look_cases {c : List Int} {may : List (List Int)} {must : List Int} (lk : LkOk c may must) : (∃ d, IsDeal c may must d ∧ lookD (lookF c may must) = tInts d ∧ lookP (lookF c may must) = tn) ∨ ∃ x S, ((x = ("askers" : Str) ∧ IsAsk c may S) ∨ (x = ("things" : Str) ∧ IsThg c may must S)) ∧ lookD (lookF c may must) = tn ∧ lookP (lookF c may must) = .tp [tx x, tInts S] := by
  rcases look_ok lk.io lk.c0 lk.mu with ⟨h, g⟩ | ⟨h, g⟩ | ⟨h, g⟩
  · exact .inl ⟨_, g, look_deal h⟩
  · have q := look_paper (c := c) (may := may) (must := must) (by omega)
    rw [if_pos h] at q
    exact .inr ⟨_, _, .inl ⟨rfl, g⟩, q⟩
  · have q := look_paper (c := c) (may := may) (must := must) (by omega)
    rw [if_neg (by omega)] at q
    exact .inr ⟨_, _, .inr ⟨rfl, g⟩, q⟩
def hdD (c : List Int) (may : List (List Int)) (must : List Int) : Dv := .lst [dis c, .lst (may.map dis), dis must]
theorem hd_dp (c : List Int) (may : List (List Int)) (must : List Int) : dpD (hdD c may must) ≤ 50 := Nat.le_trans (dpD_lst (n := 2) fun d hd => by
  simp only [List.mem_cons, List.not_mem_nil, or_false] at hd
  rcases hd with rfl | rfl | rfl
  · exact Nat.le_trans (dpD_dis c) (by decide)
  · exact dpD_rows may
  · exact Nat.le_trans (dpD_dis must) (by decide)) (by decide)
theorem hd_eq (c : List Int) (may : List (List Int)) (must : List Int) : eqD (hdD c may must) (hdD c may must) = true := eqD_refl (by
  show (okD (dis c) && (okD (.lst (may.map dis)) && (okD (dis must) && true))) = true
  rw [okD_dis, okD_rows, okD_dis]; rfl)
theorem deal_thg {c : List Int} {may : List (List Int)} {must d S : List Int} (g : IsDeal c may must d) (a : ThgU c may must S) : False := by
  have h1 := sum_le (f := lat c) (g := fun k => (d.count k : Int)) (N := S) fun k hk => g.full k (a.sub k hk)
  rw [sum_count d a.nd, filt_nums d 0] at h1
  have hs := a.sum
  rw [filt_nums may []] at hs
  have h2 : ((numsF d.length).filter fun o => S.contains (d.getD o.toNat 0)).length ≤ ((numsF may.length).filter fun a => (may.getD a.toNat []).any fun y => S.contains y).length := by
    rw [g.ok.dl, ← List.countP_eq_length_filter, ← List.countP_eq_length_filter]
    refine List.countP_mono_left fun o ho h => ?_
    have ho' := mem_nums.mp ho
    have := g.ok.mem o ho'.1 ho'.2
    unfold lat at this
    exact List.any_eq_true.mpr ⟨_, this, h⟩
  omega
theorem none_look {c : List Int} {may : List (List Int)} {must : List Int} (lk : LkOk c may must) (g : ∀ d, ¬ IsDeal c may must d) : ∃ x S, ((x = ("askers" : Str) ∧ IsAsk c may S) ∨ (x = ("things" : Str) ∧ IsThg c may must S)) ∧ lookD (lookF c may must) = tn ∧ lookP (lookF c may must) = .tp [tx x, tInts S] := by
  rcases look_cases lk with ⟨d, h, _⟩ | h
  · exact absurd h (g d)
  · exact h
theorem et_neF {ι : Type} {F : Fam ι} {a b : Expr} {ρ : En} {pos : Pos} {u v : V} (ha : Ev F a ρ (.fz (.fl u))) (hb : Ev F b ρ (.fz (.fl v))) (hs : scal u v = true) : Et F (.Compare a [.NotEq] [b] pos) ρ (!decide (u = v)) :=
  et_cmp (fun _ => op_ne) ha hb (fun G H x y Q s hx hy k => by rw [hvi hx, hvi hy]; exact ⟨hs, by simpa using k⟩) (nomark _)
abbrev s__law_plain : Stmt := top 9
theorem sc__law_plain : FnScope ["_law_found"] ["_law_found"] (defScope s__law_plain) := ⟨rfl, rfl, rfl, by decide +kernel, rfl, by decide +kernel, by decide +kernel⟩
def rPlain (dd : List Dv) (t : Tr) : Prop := ∃ ns : List Int, ns.length ≤ 100 ∧ dd = [dis ns] ∧ t = tb true
theorem ok__law_plain {f : Addr} {fd : FuncData} {k : Nat} (F : Fun K "_law_plain" "_law_plain" s__law_plain f fd) (T : Txt mg) : FnOk P w K mg base CX0 (k + 1) f fd ["_law_found"] (spT K rPlain) := by
  refine fn_ok F.d sc__law_plain (fun dd t h => by obtain ⟨_, _, rfl, _⟩ := h; rfl) fun dd t h => ?_
  obtain ⟨ns, hn, rfl, rfl⟩ := h
  refine ⟨_, .inl rfl, ?_⟩
  have big : 1000 < sizeLine := by decide
  refine rns_cons (rn_skip (Et.s (et_not (et_val (ev_isi (bo := true) T.b_isinstance T.b_list bt_list (ev_nm 0 rfl) (by with_unfolding_all rfl))))) rfl) ?_
  refine rns_one (rn_ret (Ev.s (Ev.to (ev_eqS (ev_lcf (own := ["_law_one"]) (fr := []) ns di (fun _ => false) ti (fun i => lcs ⟨rfl, rfl, by decide +kernel, by decide +kernel, by decide +kernel, by decide +kernel⟩) (evi_list (ev_nm 0 rfl) rfl) (evg_nm 0 (fun _ => by show List.Nodup (["_law_one"] : List Str); decide)) (by decide) (by omega) (fun x hx => ⟨_, rfl, by
      exact el_one (Et.to (Ew.et (ew_or (et_not (et_val (ev_isi (bo := true) T.b_isinstance T.b_int bt_int (ev_nm 0 rfl) (by with_unfolding_all rfl)))) fun _ => (ew_or1 (et_val (ev_isi (bo := false) T.b_isinstance T.b_bool bt_bool (ev_nm 0 rfl) (by with_unfolding_all rfl)))))) rfl), fun h => by cases h⟩) (fun dd => by cases dd <;> rfl)) (ev_lst eva_nil (Nat.zero_le _)) (.inl ⟨_, _, rfl, rfl⟩) ?_) ?_)))
  · rw [List.filter_eq_nil_iff.mpr (fun _ _ => by decide)]
    exact Nat.le_trans (dpD_dis []) (by decide)
  · rw [List.filter_eq_nil_iff.mpr (fun _ _ => by decide)]; rfl
end
end K33
namespace K33
open PySem L2
section
variable {P : Program} {w : World} {K : PySem.W.Frag} {mg : Str → Option Value} {base : Heap}
theorem eqd_nil {α : Type} (f : α → Dv) : ∀ L : List α, eqD (.lst (L.map f)) (.lst []) = L.isEmpty
  | [] => rfl
  | _ :: _ => rfl
theorem row_at {may : List (List Int)} {a : Int} (a0 : 0 ≤ a) (a1 : a < may.length) : atI (may.map dis) a = some (dis (may.getD a.toNat [])) := by
  obtain ⟨j, rfl⟩ : ∃ j : Nat, a = (j : Int) := ⟨a.toNat, by omega⟩
  refine atI_nat ?_
  rw [List.getElem?_map, Int.toNat_natCast, List.getD_eq_getElem?_getD, List.getElem?_eq_getElem (by omega)]; rfl
theorem atI_end {S : List Int} (ne : S ≠ []) : ∃ x ∈ S, atI (S.map di) (-1) = some (di x) := by
  rcases List.eq_nil_or_concat S with rfl | ⟨l, x, rfl⟩
  · exact absurd rfl ne
  · refine ⟨x, by rw [List.concat_eq_append]; simp, ?_⟩
    rw [List.map_concat, List.concat_eq_append]
    unfold atI ixN
    rw [if_neg (by decide), if_pos (by rw [List.length_append]; simp; omega)]
    show (l.map di ++ [di x])[_]? = _
    have e : (-1 + ((l.map di ++ [di x]).length : Int)).toNat = (l.map di).length := by rw [List.length_append, List.length_singleton]; omega
    rw [e, List.getElem?_append_right (Nat.le_refl _), Nat.sub_self]; rfl
theorem filt_any {α : Type} (l : List α) (q : α → Bool) : (l.filter q).isEmpty = !l.any q := by
  cases h : l.any q with
  | true =>
    obtain ⟨x, hx, hq⟩ := List.any_eq_true.mp h
    have : x ∈ l.filter q := List.mem_filter.mpr ⟨hx, hq⟩
    cases e : l.filter q with
    | nil => rw [e] at this; cases this
    | cons _ _ => rfl
  | false =>
    rw [List.filter_eq_nil_iff.mpr (fun x hx hq => by
      have := List.any_eq_true.mpr ⟨x, hx, hq⟩
      rw [h] at this; cases this)]; rfl
abbrev s__law_is_paper : Stmt := top 10
theorem sc__law_is_paper : FnScope ["_law_paper", "_law_counts", "_law_may", "_law_must", "_law_some", "_law_total", "_law_k"] ["_law_paper", "_law_counts", "_law_may", "_law_must"] (defScope s__law_is_paper) := ⟨rfl, rfl, rfl, by decide +kernel, rfl, by decide +kernel, by decide +kernel⟩
def rIsPaper (dd : List Dv) (t : Tr) : Prop := ∃ c may must S x, LkOk c may must ∧ ((x = ("askers" : Str) ∧ IsAsk c may S) ∨ (x = ("things" : Str) ∧ IsThg c may must S)) ∧ dd = [.tup [ds x, dis S], dis c, .lst (may.map dis), dis must] ∧ t = tb true
theorem six_nat {S : List Int} (pw : S.Pairwise (· < ·)) (hb : ∀ b ∈ S, 0 ≤ b ∧ b < 6) : ∃ ns : List Nat, RiseN ns ∧ S = ns.map fun (n : Nat) => (n : Int) := by
  refine ⟨S.map Int.toNat, ⟨?_, fun n hn => ?_⟩, ?_⟩
  · rw [List.pairwise_map]
    exact pw.imp_of_mem fun {x y} hx hy h => by have := hb x hx; have := hb y hy; omega
  · obtain ⟨x, hx, rfl⟩ := List.mem_map.mp hn
    have := hb x hx
    omega
  · rw [List.map_map]
    exact (List.map_id' S).symm.trans (List.map_congr_left fun x hx => by have := hb x hx; show x = ((x.toNat : Nat) : Int); omega)
theorem ok__law_is_paper {f f1 : Addr} {fd fd1 : FuncData} {k : Nat} (F : Fun K "_law_is_paper" "_law_is_paper" s__law_is_paper f fd) (T : Txt mg) (K__law_plain : Kn P w K mg base CX0 (k + 1) "_law_plain" f1 fd1 ["_law_found"] (spT K rPlain)) : FnOk P w K mg base CX0 (k + 2) f fd ["_law_paper", "_law_counts", "_law_may", "_law_must"] (spT K rIsPaper) := by
  refine fn_ok F.d sc__law_is_paper (fun dd t h => by obtain ⟨_, _, _, _, _, _, _, rfl, _⟩ := h; rfl) fun dd t h => ?_
  obtain ⟨c, may, must, S, x, lk, hS, rfl, rfl⟩ := h
  refine ⟨_, .inl rfl, ?_⟩
  have big : 1000 < sizeLine := by decide
  have A6 := lk.io.A6
  have n6 := lk.io.n6
  have el : ∀ {α : Type} (g : α → Dv) (l : List α), ((l.map g).length : Int) = l.length := fun g l => by rw [List.length_map]
  have ne : S ≠ [] := hS.elim (fun h => h.2.u.ne) fun h => h.2.u.ne
  have pw : S.Pairwise (· < ·) := hS.elim (fun h => h.2.lt) fun h => h.2.lt
  have nd : S.Nodup := hS.elim (fun h => h.2.u.nd) fun h => h.2.u.nd
  have sl : S.length ≤ 6 := hS.elim (fun h => Nat.le_trans (seen_le (fun b hb => (h.2.u.rg b hb).1) nd) A6) fun h => Nat.le_trans (seen_le (fun b hb => lk.mu b (h.2.u.sub b hb)) nd) n6
  refine rns_cons (rn_skip (Et.s (Ew.et (ew_or (et_not (et_val (ev_isi (bo := true) T.b_isinstance T.b_tuple bt_tuple (ev_nm 0 rfl) (by with_unfolding_all rfl)))) fun _ => (ew_or (et_ne (ev_len T.b_len (ev_nm 0 rfl) (.inr rfl)) ev_int) fun _ => (ew_or1 (et_not (et_val (ev_isi (bo := true) T.b_isinstance T.b_str bt_str (ev_ixT (d := ds x) (ev_nm 0 rfl) ev_int rfl rfl) (by with_unfolding_all rfl))))))))) rfl) ?_
  refine rns_cons (rn_set 4 (Ev.s (ev_ixT (d := dis S) (ev_nm 0 rfl) ev_int rfl rfl)) (fun _ => sc__law_is_paper.nd)) ?_
  show Rns _ _ [some (.fz (.tup [ds x, dis S])), some (.fz (dis c)), some (.fz (.lst (may.map dis))), some (.fz (dis must)), some (.fz (dis S)), none, none] _
  have hb : ∀ b ∈ S, 0 ≤ b ∧ b < 6 := fun b hb => hS.elim (fun h => by have := (h.2.u.rg b hb).1; omega) fun h => by have := lk.mu b (h.2.u.sub b hb); omega
  obtain ⟨ns, hr, eS⟩ := six_nat pw hb
  have en : eqD (dis S) (.lst []) = false := by
    rw [eqd_nil]
    cases S with
    | nil => exact absurd rfl ne
    | cons x S => rfl
  have es : eqD (dis (ns.map fun (n : Nat) => (n : Int))) (dis S) = true := by rw [← eS]; exact eqD_refl (okD_dis S)
  have eo : er (.ow ((ns.map fun (n : Nat) => (n : Int)).map fun n => .fz (di n))) = dis (ns.map fun (n : Nat) => (n : Int)) := by rw [← ints_tr, er_fzs]
  refine rns_cons (rn_skip (Et.s (Et.to (Ew.et (ew_or (et_not (et_val (ev_call K__law_plain (Nat.le_refl _) (eva_cons (ev_nm 4 rfl) eva_nil) ⟨S, by omega, rfl, rfl⟩))) fun _ => (ew_or (et_eqS (ev_nm 4 rfl) (ev_lst eva_nil (Nat.zero_le _)) (.inl ⟨_, _, rfl, rfl⟩) (Nat.le_trans (dpD_dis S) (by decide))) fun _ => (ew_or1 (et_neS (ev_sortset (ns := ns) T.b_sorted T.b_set (ev_nm 4 rfl) (by rw [← eS]; rfl) hr) (ev_nm 4 rfl) (.inl ⟨_, _, rfl, rfl⟩) (by rw [eo]; exact Nat.le_trans (dpD_dis _) (by decide))))))) (by
    show (false || (eqD (dis S) (.lst []) || !eqD _ (dis S))) = false
    rw [en, eo]
    show (false || (false || !eqD (dis (ns.map fun (n : Nat) => (n : Int))) (dis S))) = false
    rw [es]; rfl))) rfl) ?_
  refine rns_cons (rn_set 5 (Ev.s ev_int) (fun _ => sc__law_is_paper.nd)) ?_
  show Rns _ _ [some (.fz (.tup [ds x, dis S])), some (.fz (dis c)), some (.fz (.lst (may.map dis))), some (.fz (dis must)), some (.fz (dis S)), some (ti 0), none] _
  rcases hS with ⟨rfl, ask⟩ | ⟨rfl, thg⟩
  · refine rns_ret (rn_ifT (Et.s (et_eqF (ev_ixT (d := ds "askers") (ev_nm 0 rfl) ev_int rfl rfl) ev_str rfl)) (decide_eq_true rfl) ?_)
    obtain ⟨z, hz, eend⟩ := atI_end ne
    have s0 : (0 : Int) < S.length := by have := List.length_pos_iff.mpr ne; omega
    have h0 := (ask.u.rg _ (lat_mem (l := S) (by decide) s0)).1
    have h1 := (ask.u.rg z hz).1
    refine rns_cons (rn_skip (Et.s (Ew.et (ew_or (et_lt (ev_ix (d := di (lat S 0)) (ev_nm 4 rfl) ev_int rfl (lat_at di (by decide) s0)) ev_int) fun _ => (ew_or1 (et_ge (ev_ix (d := di z) (ev_nm 4 rfl) (ev_neg ev_int) rfl eend) (ev_len T.b_len (ev_nm 2 rfl) (.inl rfl))))))) ?_) ?_
    · rw [decide_eq_false (by omega), el, decide_eq_false (by omega)]; rfl
    have fe : S.filter (fun b => (may.getD b.toNat []).contains (c.length : Int)) = [] := List.filter_eq_nil_iff.mpr fun b hb => by simpa using (ask.u.rg b hb).2
    refine rns_cons (rn_for (EvI.s (EvI.to (evi_range1 T.b_range (ev_len T.b_len (ev_nm 1 rfl) (.inl rfl)) (by rw [el]; omega)) (by rw [el, Int.toNat_natCast]))) (evg_nm 6 (fun _ => sc__law_is_paper.nd)) (fun k => [some (.fz (.tup [ds "askers", dis S])), some (.fz (dis c)), some (.fz (.lst (may.map dis))), some (.fz (dis must)), some (.fz (dis S)), some (ti (((numsF k).filter fun k => S.any fun b => (may.getD b.toNat []).contains k).map (lat c)).sum), none]) rfl (fun _ => rfl) (fun j d hd => ?_)) ?_
    · obtain ⟨hj, rfl⟩ := rng_get hd
      have j0 : (0 : Int) ≤ 0 + (j : Int) := by omega
      have j1 : 0 + (j : Int) < c.length := by omega
      rw [nums_succ, List.filter_append, List.map_append, List.sum_append, List.filter_cons, List.filter_nil]
      generalize (0 + (j : Int)) = y at j0 j1 ⊢
      generalize (((numsF j).filter fun k => S.any fun b => (may.getD b.toNat []).contains k).map (lat c)).sum = tot
      have et : (!eqD (er (.ow ((S.filter fun b => (may.getD b.toNat []).contains y).map ti))) (.lst [])) = S.any fun b => (may.getD b.toNat []).contains y := by
        rw [er_map _ (fun x => x), List.map_id', eqd_nil, filt_any, Bool.not_not]
      refine ⟨_, [some (.fz (.tup [ds "askers", dis S])), some (.fz (dis c)), some (.fz (.lst (may.map dis))), some (.fz (dis must)), some (.fz (dis S)), some (ti (tot + ((if (S.any fun b => (may.getD b.toNat []).contains y) = true then [y] else []).map (lat c)).sum)), some (ti y)], rfl, rns_one (rn_if (EtS.to (Et.s (et_neS (ev_lcf (own := ["_law_one"]) (fr := [6, 2]) S di (fun b => (may.getD b.toNat []).contains y) ti (fun i => lcs ⟨rfl, rfl, by decide +kernel, by decide +kernel, by decide +kernel, by decide +kernel⟩) (evi_list (ev_nm 4 rfl) rfl) (evg_nm 0 (fun _ => by show List.Nodup (["_law_one", "_law_k", "_law_may"] : List Str); decide)) (by decide) (by omega) (fun b hb => ⟨_, rfl, by
        exact el_one (et_in (ev_nm 1 rfl) (ev_ix (d := dis (may.getD b.toNat [])) (ev_nm 2 rfl) (ev_nm 0 rfl) rfl (row_at (ask.u.rg b hb).1.1 (ask.u.rg b hb).1.2)) rfl (by with_unfolding_all rfl)), fun _ => by exact ev_nm 0 rfl⟩) (fun dd => by cases dd <;> rfl)) (ev_lst eva_nil (Nat.zero_le _)) (.inl ⟨_, _, rfl, rfl⟩) (by rw [er_map _ (fun x => x)]; exact Nat.le_trans (dpD_dis _) (by decide)))) et) (fun hq => ?_) (fun hq => ?_)), [6], rfl⟩
      · rw [if_pos hq]
        refine Rns.to (rns_one (rn_set 5 (Ev.s (ev_add (ev_nm 5 rfl) (ev_ix (d := di (lat c y)) (ev_nm 1 rfl) (ev_nm 6 rfl) rfl (lat_at di j0 j1)))) (fun _ => sc__law_is_paper.nd))) ?_
        show Out.nx [_, _, _, _, _, some (ti (tot + lat c y)), _] = Out.nx [_, _, _, _, _, some (ti (tot + ([lat c y]).sum)), _]
        rw [List.sum_singleton]
      · rw [if_neg (by rw [hq]; decide)]
        refine Rns.to rns_nil ?_
        show Out.nx [_, _, _, _, _, some (ti tot), _] = Out.nx [_, _, _, _, _, some (ti (tot + 0)), _]
        rw [Int.add_zero]
    · rw [show (rngD 0 c.length).length = c.length by unfold rngD; rw [List.length_map, List.length_range]]
      refine rns_one (rn_ret (Ev.s (Ev.to (ev_and (ev_lt (ev_nm 5 rfl) (ev_len T.b_len (ev_nm 4 rfl) (.inl rfl))) fun _ => (ev_one (ev_eqS (ev_lcf (own := ["_law_one"]) (fr := [1, 2]) S di (fun b => (may.getD b.toNat []).contains (c.length : Int)) ti (fun i => lcs ⟨rfl, rfl, by decide +kernel, by decide +kernel, by decide +kernel, by decide +kernel⟩) (evi_list (ev_nm 4 rfl) rfl) (evg_nm 0 (fun _ => by show List.Nodup (["_law_one", "_law_counts", "_law_may"] : List Str); decide)) (by decide) (by omega) (fun b hb => ⟨_, rfl, by
        exact el_one (et_in (Ev.to (ev_len T.b_len (ev_nm 1 rfl) (.inl rfl)) (by rw [el])) (ev_ix (d := dis (may.getD b.toNat [])) (ev_nm 2 rfl) (ev_nm 0 rfl) rfl (row_at (ask.u.rg b hb).1.1 (ask.u.rg b hb).1.2)) rfl (by with_unfolding_all rfl)), fun _ => by exact ev_nm 0 rfl⟩) (fun dd => by cases dd <;> rfl)) (ev_lst eva_nil (Nat.zero_le _)) (.inl ⟨_, _, rfl, rfl⟩) (by rw [fe]; exact Nat.le_trans (dpD_dis []) (by decide))))) ?_)))
      rw [fe, el, decide_eq_true ask.u.sum]; rfl
  · refine rns_cons (rn_skip (Et.s (et_eqF (ev_ixT (d := ds "things") (ev_nm 0 rfl) ev_int rfl rfl) ev_str rfl)) (decide_eq_false (by decide))) ?_
    have fe : S.filter (fun b => !must.contains b) = [] := List.filter_eq_nil_iff.mpr fun b hb => by simpa using thg.u.sub b hb
    refine rns_cons (rn_skip (Et.s (Ew.et (ew_or (et_neF (ev_ixT (d := ds "things") (ev_nm 0 rfl) ev_int rfl rfl) ev_str rfl) fun _ => (ew_or1 (et_neS (ev_lcf (own := ["_law_one"]) (fr := [3]) S di (fun b => !must.contains b) ti (fun i => lcs ⟨rfl, rfl, by decide +kernel, by decide +kernel, by decide +kernel, by decide +kernel⟩) (evi_list (ev_nm 4 rfl) rfl) (evg_nm 0 (fun _ => by show List.Nodup (["_law_one", "_law_must"] : List Str); decide)) (by decide) (by omega) (fun b hb => ⟨_, rfl, by
      exact el_one (et_notin (ev_nm 0 rfl) (ev_nm 1 rfl) rfl (by with_unfolding_all rfl)), fun _ => by exact ev_nm 0 rfl⟩) (fun dd => by cases dd <;> rfl)) (ev_lst eva_nil (Nat.zero_le _)) (.inl ⟨_, _, rfl, rfl⟩) ?_))))) ?_) ?_
    · rw [fe]; exact Nat.le_trans (dpD_dis []) (by decide)
    · rw [fe, decide_eq_true rfl]; rfl
    refine rns_cons (rn_for (EvI.s (evi_list (ev_nm 4 rfl) rfl)) (evg_nm 6 (fun _ => sc__law_is_paper.nd)) (fun k => [some (.fz (.tup [ds "things", dis S])), some (.fz (dis c)), some (.fz (.lst (may.map dis))), some (.fz (dis must)), some (.fz (dis S)), some (ti (((S.take k).map (lat c)).sum)), none]) rfl (fun _ => rfl) (fun j d hd => ?_)) ?_
    · obtain ⟨y, hy, rfl⟩ := map_get hd
      have hyr := lk.mu y (thg.u.sub y (List.mem_of_getElem? hy))
      refine ⟨_, _, rfl, rns_one (rn_set 5 (Ev.s (ev_add (ev_nm 5 rfl) (ev_ix (d := di (lat c y)) (ev_nm 1 rfl) (ev_nm 6 rfl) rfl (lat_at di hyr.1 hyr.2)))) (fun _ => sc__law_is_paper.nd)), [6], ?_⟩
      show [_, _, _, _, _, some (ti (((S.take j).map (lat c)).sum + lat c y)), _] = [_, _, _, _, _, some (ti ((S.take (j + 1)).map (lat c)).sum), _]
      obtain ⟨q1, q2⟩ := List.getElem?_eq_some_iff.mp hy
      rw [List.take_succ_eq_append_getElem q1, q2, List.map_append, List.sum_append]
      show _ = [_, _, _, _, _, some (ti (((S.take j).map (lat c)).sum + ([lat c y]).sum)), _]
      rw [List.sum_singleton]
    · rw [show (S.map di).length = S.length from List.length_map _, List.take_length]
      have etest : ∀ r : List Int, (!eqD (er (.ow ((r.filter fun y => S.contains y).map ti))) (.lst [])) = r.any fun y => S.contains y := fun r => by
        rw [er_map _ (fun x => x), List.map_id', eqd_nil, filt_any, Bool.not_not]
      refine rns_one (rn_ret (Ev.s (Ev.to (ev_gt (ev_nm 5 rfl) (ev_len (xs := (may.filter fun r => r.any fun y => S.contains y).map dis) T.b_len (ev_lcf (own := ["_law_row"]) (fr := [4]) may dis (fun r => r.any fun y => S.contains y) (fun r => .fz (dis r)) (fun i => lcs ⟨rfl, rfl, by decide +kernel, by decide +kernel, by decide +kernel, by decide +kernel⟩) (evi_list (ev_nm 2 rfl) rfl) (evg_nm 0 (fun _ => by show List.Nodup (["_law_row", "_law_some"] : List Str); decide)) (by decide) (by omega) (fun r hr => ⟨_, rfl, by
        exact el_one (Et.to (et_neS (ev_lcf (own := ["_law_one"]) (fr := [1]) r di (fun y => S.contains y) ti (fun i => lcs2' ["_law_row", "_law_some"] ⟨rfl, by decide +kernel, by decide +kernel, by decide +kernel, by decide +kernel⟩ fun y hy => closF_has _ _ y hy) (evi_list (ev_nm 0 rfl) rfl) (evg_nm 0 (fun _ => by show List.Nodup (["_law_one", "_law_some"] : List Str); decide)) (by decide) (by have := (lk.io.row r hr).1; omega) (fun y hy => ⟨_, rfl, by
          exact el_one (et_in (ev_nm 0 rfl) (ev_nm 1 rfl) rfl (by with_unfolding_all rfl)), fun _ => by exact ev_nm 0 rfl⟩) (fun dd => by cases dd <;> rfl)) (ev_lst eva_nil (Nat.zero_le _)) (.inl ⟨_, _, rfl, rfl⟩) (by rw [er_map _ (fun x => x)]; exact Nat.le_trans (dpD_dis _) (by decide))) (etest r)), fun _ => by exact ev_nm 0 rfl⟩) (fun dd => by cases dd <;> rfl)) (.inl ?_))) ?_)))
      · rw [er_ow_map]; rfl
      · rw [el, decide_eq_true thg.u.sum]
end
end K33
namespace K33
open PySem L2
section
variable {P : Program} {w : World} {K : PySem.W.Frag} {mg : Str → Option Value} {base : Heap}
def capS (p : List Int × Int) (k : Int) : List Int × Int := (p.1.set k.toNat (if p.2 < lat p.1 k then p.2 else lat p.1 k), p.2 - (if p.2 < lat p.1 k then p.2 else lat p.1 k))
def cnt5 (ns : List Int) (n : Nat) : List Int := (numsF n).map fun k => cellF ns (2 + k) % 5
theorem cnt5_len (ns : List Int) (n : Nat) : (cnt5 ns n).length = n := by unfold cnt5; rw [List.length_map, nums_len]
theorem cnt5_ok (ns : List Int) (n : Nat) : ∀ x ∈ cnt5 ns n, 0 ≤ x := fun x hx => by
  obtain ⟨k, _, rfl⟩ := List.mem_map.mp hx
  exact Int.emod_nonneg _ (by decide)
structure CapOk (c c' : List Int) (sp sp' : Int) (l : List Int) : Prop where
  len : c'.length = c.length
  c0 : ∀ x ∈ c', 0 ≤ x
  s0 : 0 ≤ sp'
  off : ∀ k : Int, 0 ≤ k → k < c.length → k ∉ l → lat c' k = lat c k
  sum : (l.map (lat c')).sum + sp' = sp
theorem cap_ok : ∀ (l : List Int) (c : List Int) (sp : Int), l.Nodup → (∀ k ∈ l, 0 ≤ k ∧ k < c.length) → (∀ x ∈ c, 0 ≤ x) → 0 ≤ sp → CapOk c (l.foldl capS (c, sp)).1 sp (l.foldl capS (c, sp)).2 l
  | [], c, sp, _, _, c0, s0 => ⟨rfl, c0, s0, fun _ _ _ _ => rfl, by show 0 + sp = sp; omega⟩
  | k :: l, c, sp, nd, rg, c0, s0 => by
    have n2 := List.nodup_cons.mp nd
    have hk := rg k (.head _)
    have hv := c0 _ (lat_mem hk.1 hk.2)
    obtain ⟨m, em⟩ : ∃ m, m = (if sp < lat c k then sp else lat c k) := ⟨_, rfl⟩
    have m0 : 0 ≤ m ∧ m ≤ sp := by rw [em]; split <;> omega
    have e1 : capS (c, sp) k = (c.set k.toNat m, sp - m) := by unfold capS; rw [em]
    rw [List.foldl_cons, e1]
    have hl : (c.set k.toNat m).length = c.length := List.length_set ..
    have ih := cap_ok l (c.set k.toNat m) (sp - m) n2.2 (fun x hx => by rw [hl]; exact rg x (.tail _ hx)) (fun x hx => by
      rcases List.mem_or_eq_of_mem_set hx with z | z
      · exact c0 x z
      · omega) (by omega)
    refine ⟨ih.len.trans hl, ih.c0, ih.s0, fun x x0 x1 hx => ?_, ?_⟩
    · rw [ih.off x x0 (by rw [hl]; exact x1) fun z => hx (.tail _ z), lat_set hk.1 x0 x1, if_neg fun e => hx (by rw [e]; exact .head _)]
    · rw [List.map_cons, List.sum_cons, ih.off k hk.1 (by rw [hl]; exact hk.2) n2.1, lat_set hk.1 hk.1 hk.2, if_pos rfl]
      have := ih.sum
      omega
def fewC (ns : List Int) (n A : Nat) : List Int × Int := (bitsF (cellF ns 1) n).foldl capS (cnt5 ns n, (A : Int) - 1)
def fewL (ns : List Int) (n A : Nat) : Int := ((bitsF (cellF ns 1) n).map (lat (fewC ns n A).1)).sum + 1
def fewRow (ns : List Int) (n : Nat) (least k : Int) : List Int := if decide (k < least) = true then (bitsF (cellF ns 1) n).filter (fun j => decide (cellF ns (8 + k) / 3 / (j + 1) % 3 > 0)) else bitsF (cellF ns (8 + k)) (n + 1)
def fewR (ns : List Int) (n A : Nat) : List (List Int) := (numsF A).map (fewRow ns n (fewL ns n A))
def turnL {α : Type} (l : List α) (a : Int) : List α := cutD l (some a) none ++ cutD l none (some a)
theorem turn_perm {α : Type} (l : List α) (a : Nat) (h : a ≤ l.length) : (turnL l (a : Int)).Perm l := by
  unfold turnL cutD
  rw [HT.sIx_none, HT.sIx_none, HT.sIx_nat, HT.sIx_nat, Nat.min_eq_left h, List.drop_zero, Nat.sub_zero, List.take_of_length_le (by rw [List.length_drop]; omega)]
  exact List.perm_append_comm.trans (by rw [List.take_append_drop])
theorem fewC_ok (ns : List Int) (n A : Nat) (hA : 1 ≤ A) : CapOk (cnt5 ns n) (fewC ns n A).1 ((A : Int) - 1) (fewC ns n A).2 (bitsF (cellF ns 1) n) :=
  cap_ok _ _ _ (bits_nd _ _) (fun k hk => by rw [cnt5_len]; exact bits_rg hk) (cnt5_ok ns n) (by omega)
def fewM (ns : List Int) (n A : Nat) : List (List Int) := turnL (fewR ns n A) (cellF ns 14 % A)
theorem fewM_perm (ns : List Int) (n A : Nat) (hA : 1 ≤ A) : (fewM ns n A).Perm (fewR ns n A) := by
  have h0 := Int.emod_nonneg (cellF ns 14) (show (A : Int) ≠ 0 by omega)
  have h1 := Int.emod_lt_of_pos (cellF ns 14) (show (0 : Int) < A by omega)
  obtain ⟨a, ea⟩ : ∃ a : Nat, cellF ns 14 % A = (a : Int) := ⟨(cellF ns 14 % A).toNat, by omega⟩
  unfold fewM
  rw [ea]
  exact turn_perm _ a (by unfold fewR; rw [List.length_map, nums_len]; omega)
theorem few_ok (ns : List Int) (n A : Nat) (hn : n ≤ 6) (hA : 1 ≤ A) (h6 : A ≤ 6) : LkOk (fewC ns n A).1 (fewM ns n A) (bitsF (cellF ns 15) n) := by
  have c := fewC_ok ns n A hA
  have cl : (fewC ns n A).1.length = n := c.len.trans (cnt5_len ns n)
  refine ⟨⟨by omega, ?_, fun r hr => ?_⟩, c.c0, fun y hy => by rw [cl]; exact bits_rg hy⟩
  · rw [(fewM_perm ns n A hA).length_eq]
    unfold fewR
    rw [List.length_map, nums_len]
    exact h6
  · have hr' := (fewM_perm ns n A hA).mem_iff.mp hr
    obtain ⟨k, _, rfl⟩ := List.mem_map.mp hr'
    unfold fewRow
    split
    · refine ⟨Nat.le_trans (List.length_filter_le _ _) (by have := bits_len (cellF ns 1) n; omega), fun x hx => ?_⟩
      have := bits_rg (List.mem_filter.mp hx).1
      omega
    · refine ⟨by have := bits_len (cellF ns (8 + k)) (n + 1); omega, fun x hx => ?_⟩
      have := bits_rg hx
      omega
theorem few_none (ns : List Int) (n A : Nat) (hA : 1 ≤ A) (must d : List Int) : ¬ IsDeal (fewC ns n A).1 (fewM ns n A) must d := fun g => by
  have c := fewC_ok ns n A hA
  have cl : (fewC ns n A).1.length = n := c.len.trans (cnt5_len ns n)
  obtain ⟨S, hS⟩ : ∃ S, S = bitsF (cellF ns 1) n := ⟨_, rfl⟩
  have nd : S.Nodup := hS ▸ bits_nd _ _
  have rg : ∀ x ∈ S, 0 ≤ x ∧ x < n := fun x hx => bits_rg (hS ▸ hx)
  have h1 := sum_le (f := fun k => (d.count k : Int)) (g := lat (fewC ns n A).1) (N := S) fun k hk => g.ok.cnt k (rg k hk).1 (by rw [cl]; exact (rg k hk).2)
  rw [sum_count d nd, filt_nums d 0] at h1
  have h2 : ((fewM ns n A).filter fun r => r.all fun y => S.contains y).length ≤ ((numsF d.length).filter fun o => S.contains (d.getD o.toNat 0)).length := by
    rw [filt_nums (fewM ns n A) [], g.ok.dl, ← List.countP_eq_length_filter, ← List.countP_eq_length_filter]
    refine List.countP_mono_left fun o ho h => ?_
    have ho' := mem_nums.mp ho
    have := g.ok.mem o ho'.1 ho'.2
    unfold lat at this
    exact List.all_eq_true.mp h _ this
  rw [((fewM_perm ns n A hA).filter _).length_eq] at h2
  have hs := c.sum
  have s0 := c.s0
  have eL : fewL ns n A = (S.map (lat (fewC ns n A).1)).sum + 1 := by unfold fewL; rw [hS]
  rw [← hS] at hs
  have lA : fewL ns n A ≤ A := by omega
  have l0 : 0 ≤ fewL ns n A := by
    have : (0 : Int) ≤ (((numsF d.length).filter fun o => S.contains (d.getD o.toNat 0)).length : Nat) := by omega
    omega
  obtain ⟨L, eLn⟩ : ∃ L : Nat, fewL ns n A = (L : Int) := ⟨(fewL ns n A).toNat, by omega⟩
  have h3 : L ≤ ((fewR ns n A).filter fun r => r.all fun y => S.contains y).length := by
    have e : numsF A = numsF L ++ (numsF A).drop L := by
      have : (numsF A).take L = numsF L := by
        unfold numsF
        rw [← List.map_take, List.take_range, Nat.min_eq_left (by omega)]
      rw [← this, List.take_append_drop]
    unfold fewR
    rw [e, List.map_append, List.filter_append, List.length_append]
    have : ((numsF L).map (fewRow ns n (fewL ns n A))).filter (fun r => r.all fun y => S.contains y) = (numsF L).map (fewRow ns n (fewL ns n A)) := List.filter_eq_self.mpr fun r hr => by
      obtain ⟨k, hk, rfl⟩ := List.mem_map.mp hr
      have hk' := mem_nums.mp hk
      unfold fewRow
      rw [if_pos (decide_eq_true (by omega)), ← hS]
      exact List.all_eq_true.mpr fun y hy => by simpa using (List.mem_filter.mp hy).1
    rw [this, List.length_map, nums_len]
    omega
  omega
abbrev s__law_few : Stmt := top 11
theorem sc__law_few : FnScope ["_law_script", "_law_many_here", "_law_askers", "_law_some", "_law_counts", "_law_spare", "_law_k", "_law_least", "_law_may", "_law_cell", "_law_at"] ["_law_script", "_law_many_here", "_law_askers"] (defScope s__law_few) := ⟨rfl, rfl, rfl, by decide +kernel, rfl, by decide +kernel, by decide +kernel⟩
def rFew (dd : List Dv) (t : Tr) : Prop := ∃ (ns : List Int) (n A : Nat), n ≤ 6 ∧ 1 ≤ A ∧ A ≤ 6 ∧ dd = [dis ns, di (n : Nat), di (A : Nat)] ∧ t = .fz (.tup [dis (fewC ns n A).1, .lst ((fewM ns n A).map dis), dis (bitsF (cellF ns 15) n)])
theorem take_fold {α β : Type} (g : β → α → β) (z : β) {l : List α} {j : Nat} {y : α} (h : l[j]? = some y) : (l.take (j + 1)).foldl g z = g ((l.take j).foldl g z) y := by
  obtain ⟨q1, q2⟩ := List.getElem?_eq_some_iff.mp h
  rw [List.take_succ_eq_append_getElem q1, q2, List.foldl_append]; rfl
theorem ok__law_few {f f1 f2 : Addr} {fd fd1 fd2 : FuncData} {k : Nat} (F : Fun K "_law_few" "_law_few" s__law_few f fd) (T : Txt mg) (K__law_bits : Kn P w K mg base CX0 (k + 1) "_law_bits" f1 fd1 ["_law_cell", "_law_many_here"] (spT K rBits)) (K__law_cell_at : Kn P w K mg base CX0 (k + 1) "_law_cell_at" f2 fd2 ["_law_script", "_law_k"] (spT K rCell)) : FnOk P w K mg base CX0 (k + 2) f fd ["_law_script", "_law_many_here", "_law_askers"] (spT K rFew) := by
  refine fn_ok F.d sc__law_few (fun dd t h => by obtain ⟨_, _, _, _, _, _, rfl, _⟩ := h; rfl) fun dd t h => ?_
  obtain ⟨ns, n, A, hn, hA, h6, rfl, rfl⟩ := h
  refine ⟨_, .inl rfl, ?_⟩
  have big : 1000 < sizeLine := by decide
  have eS : ∃ S, S = bitsF (cellF ns 1) n := ⟨_, rfl⟩
  obtain ⟨S, eS⟩ := eS
  have sl : S.length ≤ n := eS ▸ bits_len _ _
  have nd : S.Nodup := eS ▸ bits_nd _ _
  have rg : ∀ x ∈ S, 0 ≤ x ∧ x < n := fun x hx => bits_rg (eS ▸ hx)
  refine rns_cons (rn_set 3 (Ev.s (Ev.as (d := dis S) (ev_call K__law_bits (Nat.le_refl _) (eva_cons (ev_call K__law_cell_at (Nat.le_refl _) (eva_cons (ev_nm 0 rfl) (eva_cons ev_int eva_nil)) ⟨ns, 1, by decide, rfl, rfl⟩) (eva_cons (ev_nm 1 rfl) eva_nil)) ⟨cellF ns 1, n, by omega, rfl, rfl⟩) (by rw [er_tInts, eS]))) (fun _ => sc__law_few.nd)) ?_
  refine rns_cons (rn_set 4 (Ev.s (Ev.to (t' := tInts (cnt5 ns n)) (ev_lcm (own := ["_law_k"]) (fr := [0]) (numsF n) di (fun k => ti (cellF ns (2 + k) % 5)) (fun i => lcs ⟨rfl, rfl, by decide +kernel, by decide +kernel, by decide +kernel, by decide +kernel⟩) (EvI.to (evi_range1 (n := ((n : Nat) : Int)) T.b_range (ev_nm 1 rfl) ⟨by omega, by omega⟩) (by rw [Int.toNat_natCast, nums_di])) (evg_nm 0 (fun _ => by show List.Nodup (["_law_k", "_law_script"] : List Str); decide)) (by decide) (by rw [nums_len]; omega) (fun x hx => ⟨_, rfl, by
      have hx' := mem_nums.mp hx
      exact ev_mod (ev_call K__law_cell_at (Nat.le_refl _) (eva_cons (ev_nm 1 rfl) (eva_cons (ev_add ev_int (ev_nm 0 rfl)) eva_nil)) ⟨ns, _, by omega, rfl, rfl⟩) ev_int (by decide)⟩) (fun dd => by cases dd <;> rfl)) (by unfold cnt5; show _ = Tr.ow (List.map _ _); rw [List.map_map]; rfl))) (fun _ => sc__law_few.nd)) ?_
  refine rns_cons (rn_set 5 (Ev.s (ev_sub (ev_nm 2 rfl) ev_int)) (fun _ => sc__law_few.nd)) ?_
  show Rns _ _ [some (.fz (dis ns)), some (ti (n : Nat)), some (ti (A : Nat)), some (.fz (dis S)), some (tInts (cnt5 ns n)), some (ti ((A : Int) - 1)), none, none, none, none, none] _
  refine rns_cons (rn_for (EvI.s (evi_list (ev_nm 3 rfl) rfl)) (evg_nm 6 (fun _ => sc__law_few.nd)) (fun j => [some (.fz (dis ns)), some (ti (n : Nat)), some (ti (A : Nat)), some (.fz (dis S)), some (tInts ((S.take j).foldl capS (cnt5 ns n, (A : Int) - 1)).1), some (ti ((S.take j).foldl capS (cnt5 ns n, (A : Int) - 1)).2), none, none, none, none, none]) rfl (fun _ => rfl) (fun j d hd => ?_)) ?_
  · obtain ⟨y, hy, rfl⟩ := map_get hd
    have hyr := rg y (List.mem_of_getElem? hy)
    rw [take_fold capS _ hy]
    have cl : ((S.take j).foldl capS (cnt5 ns n, (A : Int) - 1)).1.length = n := (cap_ok (S.take j) _ _ (nd.sublist (List.take_sublist _ _)) (fun x hx => by rw [cnt5_len]; exact rg x (List.mem_of_mem_take hx)) (cnt5_ok ns n) (by omega)).len.trans (cnt5_len ns n)
    generalize (S.take j).foldl capS (cnt5 ns n, (A : Int) - 1) = p at cl
    obtain ⟨c, sp⟩ := p
    simp only at cl
    obtain ⟨m, em⟩ : ∃ m, m = (if sp < lat c y then sp else lat c y) := ⟨_, rfl⟩
    have e1 : capS (c, sp) y = (c.set y.toNat m, sp - m) := by unfold capS; rw [em]
    rw [e1]
    refine ⟨_, [some (.fz (dis ns)), some (ti (n : Nat)), some (ti (A : Nat)), some (.fz (dis S)), some (tInts (c.set y.toNat m)), some (ti (sp - m)), some (ti y), none, none, none, none], rfl, ?_, [6], rfl⟩
    refine rns_cons (rn_ixset 4 (n := y) (m := y.toNat) (us := c.map fun n => .fz (di n)) (t := ti m) rfl (Ev.s (ev_nm 6 rfl)) (by rw [List.length_map, cl]; unfold ixN; rw [if_pos hyr.1, if_pos hyr.2]) (EvS.to (Ev.pk (ev_min2 T.b_min (ev_ix (d := di (lat c y)) (ev_nm 4 rfl) (ev_nm 6 rfl) (er_tInts c) (lat_at di hyr.1 (by rw [cl]; exact hyr.2))) (ev_nm 5 rfl)) True.intro) (by rw [em])) (hps := fun i => pg_sub (pv 4) (uE_ok i) set_list)) ?_
    have es : Tr.ow ((c.map fun n => Tr.fz (di n)).set y.toNat (ti m)) = tInts (c.set y.toNat m) := by
      show _ = Tr.ow (List.map _ _)
      rw [List.map_set]
    show Rns _ _ [some (.fz (dis ns)), some (ti (n : Nat)), some (ti (A : Nat)), some (.fz (dis S)), some (Tr.ow ((c.map fun n => Tr.fz (di n)).set y.toNat (ti m))), some (ti sp), some (ti y), none, none, none, none] _
    rw [es]
    have hm : lat (c.set y.toNat m) y = m := by rw [lat_set hyr.1 hyr.1 (by rw [cl]; exact hyr.2), if_pos rfl]
    refine Rns.to (rns_one (rn_set 5 (Ev.pk (ev_sub (ev_nm 5 rfl) (ev_ix (d := di (lat (c.set y.toNat m) y)) (ev_nm 4 rfl) (ev_nm 6 rfl) (er_tInts _) (lat_at di hyr.1 (by rw [List.length_set, cl]; exact hyr.2)))) True.intro) (fun _ => sc__law_few.nd))) ?_
    rw [hm]; rfl
  rw [show (S.map di).length = S.length from List.length_map _, List.take_length]
  have c := fewC_ok ns n A hA
  have cl : (fewC ns n A).1.length = n := c.len.trans (cnt5_len ns n)
  have eC : S.foldl capS (cnt5 ns n, (A : Int) - 1) = fewC ns n A := by unfold fewC; rw [eS]
  rw [eC]
  have eL : (S.map (lat (fewC ns n A).1)).sum + 1 = fewL ns n A := by unfold fewL; rw [eS]
  have eR : ∀ x, fewRow ns n (fewL ns n A) x = if decide (x < fewL ns n A) = true then S.filter (fun j => decide (0 < cellF ns (8 + x) / 3 / (j + 1) % 3)) else bitsF (cellF ns (8 + x)) (n + 1) := fun x => by unfold fewRow; rw [eS]
  have eM : fewM ns n A = turnL ((numsF A).map (fewRow ns n (fewL ns n A))) (cellF ns 14 % A) := rfl
  rw [eM]
  generalize fewL ns n A = L at eL eR
  generalize (fewC ns n A).1 = C at cl eL
  generalize fewRow ns n L = rowF at eR
  refine rns_freezeTo (d := dis C) 4 rfl (er_tInts _) ?_
  refine rns_cons (rn_set 7 (EvS.to (t' := ti L) (Ev.s (ev_add (ev_sum (ns := S.map (lat C)) T.b_sum (ev_lcm (own := ["_law_k"]) (fr := [4]) S di (fun k => ti (lat C k)) (fun i => lcs ⟨rfl, rfl, by decide +kernel, by decide +kernel, by decide +kernel, by decide +kernel⟩) (evi_list (ev_nm 3 rfl) rfl) (evg_nm 0 (fun _ => by show List.Nodup (["_law_k", "_law_counts"] : List Str); decide)) (by decide) (by omega) (fun x hx => ⟨_, rfl, by
    have hx' := rg x hx
    exact ev_ix (d := di (lat C x)) (ev_nm 1 rfl) (ev_nm 0 rfl) rfl (lat_at di hx'.1 (by rw [cl]; exact hx'.2))⟩) (fun dd => by cases dd <;> rfl)) (er_map _ _)) ev_int)) (by rw [eL])) (fun _ => sc__law_few.nd)) ?_
  refine rns_cons (rn_set 8 (Ev.s (ev_lst eva_nil (Nat.zero_le _))) (fun _ => sc__law_few.nd)) ?_
  show Rns _ _ [some (.fz (dis ns)), some (ti (n : Nat)), some (ti (A : Nat)), some (.fz (dis S)), some (.fz (dis C)), some (ti (fewC ns n A).2), none, some (ti L), some (.ow []), none, none] _
  generalize (fewC ns n A).2 = sp
  refine rns_cons (rn_for (its := rngD 0 A) (EvI.s (EvI.to (evi_range1 (n := ((A : Nat) : Int)) T.b_range (ev_nm 2 rfl) ⟨by omega, by omega⟩) (by rw [Int.toNat_natCast]))) (evg_nm 6 (fun _ => sc__law_few.nd)) (fun j => [some (.fz (dis ns)), some (ti (n : Nat)), some (ti (A : Nat)), some (.fz (dis S)), some (.fz (dis C)), some (ti sp), none, some (ti L), some (tRows ((numsF j).map rowF)), none, none]) rfl (fun _ => rfl) (fun j d hd => ?_)) ?_
  · obtain ⟨hj, rfl⟩ := rng_get hd
    have hz : (((numsF j).map rowF).map tInts).length < sizeLine := by rw [List.length_map, List.length_map, nums_len]; omega
    have en : tRows ((numsF (j + 1)).map rowF) = .ow ((((numsF j).map rowF).map tInts) ++ [tInts (rowF (0 + (j : Int)))]) := by
      rw [nums_succ]; show Tr.ow _ = _; rw [List.map_append, List.map_append]; rfl
    rw [en]
    have j0 : 0 ≤ 0 + (j : Int) := by omega
    have eRj := eR (0 + (j : Int))
    generalize (0 + (j : Int)) = y at j0 eRj
    refine ⟨_, [some (.fz (dis ns)), some (ti (n : Nat)), some (ti (A : Nat)), some (.fz (dis S)), some (.fz (dis C)), some (ti sp), some (ti y), some (ti L), some (.ow ((((numsF j).map rowF).map tInts) ++ [tInts (rowF y)])), some (ti (cellF ns (8 + y))), none], rfl, ?_, [6, 9], rfl⟩
    refine rns_cons (rn_set 9 (Ev.s (ev_call K__law_cell_at (Nat.le_refl _) (eva_cons (ev_nm 0 rfl) (eva_cons (ev_add ev_int (ev_nm 6 rfl)) eva_nil)) ⟨ns, _, by omega, rfl, rfl⟩)) (fun _ => sc__law_few.nd)) ?_
    show Rns _ _ [some (.fz (dis ns)), some (ti (n : Nat)), some (ti (A : Nat)), some (.fz (dis S)), some (.fz (dis C)), some (ti sp), some (ti y), some (ti L), some (.ow (((numsF j).map rowF).map tInts)), some (ti (cellF ns (8 + y))), none] _
    refine rns_one (rn_if (Et.s (et_lt (ev_nm 6 rfl) (ev_nm 7 rfl))) (fun h => ?_) (fun h => ?_))
    · rw [eRj, if_pos h]
      exact rns_one (rn_append 8 rfl (Ev.s (ev_lcf (own := ["_law_j"]) (fr := [9]) S di (fun j => decide (0 < cellF ns (8 + y) / 3 / (j + 1) % 3)) ti (fun i => lcs ⟨rfl, rfl, by decide +kernel, by decide +kernel, by decide +kernel, by decide +kernel⟩) (evi_list (ev_nm 3 rfl) rfl) (evg_nm 0 (fun _ => by show List.Nodup (["_law_j", "_law_cell"] : List Str); decide)) (by decide) (by omega) (fun x hx => ⟨_, rfl, by
        have hx' := rg x hx
        exact el_one (et_gt (ev_mod (ev_div (ev_div (ev_nm 1 rfl) ev_int ⟨by decide, small_lt (by decide) (by decide)⟩) (ev_add (ev_nm 0 rfl) ev_int) ⟨by omega, small_lt (by omega) (by omega)⟩) ev_int (by decide)) ev_int), fun _ => by exact ev_nm 0 rfl⟩) (fun dd => by cases dd <;> rfl))) hz)
    · rw [eRj, if_neg (by rw [h]; decide)]
      exact rns_one (rn_append 8 rfl (Ev.s (ev_call K__law_bits (Nat.le_refl _) (eva_cons (ev_nm 9 rfl) (eva_cons (ev_add (ev_nm 1 rfl) ev_int) eva_nil)) ⟨cellF ns (8 + y), n + 1, by omega, rfl, rfl⟩)) hz)
  rw [show (rngD 0 A).length = A by unfold rngD; rw [List.length_map, List.length_range]]
  have ml : ((numsF A).map rowF).length = A := by rw [List.length_map, nums_len]
  generalize (numsF A).map rowF = M at ml
  refine rns_freezeTo (d := .lst (M.map dis)) 8 rfl (er_tRows _) ?_
  refine rns_cons (rn_set 10 (Ev.s (ev_mod (ev_call K__law_cell_at (Nat.le_refl _) (eva_cons (ev_nm 0 rfl) (eva_cons ev_int eva_nil)) ⟨ns, 14, by decide, rfl, rfl⟩) (ev_nm 2 rfl) (by omega))) (fun _ => sc__law_few.nd)) ?_
  refine rns_one (rn_ret (Ev.s (Ev.as (ev_tup (eva_cons (ev_nm 4 rfl) (eva_cons (ev_cat (ev_slice (ev_nm 8 rfl) rfl (eo_some (ev_nm 10 rfl)) eo_none) (ev_slice (ev_nm 8 rfl) rfl eo_none (eo_some (ev_nm 10 rfl))) (er_fzs _) (er_fzs _) ?_) (eva_cons (ev_call K__law_bits (Nat.le_refl _) (eva_cons (ev_call K__law_cell_at (Nat.le_refl _) (eva_cons (ev_nm 0 rfl) (eva_cons ev_int eva_nil)) ⟨ns, 15, by decide, rfl, rfl⟩) (eva_cons (ev_nm 1 rfl) eva_nil)) ⟨cellF ns 15, n, by omega, rfl, rfl⟩) eva_nil))) (by show 3 ≤ sizeLine; decide)) ?_)))
  · have h1 := cutD_len (M.map dis) (some (cellF ns 14 % A)) none
    have h2 := cutD_len (M.map dis) none (some (cellF ns 14 % A))
    rw [List.length_map] at h1 h2
    omega
  · show Dv.tup [_, er (.ow _), er (tInts _)] = _
    rw [er_fzs, er_tInts, cutD_map, cutD_map, ← List.map_append]
    rfl
end
end K33
namespace K33
open PySem L2
section
variable {P : Program} {w : World} {K : PySem.W.Frag} {mg : Str → Option Value} {base : Heap}
def mustF (ns : List Int) (n : Nat) : List Int := if (bitsF (cellF ns 1) n).isEmpty = true then [(n : Int) - 1] else bitsF (cellF ns 1) n
def manC (c must : List Int) (can : Int) : List Int := c.set (lat must 0).toNat (lat c (lat must 0) + (if 0 > can + 1 - (must.map (lat c)).sum then 0 else can + 1 - (must.map (lat c)).sum))
def manRow (ns : List Int) (n : Nat) (must : List Int) (can k : Int) : List Int := if decide (k < can) = true then bitsF (cellF ns (8 + k)) (n + 1) else (bitsF (cellF ns (8 + k)) (n + 1)).filter (fun j => !must.contains j && !decide (j = (n : Int))) ++ [(n : Int)]
structure MuOk (n : Nat) (must : List Int) : Prop where
  ne : must ≠ []
  nd : must.Nodup
  rg : ∀ x ∈ must, 0 ≤ x ∧ x < n
  len : must.length ≤ n
theorem must_ok (ns : List Int) (n : Nat) (h : 1 ≤ n) : MuOk n (mustF ns n) := by
  unfold mustF
  by_cases e : (bitsF (cellF ns 1) n).isEmpty = true
  · rw [if_pos e]
    refine ⟨by simp, by simp, fun x hx => ?_, by show 1 ≤ n; exact h⟩
    rw [List.mem_singleton.mp hx]; omega
  · rw [if_neg e]
    exact ⟨fun z => e (by rw [z]; rfl), bits_nd _ _, fun x hx => bits_rg hx, bits_len _ _⟩
theorem MuOk.hd {n : Nat} {must : List Int} (m : MuOk n must) : ∃ r, must = lat must 0 :: r := by
  cases must with
  | nil => exact absurd rfl m.ne
  | cons x r => exact ⟨r, rfl⟩
theorem man_sum {n : Nat} {must c : List Int} (m : MuOk n must) (hc : c.length = n) (can : Int) : can + 1 ≤ (must.map (lat (manC c must can))).sum := by
  obtain ⟨r, er⟩ := m.hd
  unfold manC
  generalize hx : lat must 0 = x at er
  have nd := m.nd
  have rg := m.rg
  subst er
  have n2 := List.nodup_cons.mp nd
  have hxr := rg x (.head _)
  have tail : ∀ v, (r.map (lat (c.set x.toNat v))) = r.map (lat c) := fun v => List.map_congr_left fun y hy => by
    have hyr := rg y (.tail _ hy)
    rw [lat_set hxr.1 hyr.1 (by rw [hc]; exact hyr.2), if_neg (fun (e : x = y) => n2.1 (by rw [e]; exact hy))]
  rw [List.map_cons, List.sum_cons, List.map_cons, List.sum_cons, lat_set hxr.1 hxr.1 (by rw [hc]; exact hxr.2), if_pos rfl, tail]
  split <;> omega
theorem man_c0 {n : Nat} {must c : List Int} (m : MuOk n must) (hc : c.length = n) (c0 : ∀ x ∈ c, 0 ≤ x) (can : Int) : ∀ x ∈ manC c must can, 0 ≤ x := fun x hx => by
  unfold manC at hx
  rcases List.mem_or_eq_of_mem_set hx with z | z
  · exact c0 x z
  · obtain ⟨r, er⟩ := m.hd
    have hxr := m.rg (lat must 0) (by rw [er]; exact .head _)
    have := c0 _ (lat_mem hxr.1 (show lat must 0 < c.length by rw [hc]; exact hxr.2))
    rw [z]
    split <;> omega
def manM (ns : List Int) (n A : Nat) : List (List Int) := (numsF A).map (manRow ns n (mustF ns n) (cellF ns 14 % A))
theorem many_ok (ns : List Int) (n A : Nat) (hn : 1 ≤ n) (h6 : n ≤ 6) (hA : A ≤ 6) : LkOk (manC (cnt5 ns n) (mustF ns n) (cellF ns 14 % A)) (manM ns n A) (mustF ns n) := by
  have m := must_ok ns n hn
  have cl : (manC (cnt5 ns n) (mustF ns n) (cellF ns 14 % A)).length = n := by unfold manC; rw [List.length_set, cnt5_len]
  refine ⟨⟨by omega, by unfold manM; rw [List.length_map, nums_len]; exact hA, fun r hr => ?_⟩, man_c0 m (cnt5_len ns n) (cnt5_ok ns n) _, fun y hy => by rw [cl]; exact m.rg y hy⟩
  obtain ⟨k, _, rfl⟩ := List.mem_map.mp hr
  rw [cl]
  unfold manRow
  have hb := bits_len (cellF ns (8 + k)) (n + 1)
  split
  · exact ⟨by omega, fun x hx => by have := bits_rg hx; omega⟩
  · refine ⟨?_, fun x hx => ?_⟩
    · have nd := bits_nd (cellF ns (8 + k)) (n + 1)
      have h1 := seen_le (A := n) (s := (bitsF (cellF ns (8 + k)) (n + 1)).filter (fun j => !(mustF ns n).contains j && !decide (j = (n : Int)))) (fun x hx => by
        have h2 := List.mem_filter.mp hx
        have h3 := bits_rg h2.1
        have h4 : x ≠ (n : Int) := fun e => by
          have := (Bool.and_eq_true _ _ ▸ h2.2).2
          rw [e] at this
          simp at this
        omega) (nd.filter _)
      rw [List.length_append, List.length_singleton]; omega
    · rcases List.mem_append.mp hx with z | z
      · have := bits_rg (List.mem_filter.mp z).1; omega
      · rw [List.mem_singleton.mp z]; omega
theorem many_none (ns : List Int) (n A : Nat) (hn : 1 ≤ n) (hA : 1 ≤ A) (d : List Int) : ¬ IsDeal (manC (cnt5 ns n) (mustF ns n) (cellF ns 14 % A)) (manM ns n A) (mustF ns n) d := fun g => by
  have m := must_ok ns n hn
  have hs := man_sum m (cnt5_len ns n) (cellF ns 14 % A)
  have h0 := Int.emod_nonneg (cellF ns 14) (show (A : Int) ≠ 0 by omega)
  have h1 := Int.emod_lt_of_pos (cellF ns 14) (show (0 : Int) < A by omega)
  refine deal_thg g ⟨m.ne, m.nd, fun y hy => hy, ?_⟩
  refine Int.lt_of_le_of_lt (b := cellF ns 14 % A) ?_ (by omega)
  unfold manM
  generalize cellF ns 14 % A = can at h0 h1
  generalize mustF ns n = must at m
  obtain ⟨L, eL⟩ : ∃ L : Nat, can = (L : Int) := ⟨can.toNat, by omega⟩
  subst eL
  have e : numsF A = numsF L ++ (numsF A).drop L := by
    have : (numsF A).take L = numsF L := by
      unfold numsF
      rw [← List.map_take, List.take_range, Nat.min_eq_left (by omega)]
    rw [← this, List.take_append_drop]
  rw [e, List.map_append, List.filter_append, List.length_append]
  have h2 : (((numsF A).drop L).map (manRow ns n must (L : Int))).filter (fun r => r.any fun y => must.contains y) = [] := List.filter_eq_nil_iff.mpr fun r hr h => by
    obtain ⟨k, hk, rfl⟩ := List.mem_map.mp hr
    have hkL : (L : Int) ≤ k := by
      unfold numsF at hk
      rw [← List.map_drop, List.mem_map] at hk
      obtain ⟨i, hi, rfl⟩ := hk
      obtain ⟨q, hq, e2⟩ := List.getElem_of_mem hi
      rw [List.getElem_drop, List.getElem_range] at e2
      omega
    obtain ⟨y, hy, hc⟩ := List.any_eq_true.mp h
    have hcm : y ∈ must := by simpa using hc
    unfold manRow at hy
    rw [if_neg (by rw [decide_eq_false (by omega)]; decide)] at hy
    rcases List.mem_append.mp hy with z | z
    · have := (Bool.and_eq_true _ _ ▸ (List.mem_filter.mp z).2).1
      rw [hc] at this
      cases this
    · rw [List.mem_singleton.mp z] at hcm
      have := m.rg _ hcm
      omega
  rw [h2]
  have h3 := List.length_filter_le (fun r => r.any fun y => must.contains y) ((numsF L).map (manRow ns n must (L : Int)))
  rw [List.length_map, nums_len] at h3
  show (((_ : Nat) + 0 : Nat) : Int) ≤ _
  omega
abbrev s__law_many : Stmt := top 12
theorem sc__law_many : FnScope ["_law_script", "_law_many_here", "_law_askers", "_law_must", "_law_counts", "_law_can", "_law_lack", "_law_may", "_law_k", "_law_some"] ["_law_script", "_law_many_here", "_law_askers"] (defScope s__law_many) := ⟨rfl, rfl, rfl, by decide +kernel, rfl, by decide +kernel, by decide +kernel⟩
def rMany (dd : List Dv) (t : Tr) : Prop := ∃ (ns : List Int) (n A : Nat), 1 ≤ n ∧ n ≤ 6 ∧ 1 ≤ A ∧ A ≤ 6 ∧ dd = [dis ns, di (n : Nat), di (A : Nat)] ∧ t = .fz (.tup [dis (manC (cnt5 ns n) (mustF ns n) (cellF ns 14 % A)), .lst ((manM ns n A).map dis), dis (mustF ns n)])
theorem ok__law_many {f f1 f2 : Addr} {fd fd1 fd2 : FuncData} {k : Nat} (F : Fun K "_law_many" "_law_many" s__law_many f fd) (T : Txt mg) (K__law_bits : Kn P w K mg base CX0 (k + 1) "_law_bits" f1 fd1 ["_law_cell", "_law_many_here"] (spT K rBits)) (K__law_cell_at : Kn P w K mg base CX0 (k + 1) "_law_cell_at" f2 fd2 ["_law_script", "_law_k"] (spT K rCell)) : FnOk P w K mg base CX0 (k + 2) f fd ["_law_script", "_law_many_here", "_law_askers"] (spT K rMany) := by
  refine fn_ok F.d sc__law_many (fun dd t h => by obtain ⟨_, _, _, _, _, _, _, rfl, _⟩ := h; rfl) fun dd t h => ?_
  obtain ⟨ns, n, A, hn1, hn, hA, h6, rfl, rfl⟩ := h
  refine ⟨_, .inl rfl, ?_⟩
  have big : 1000 < sizeLine := by decide
  have m := must_ok ns n hn1
  refine rns_cons (rn_set 3 (Ev.s (Ev.as (d := dis (bitsF (cellF ns 1) n)) (ev_call K__law_bits (Nat.le_refl _) (eva_cons (ev_call K__law_cell_at (Nat.le_refl _) (eva_cons (ev_nm 0 rfl) (eva_cons ev_int eva_nil)) ⟨ns, 1, by decide, rfl, rfl⟩) (eva_cons (ev_nm 1 rfl) eva_nil)) ⟨cellF ns 1, n, by omega, rfl, rfl⟩) (er_tInts _))) (fun _ => sc__law_many.nd)) ?_
  show Rns _ _ [some (.fz (dis ns)), some (ti (n : Nat)), some (ti (A : Nat)), some (.fz (dis (bitsF (cellF ns 1) n))), none, none, none, none, none, none] _
  refine rns_cons (ρ1 := [some (.fz (dis ns)), some (ti (n : Nat)), some (ti (A : Nat)), some (.fz (dis (mustF ns n))), none, none, none, none, none, none]) (rn_if (Et.s (et_eqS (ev_nm 3 rfl) (ev_lst eva_nil (Nat.zero_le _)) (.inl ⟨_, _, rfl, rfl⟩) (Nat.le_trans (dpD_dis _) (by decide)))) (fun h => ?_) (fun h => ?_)) ?_
  · have h' : (bitsF (cellF ns 1) n).isEmpty = true := (eqd_nil di _).symm.trans h
    rw [show mustF ns n = [(n : Int) - 1] by unfold mustF; rw [if_pos h']]
    exact rns_one (rn_set 3 (Ev.s (Ev.as (d := dis [(n : Int) - 1]) (ev_lst (eva_cons (ev_sub (ev_nm 1 rfl) ev_int) eva_nil) (by show 1 ≤ sizeLine; decide)) rfl)) (fun _ => sc__law_many.nd))
  · have h' : (bitsF (cellF ns 1) n).isEmpty = false := (eqd_nil di _).symm.trans h
    rw [show mustF ns n = bitsF (cellF ns 1) n by unfold mustF; rw [if_neg (by rw [h']; decide)]]
    exact rns_nil
  have eM : manM ns n A = (numsF A).map (manRow ns n (mustF ns n) (cellF ns 14 % A)) := rfl
  rw [eM]
  generalize mustF ns n = must at m
  have a0 := Int.emod_nonneg (cellF ns 14) (show (A : Int) ≠ 0 by omega)
  refine rns_cons (rn_set 4 (Ev.s (Ev.to (t' := tInts (cnt5 ns n)) (ev_lcm (own := ["_law_k"]) (fr := [0]) (numsF n) di (fun k => ti (cellF ns (2 + k) % 5)) (fun i => lcs ⟨rfl, rfl, by decide +kernel, by decide +kernel, by decide +kernel, by decide +kernel⟩) (EvI.to (evi_range1 (n := ((n : Nat) : Int)) T.b_range (ev_nm 1 rfl) ⟨by omega, by omega⟩) (by rw [Int.toNat_natCast, nums_di])) (evg_nm 0 (fun _ => by show List.Nodup (["_law_k", "_law_script"] : List Str); decide)) (by decide) (by rw [nums_len]; omega) (fun x hx => ⟨_, rfl, by
      have hx' := mem_nums.mp hx
      exact ev_mod (ev_call K__law_cell_at (Nat.le_refl _) (eva_cons (ev_nm 1 rfl) (eva_cons (ev_add ev_int (ev_nm 0 rfl)) eva_nil)) ⟨ns, _, by omega, rfl, rfl⟩) ev_int (by decide)⟩) (fun dd => by cases dd <;> rfl)) (by unfold cnt5; show _ = Tr.ow (List.map _ _); rw [List.map_map]; rfl))) (fun _ => sc__law_many.nd)) ?_
  have cl := cnt5_len ns n
  generalize cnt5 ns n = c at cl
  refine rns_cons (rn_set 5 (Ev.s (ev_mod (ev_call K__law_cell_at (Nat.le_refl _) (eva_cons (ev_nm 0 rfl) (eva_cons ev_int eva_nil)) ⟨ns, 14, by decide, rfl, rfl⟩) (ev_nm 2 rfl) (by omega))) (fun _ => sc__law_many.nd)) ?_
  generalize cellF ns 14 % (A : Int) = can at a0
  show Rns _ _ [some (.fz (dis ns)), some (ti (n : Nat)), some (ti (A : Nat)), some (.fz (dis must)), some (tInts c), some (ti can), none, none, none, none] _
  have ml := m.len
  refine rns_cons (rn_set 6 (Ev.pk (ev_sub (ev_add (ev_nm 5 rfl) ev_int) (ev_sum (ns := must.map (lat c)) T.b_sum (ev_lcm (own := ["_law_k"]) (fr := [4]) must di (fun k => ti (lat c k)) (fun i => lcs ⟨rfl, rfl, by decide +kernel, by decide +kernel, by decide +kernel, by decide +kernel⟩) (evi_list (ev_nm 3 rfl) rfl) (evg_nm 0 (fun _ => by show List.Nodup (["_law_k", "_law_counts"] : List Str); decide)) (by decide) (by omega) (fun x hx => ⟨_, rfl, by
    have hx' := m.rg x hx
    exact ev_ix (d := di (lat c x)) (ev_nm 1 rfl) (ev_nm 0 rfl) (er_tInts c) (lat_at di hx'.1 (by rw [cl]; exact hx'.2))⟩) (fun dd => by cases dd <;> rfl)) (er_map _ _))) True.intro) (fun _ => sc__law_many.nd)) ?_
  show Rns _ _ [some (.fz (dis ns)), some (ti (n : Nat)), some (ti (A : Nat)), some (.fz (dis must)), some (tInts c), some (ti can), some (ti (can + 1 - (must.map (lat c)).sum)), none, none, none] _
  have hx : 0 ≤ lat must 0 ∧ lat must 0 < n := by
    obtain ⟨r, er⟩ := m.hd
    exact m.rg _ (by rw [er]; exact .head _)
  have m0 : (0 : Int) < must.length := by have := List.length_pos_iff.mpr m.ne; omega
  refine rns_cons (rn_ixset 4 (n := lat must 0) (m := (lat must 0).toNat) (us := c.map fun n => .fz (di n)) rfl (Ev.s (ev_ix (d := di (lat must 0)) (ev_nm 3 rfl) ev_int rfl (lat_at di (by decide) m0))) (by rw [List.length_map, cl]; unfold ixN; rw [if_pos hx.1, if_pos hx.2]) (Ev.pk (ev_add (ev_ix (d := di (lat c (lat must 0))) (ev_nm 4 rfl) (ev_ix (d := di (lat must 0)) (ev_nm 3 rfl) ev_int rfl (lat_at di (by decide) m0)) (er_tInts c) (lat_at di hx.1 (by rw [cl]; exact hx.2))) (ev_max2 T.b_max (ev_nm 6 rfl) ev_int)) True.intro) (hps := fun i => pg_sub (pv 4) (uE_ok i) set_list)) ?_
  refine rns_freezeTo (d := dis (manC c must can)) 4 rfl ?_ ?_
  · show er (Tr.ow ((c.map fun n => Tr.fz (di n)).set _ (ti _))) = _
    rw [← er_tInts]
    unfold manC
    show _ = er (Tr.ow (List.map _ _))
    rw [List.map_set]
  refine rns_cons (rn_set 7 (Ev.s (ev_lst eva_nil (Nat.zero_le _))) (fun _ => sc__law_many.nd)) ?_
  show Rns _ _ [some (.fz (dis ns)), some (ti (n : Nat)), some (ti (A : Nat)), some (.fz (dis must)), some (.fz (dis (manC c must can))), some (ti can), some (ti (can + 1 - (must.map (lat c)).sum)), some (.ow []), none, none] _
  generalize manC c must can = C
  generalize can + 1 - (must.map (lat c)).sum = lack
  refine rns_cons (rn_for (its := rngD 0 A) (EvI.s (EvI.to (evi_range1 (n := ((A : Nat) : Int)) T.b_range (ev_nm 2 rfl) ⟨by omega, by omega⟩) (by rw [Int.toNat_natCast]))) (evg_nm 8 (fun _ => sc__law_many.nd)) (fun j => [some (.fz (dis ns)), some (ti (n : Nat)), some (ti (A : Nat)), some (.fz (dis must)), some (.fz (dis C)), some (ti can), some (ti lack), some (.ow (((numsF j).map (manRow ns n must can)).map fun r => .fz (dis r))), none, none]) rfl (fun _ => rfl) (fun j d hd => ?_)) ?_
  · obtain ⟨hj, rfl⟩ := rng_get hd
    have hz : (((numsF j).map (manRow ns n must can)).map fun r => Tr.fz (dis r)).length < sizeLine := by rw [List.length_map, List.length_map, nums_len]; omega
    have en : Tr.ow (((numsF (j + 1)).map (manRow ns n must can)).map fun r => Tr.fz (dis r)) = .ow ((((numsF j).map (manRow ns n must can)).map fun r => Tr.fz (dis r)) ++ [.fz (dis (manRow ns n must can (0 + (j : Int))))]) := by
      rw [nums_succ, List.map_append, List.map_append]; rfl
    rw [en]
    have j0 : 0 ≤ 0 + (j : Int) := by omega
    generalize (0 + (j : Int)) = y at j0
    generalize (((numsF j).map (manRow ns n must can)).map fun r => Tr.fz (dis r)) = us at hz
    have bl := bits_len (cellF ns (8 + y)) (n + 1)
    refine ⟨_, [some (.fz (dis ns)), some (ti (n : Nat)), some (ti (A : Nat)), some (.fz (dis must)), some (.fz (dis C)), some (ti can), some (ti lack), some (.ow (us ++ [.fz (dis (manRow ns n must can y))])), some (ti y), some (.fz (dis (bitsF (cellF ns (8 + y)) (n + 1))))], rfl, ?_, [8, 9], rfl⟩
    refine rns_cons (rn_set 9 (Ev.s (Ev.as (d := dis (bitsF (cellF ns (8 + y)) (n + 1))) (ev_call K__law_bits (Nat.le_refl _) (eva_cons (ev_call K__law_cell_at (Nat.le_refl _) (eva_cons (ev_nm 0 rfl) (eva_cons (ev_add ev_int (ev_nm 8 rfl)) eva_nil)) ⟨ns, _, by omega, rfl, rfl⟩) (eva_cons (ev_add (ev_nm 1 rfl) ev_int) eva_nil)) ⟨cellF ns (8 + y), n + 1, by omega, rfl, rfl⟩) (er_tInts _))) (fun _ => sc__law_many.nd)) ?_
    show Rns _ _ [some (.fz (dis ns)), some (ti (n : Nat)), some (ti (A : Nat)), some (.fz (dis must)), some (.fz (dis C)), some (ti can), some (ti lack), some (.ow us), some (ti y), some (.fz (dis (bitsF (cellF ns (8 + y)) (n + 1))))] _
    refine rns_one (rn_if (Et.s (et_lt (ev_nm 8 rfl) (ev_nm 5 rfl))) (fun h => ?_) (fun h => ?_))
    · rw [show manRow ns n must can y = bitsF (cellF ns (8 + y)) (n + 1) by unfold manRow; rw [if_pos h]]
      exact rns_one (rn_append 7 rfl (Ev.s (ev_nm 9 rfl)) hz)
    · rw [show manRow ns n must can y = (bitsF (cellF ns (8 + y)) (n + 1)).filter (fun j => !must.contains j && !decide (j = (n : Int))) ++ [(n : Int)] by unfold manRow; rw [if_neg (by rw [h]; decide)]]
      have fl := List.length_filter_le (fun j => !must.contains j && !decide (j = (n : Int))) (bitsF (cellF ns (8 + y)) (n + 1))
      generalize hB : bitsF (cellF ns (8 + y)) (n + 1) = B at bl fl
      exact rns_one (rn_append 7 rfl (Ev.s (Ev.as (ev_cat (xs := (B.filter (fun j => !must.contains j && !decide (j = (n : Int)))).map di) (ys := [di (n : Int)]) (ev_lcf (own := ["_law_j"]) (fr := [3, 1]) B di (fun j => !must.contains j && !decide (j = (n : Int))) ti (fun i => lcs ⟨rfl, rfl, by decide +kernel, by decide +kernel, by decide +kernel, by decide +kernel⟩) (evi_list (ev_nm 9 rfl) rfl) (evg_nm 0 (fun _ => by show List.Nodup (["_law_j", "_law_must", "_law_many_here"] : List Str); decide)) (by decide) (by omega) (fun x hx => ⟨_, rfl, by
        exact el_one (Ew.et (ew_and (et_notin (ev_nm 0 rfl) (ev_nm 1 rfl) rfl (by with_unfolding_all rfl)) fun _ => (ew_and1 (et_ne (ev_nm 0 rfl) (ev_nm 2 rfl))))), fun _ => by exact ev_nm 0 rfl⟩) (fun dd => by cases dd <;> rfl)) (ev_lst (eva_cons (ev_nm 1 rfl) eva_nil) (by show 1 ≤ sizeLine; decide)) (by rw [er_map _ (fun x => x), List.map_id']) rfl (by rw [List.length_map]; show _ + 1 ≤ _; omega)) (by rw [er_fzs]; show _ = Dv.lst (List.map _ _); rw [List.map_append]; rfl))) hz)
  rw [show (rngD 0 A).length = A by unfold rngD; rw [List.length_map, List.length_range]]
  refine rns_freezeTo (d := .lst (((numsF A).map (manRow ns n must can)).map dis)) 7 rfl (by rw [er_ow_map]; rfl) ?_
  exact rns_one (rn_ret (Ev.s (Ev.as (ev_tup (eva_cons (ev_nm 4 rfl) (eva_cons (ev_nm 7 rfl) (eva_cons (ev_nm 3 rfl) eva_nil))) (by show 3 ≤ sizeLine; decide)) rfl)))
end
end K33
namespace K33
open PySem L2
section
variable {P : Program} {w : World} {K : PySem.W.Frag} {mg : Str → Option Value} {base : Heap}
abbrev s_law : Stmt := top 13
theorem sc_law : FnScope ["_law_script", "_law_first", "_law_many_here", "_law_askers", "_law_counts", "_law_may", "_law_must", "_law_handed", "_law_k", "_law_more", "_law_found"] ["_law_script"] (defScope s_law) := ⟨rfl, rfl, rfl, by decide +kernel, rfl, by decide +kernel, by decide +kernel⟩
theorem ok_law {f f1 f2 f3 f4 f5 f6 : Addr} {fd fd1 fd2 fd3 fd4 fd5 fd6 : FuncData} {k : Nat} (F : Fun K "law" "law" s_law f fd) (T : Txt mg) (K__law_cell_at : Kn P w K mg base CX0 (k + 1) "_law_cell_at" f1 fd1 ["_law_script", "_law_k"] (spT K rCell)) (K__law_few : Kn P w K mg base CX0 (k + 2) "_law_few" f2 fd2 ["_law_script", "_law_many_here", "_law_askers"] (spT K rFew)) (K__law_many : Kn P w K mg base CX0 (k + 2) "_law_many" f3 fd3 ["_law_script", "_law_many_here", "_law_askers"] (spT K rMany)) (K_deal_of : Kn P w K mg base CX0 (k + 10) "deal_of" f4 fd4 ["counts", "may", "must"] (spT K rDealOf)) (K_why_none : Kn P w K mg base CX0 (k + 10) "why_none" f5 fd5 ["counts", "may", "must"] (spT K rWhy)) (K__law_is_paper : Kn P w K mg base CX0 (k + 2) "_law_is_paper" f6 fd6 ["_law_paper", "_law_counts", "_law_may", "_law_must"] (spT K rIsPaper)) : FnOk P w K mg base CX0 (k + 11) f fd ["_law_script"] (spT K rLaw) := by
  refine fn_ok F.d sc_law (fun dd t h => by obtain ⟨_, _, rfl, _⟩ := h; rfl) fun dd t h => ?_
  obtain ⟨ns, hns, rfl, rfl⟩ := h
  refine ⟨_, .inl rfl, ?_⟩
  have big : 1000 < sizeLine := by decide
  have r1 : k + 1 ≤ k + 10 := by omega
  have r2 : k + 2 ≤ k + 10 := by omega
  refine rns_cons (rn_set 1 (Ev.s (ev_call K__law_cell_at r1 (eva_cons (ev_nm 0 rfl) (eva_cons ev_int eva_nil)) ⟨ns, 0, by decide, rfl, rfl⟩)) (fun _ => sc_law.nd)) ?_
  generalize cellF ns 0 = first
  have h0 := Int.emod_nonneg (first / 2) (show (6 : Int) ≠ 0 by decide)
  have h1 := Int.emod_lt_of_pos (first / 2) (show (0 : Int) < 6 by decide)
  have h2 := Int.emod_nonneg (first / 12) (show (5 : Int) ≠ 0 by decide)
  have h3 := Int.emod_lt_of_pos (first / 12) (show (0 : Int) < 5 by decide)
  obtain ⟨n, en⟩ : ∃ n : Nat, 1 + first / 2 % 6 = (n : Int) := ⟨(1 + first / 2 % 6).toNat, by omega⟩
  obtain ⟨A, eA⟩ : ∃ A : Nat, 2 + first / 12 % 5 = (A : Int) := ⟨(2 + first / 12 % 5).toNat, by omega⟩
  have n1 : 1 ≤ n := by omega
  have n6 : n ≤ 6 := by omega
  have A1 : 1 ≤ A := by omega
  have A6 : A ≤ 6 := by omega
  refine rns_cons (rn_set 2 (EvS.to (t' := ti (n : Nat)) (Ev.s (ev_add ev_int (ev_mod (ev_div (ev_nm 1 rfl) ev_int ⟨by decide, small_lt (by decide) (by decide)⟩) ev_int (by decide)))) (by rw [en])) (fun _ => sc_law.nd)) ?_
  refine rns_cons (rn_set 3 (EvS.to (t' := ti (A : Nat)) (Ev.s (ev_add ev_int (ev_mod (ev_div (ev_nm 1 rfl) ev_int ⟨by decide, small_lt (by decide) (by decide)⟩) ev_int (by decide)))) (by rw [eA])) (fun _ => sc_law.nd)) ?_
  show Rns _ _ [some (.fz (dis ns)), some (ti first), some (ti (n : Nat)), some (ti (A : Nat)), none, none, none, none, none, none, none] _
  obtain ⟨c, may, must, lk, mA, nod, e⟩ : ∃ c may must, LkOk c may must ∧ may.length = A ∧ (∀ d, ¬ IsDeal c may must d) ∧ (c, may, must) = (if first % 2 = 0 then ((fewC ns n A).1, fewM ns n A, bitsF (cellF ns 15) n) else (manC (cnt5 ns n) (mustF ns n) (cellF ns 14 % A), manM ns n A, mustF ns n)) := by
    by_cases h : first % 2 = 0
    · rw [if_pos h]
      exact ⟨_, _, _, few_ok ns n A n6 A1 A6, by rw [(fewM_perm ns n A A1).length_eq]; unfold fewR; rw [List.length_map, nums_len], few_none ns n A A1 _, rfl⟩
    · rw [if_neg h]
      exact ⟨_, _, _, many_ok ns n A n1 n6 A6, by unfold manM; rw [List.length_map, nums_len], many_none ns n A n1 A1, rfl⟩
  refine rns_cons (ρ1 := [some (.fz (dis ns)), some (ti first), some (ti (n : Nat)), some (ti (A : Nat)), some (.fz (dis c)), some (.fz (.lst (may.map dis))), some (.fz (dis must)), none, none, none, none]) (rn_if (Et.s (et_eq (ev_mod (ev_nm 1 rfl) ev_int (by decide)) ev_int)) (fun h => ?_) (fun h => ?_)) ?_
  · rw [if_pos (of_decide_eq_true h)] at e
    cases e
    exact Rns.to (rns_one (rn_set2 (Ev.s (ev_call K__law_few r2 (eva_cons (ev_nm 0 rfl) (eva_cons (ev_nm 2 rfl) (eva_cons (ev_nm 3 rfl) eva_nil))) ⟨ns, n, A, n6, A1, A6, rfl, rfl⟩)) (evg_t3 4 5 6 (fun _ => sc_law.nd)) rfl)) rfl
  · rw [if_neg (of_decide_eq_false h)] at e
    cases e
    exact Rns.to (rns_one (rn_set2 (Ev.s (ev_call K__law_many r2 (eva_cons (ev_nm 0 rfl) (eva_cons (ev_nm 2 rfl) (eva_cons (ev_nm 3 rfl) eva_nil))) ⟨ns, n, A, n1, n6, A1, A6, rfl, rfl⟩)) (evg_t3 4 5 6 (fun _ => sc_law.nd)) rfl)) rfl
  clear e
  have A6' := lk.io.A6
  refine rns_cons (rn_set 7 (Ev.s (Ev.as (d := hdD c may must) (ev_lst (eva_cons (ev_list T.b_list (ev_nm 4 rfl) (.inl rfl)) (eva_cons (ev_lcm (own := ["_law_row"]) (fr := []) may dis tInts (fun i => lcs ⟨rfl, rfl, by decide +kernel, by decide +kernel, by decide +kernel, by decide +kernel⟩) (evi_list (ev_nm 5 rfl) rfl) (evg_nm 0 (fun _ => by show List.Nodup (["_law_row"] : List Str); decide)) (by decide) (by omega) (fun r hr => ⟨_, rfl, by exact Ev.to (ev_list T.b_list (ev_nm 0 rfl) (.inl rfl)) (by rw [ints_tr])⟩) (fun dd => by cases dd <;> rfl)) (eva_cons (ev_list T.b_list (ev_nm 6 rfl) (.inl rfl)) eva_nil))) (by show 3 ≤ sizeLine; decide)) ?_)) (fun _ => sc_law.nd)) ?_
  · show Dv.lst [er (.ow _), er (tRows may), er (.ow _)] = _
    rw [er_fzs, er_tRows, er_fzs]; rfl
  show Rns _ _ [some (.fz (dis ns)), some (ti first), some (ti (n : Nat)), some (ti (A : Nat)), some (.fz (dis c)), some (.fz (.lst (may.map dis))), some (.fz (dis must)), some (.fz (hdD c may must)), none, none, none] _
  obtain ⟨x, S, hS, eD, eP⟩ := none_look lk nod
  have eS : er (.tp [tx x, tInts S]) = .tup [ds x, dis S] := by
    show Dv.tup [ds x, er (tInts S)] = _
    rw [er_tInts]
  refine rns_look (t := tb false) (EvI.s (evi_range1 T.b_range ev_int ⟨by decide, by decide⟩)) (evg_nm 8 (fun _ => sc_law.nd)) rfl (fun _ => true) (fun d hd => ?_) (fun h => ?_) (fun h => ?_)
  · obtain ⟨i, hi, rfl⟩ := List.mem_map.mp hd
    refine ⟨_, rfl, fun _ => ⟨[some (.fz (dis ns)), some (ti first), some (ti (n : Nat)), some (ti (A : Nat)), some (.fz (dis c)), some (.fz (.lst (may.map dis))), some (.fz (dis must)), some (.fz (hdD c may must)), none, none, none], ?_, ⟨[], rfl⟩⟩, fun h => by cases h⟩
    refine rns_cons (rn_skip (Et.s (et_notN (v := .non) (ev_call K_deal_of (Nat.le_refl _) (eva_cons (ev_ix (d := dis c) (ev_nm 7 rfl) ev_int rfl rfl) (eva_cons (ev_ix (d := .lst (may.map dis)) (ev_nm 7 rfl) ev_int rfl rfl) (eva_cons (ev_ix (d := dis must) (ev_nm 7 rfl) ev_int rfl rfl) eva_nil))) ⟨c, may, must, lk, rfl, eD.symm⟩))) rfl) ?_
    refine rns_cons (rn_skip (Et.s (et_not (et_val (ev_call (t := tb true) K__law_is_paper r2 (eva_cons (Ev.as (d := .tup [ds x, dis S]) (ev_call K_why_none (Nat.le_refl _) (eva_cons (ev_ix (d := dis c) (ev_nm 7 rfl) ev_int rfl rfl) (eva_cons (ev_ix (d := .lst (may.map dis)) (ev_nm 7 rfl) ev_int rfl rfl) (eva_cons (ev_ix (d := dis must) (ev_nm 7 rfl) ev_int rfl rfl) eva_nil))) ⟨c, may, must, lk, rfl, eP.symm⟩) eS) (eva_cons (ev_nm 4 rfl) (eva_cons (ev_nm 5 rfl) (eva_cons (ev_nm 6 rfl) eva_nil)))) ⟨c, may, must, S, x, lk, hS, rfl, rfl⟩)))) rfl) ?_
    refine rns_cons (rn_skip (Et.s (et_neS (ev_nm 7 rfl) (ev_lst (eva_cons (ev_nm 4 rfl) (eva_cons (ev_nm 5 rfl) (eva_cons (ev_nm 6 rfl) eva_nil))) (by show 3 ≤ sizeLine; decide)) (.inl ⟨_, _, rfl, rfl⟩) (hd_dp c may must))) ?_) (rns_nilF ⟨[8], rfl⟩)
    show (!eqD (hdD c may must) (hdD c may must)) = false
    rw [hd_eq]; rfl
  · clear eD eP hS eS
    have cl6 := lk.io.n6
    refine rns_cons (rn_lcG 9 (ElcS (Elc.as (d := dis (c.map fun v => v + 1)) (elcm (own := ["_law_count"]) (fr := []) c di (fun v => ti (v + 1)) (evi_list (ev_nm 4 rfl) rfl) (evg_nm 0 (fun _ => by show List.Nodup (["_law_count"] : List Str); decide)) (by decide) (by omega) (fun r hr => ⟨_, rfl, by exact ev_add (ev_nm 0 rfl) ev_int⟩) (fun dd => by cases dd <;> rfl)) (er_map _ _))) (fun i => lcs ⟨rfl, rfl, by decide +kernel, by decide +kernel, by decide +kernel, by decide +kernel⟩) (fun _ => sc_law.nd)) ?_
    have lk2 : LkOk (c.map fun v => v + 1) may must := by
      have hl : (c.map fun v => v + 1).length = c.length := List.length_map _
      refine ⟨⟨by rw [hl]; exact lk.io.n6, lk.io.A6, fun r hr => by rw [hl]; exact lk.io.row r hr⟩, fun x hx => ?_, fun y hy => by rw [hl]; exact lk.mu y hy⟩
      obtain ⟨v, hv, rfl⟩ := List.mem_map.mp hx
      have := lk.c0 v hv
      omega
    generalize (c.map fun v => v + 1) = c2 at lk2
    rcases look_cases lk2 with ⟨d, isd, eD, eP⟩ | ⟨x, S, hS, eD, eP⟩
    · refine rns_cons (rn_set 10 (Ev.s (Ev.as (d := dis d) (ev_call K_deal_of (Nat.le_refl _) (eva_cons (ev_nm 9 rfl) (eva_cons (ev_nm 5 rfl) (eva_cons (ev_nm 6 rfl) eva_nil))) ⟨c2, may, must, lk2, rfl, eD.symm⟩) (er_tInts d))) (fun _ => sc_law.nd)) ?_
      refine rns_cons (rn_skip (Et.s (et_isNL (ev_nm 10 rfl) (.inl rfl))) rfl) ?_
      refine rns_one (rn_ret (Ev.s (Ev.to (ev_and (ev_isN (v := .non) (ev_call K_why_none (Nat.le_refl _) (eva_cons (ev_nm 9 rfl) (eva_cons (ev_nm 5 rfl) (eva_cons (ev_nm 6 rfl) eva_nil))) ⟨c2, may, must, lk2, rfl, eP.symm⟩)) fun _ => (ev_one (ev_eq (ev_len T.b_len (ev_nm 10 rfl) (.inl rfl)) (ev_nm 3 rfl)))) ?_)))
      rw [List.length_map, isd.ok.dl, mA]; simp
    · have eS : er (.tp [tx x, tInts S]) = .tup [ds x, dis S] := by
        show Dv.tup [ds x, er (tInts S)] = _
        rw [er_tInts]
      refine rns_cons (rn_set 10 (Ev.s (ev_call K_deal_of (Nat.le_refl _) (eva_cons (ev_nm 9 rfl) (eva_cons (ev_nm 5 rfl) (eva_cons (ev_nm 6 rfl) eva_nil))) ⟨c2, may, must, lk2, rfl, eD.symm⟩)) (fun _ => sc_law.nd)) ?_
      exact rns_ret (rn_ifT (Et.s (et_isN (v := .non) (ev_nm 10 rfl))) rfl (rns_one (rn_ret (Ev.s (ev_call (t := tb true) K__law_is_paper r2 (eva_cons (Ev.as (d := .tup [ds x, dis S]) (ev_call K_why_none (Nat.le_refl _) (eva_cons (ev_nm 9 rfl) (eva_cons (ev_nm 5 rfl) (eva_cons (ev_nm 6 rfl) eva_nil))) ⟨c2, may, must, lk2, rfl, eP.symm⟩) eS) (eva_cons (ev_nm 9 rfl) (eva_cons (ev_nm 5 rfl) (eva_cons (ev_nm 6 rfl) eva_nil)))) ⟨c2, may, must, S, x, lk2, hS, rfl, rfl⟩)))))
  · rw [List.all_eq_true.mpr fun _ _ => rfl] at h
    cases h
end
end K33
namespace K33
open PySem L2
theorem us1 {α : Type} {us : List α} (h : us.length = 1) : ∃ a0, us = [a0] := by
  rcases us with _ | ⟨a0, us⟩; · cases h
  rcases us with _ | ⟨b, us⟩
  · exact ⟨a0, rfl⟩
  · simp at h
theorem us2 {α : Type} {us : List α} (h : us.length = 2) : ∃ a0 a1, us = [a0, a1] := by
  rcases us with _ | ⟨a0, us⟩; · cases h
  rcases us with _ | ⟨a1, us⟩; · cases h
  rcases us with _ | ⟨b, us⟩
  · exact ⟨a0, a1, rfl⟩
  · simp at h
theorem us3 {α : Type} {us : List α} (h : us.length = 3) : ∃ a0 a1 a2, us = [a0, a1, a2] := by
  rcases us with _ | ⟨a0, us⟩; · cases h
  rcases us with _ | ⟨a1, us⟩; · cases h
  rcases us with _ | ⟨a2, us⟩; · cases h
  rcases us with _ | ⟨b, us⟩
  · exact ⟨a0, a1, a2, rfl⟩
  · simp at h
theorem us4 {α : Type} {us : List α} (h : us.length = 4) : ∃ a0 a1 a2 a3, us = [a0, a1, a2, a3] := by
  rcases us with _ | ⟨a0, us⟩; · cases h
  rcases us with _ | ⟨a1, us⟩; · cases h
  rcases us with _ | ⟨a2, us⟩; · cases h
  rcases us with _ | ⟨a3, us⟩; · cases h
  rcases us with _ | ⟨b, us⟩
  · exact ⟨a0, a1, a2, a3, rfl⟩
  · simp at h
theorem us5 {α : Type} {us : List α} (h : us.length = 5) : ∃ a0 a1 a2 a3 a4, us = [a0, a1, a2, a3, a4] := by
  rcases us with _ | ⟨a0, us⟩; · cases h
  rcases us with _ | ⟨a1, us⟩; · cases h
  rcases us with _ | ⟨a2, us⟩; · cases h
  rcases us with _ | ⟨a3, us⟩; · cases h
  rcases us with _ | ⟨a4, us⟩; · cases h
  rcases us with _ | ⟨b, us⟩
  · exact ⟨a0, a1, a2, a3, a4, rfl⟩
  · simp at h
theorem all_mk {l : PySem.W.OpenLaw} {w : World} {K : PySem.W.Frag} {h : Heap} {mg : Str → Option Value} {fa : Addr} (X : K.In h) (G : h.Ns mainGlobals mg) (hfa : mg "law" = some (.ref fa))
    {f1 : Addr} {od1 an1 : Option Addr} {sl1 : Array (Option Value)} {oc1 kV1 dc1 pm1 cd1 ct1 : Value}
    {f2 : Addr} {od2 an2 : Option Addr} {sl2 : Array (Option Value)} {oc2 kV2 dc2 pm2 cd2 ct2 : Value}
    {f3 : Addr} {od3 an3 : Option Addr} {sl3 : Array (Option Value)} {oc3 kV3 dc3 pm3 cd3 ct3 : Value}
    {f4 : Addr} {od4 an4 : Option Addr} {sl4 : Array (Option Value)} {oc4 kV4 dc4 pm4 cd4 ct4 : Value}
    {f5 : Addr} {od5 an5 : Option Addr} {sl5 : Array (Option Value)} {oc5 kV5 dc5 pm5 cd5 ct5 : Value}
    {f6 : Addr} {od6 an6 : Option Addr} {sl6 : Array (Option Value)} {oc6 kV6 dc6 pm6 cd6 ct6 : Value}
    {f7 : Addr} {od7 an7 : Option Addr} {sl7 : Array (Option Value)} {oc7 kV7 dc7 pm7 cd7 ct7 : Value}
    {f8 : Addr} {od8 an8 : Option Addr} {sl8 : Array (Option Value)} {oc8 kV8 dc8 pm8 cd8 ct8 : Value}
    {f9 : Addr} {od9 an9 : Option Addr} {sl9 : Array (Option Value)} {oc9 kV9 dc9 pm9 cd9 ct9 : Value}
    {f10 : Addr} {od10 an10 : Option Addr} {sl10 : Array (Option Value)} {oc10 kV10 dc10 pm10 cd10 ct10 : Value}
    {f11 : Addr} {od11 an11 : Option Addr} {sl11 : Array (Option Value)} {oc11 kV11 dc11 pm11 cd11 ct11 : Value}
    {f12 : Addr} {od12 an12 : Option Addr} {sl12 : Array (Option Value)} {oc12 kV12 dc12 pm12 cd12 ct12 : Value}
    (a1 : PySem.W.nsIn K mainGlobals "give_thing" = some (some (.ref f1)))
    (l1 : K.lookup f1 = some ⟨oc1, od1, .func (PySem.W.fnOf "give_thing" "give_thing" (defArgs s_give_thing) (defBody s_give_thing) (defScope s_give_thing) .none kV1 dc1 pm1 an1 cd1 ct1), sl1⟩)
    (c1 : PySem.W.codeIn K cd1 "give_thing" = true)
    (k1 : PySem.W.keepIn K (.ref f1) = true)
    (a2 : PySem.W.nsIn K mainGlobals "deal_out" = some (some (.ref f2)))
    (l2 : K.lookup f2 = some ⟨oc2, od2, .func (PySem.W.fnOf "deal_out" "deal_out" (defArgs s_deal_out) (defBody s_deal_out) (defScope s_deal_out) .none kV2 dc2 pm2 an2 cd2 ct2), sl2⟩)
    (c2 : PySem.W.codeIn K cd2 "deal_out" = true)
    (k2 : PySem.W.keepIn K (.ref f2) = true)
    (a3 : PySem.W.nsIn K mainGlobals "looked_for" = some (some (.ref f3)))
    (l3 : K.lookup f3 = some ⟨oc3, od3, .func (PySem.W.fnOf "looked_for" "looked_for" (defArgs s_looked_for) (defBody s_looked_for) (defScope s_looked_for) .none kV3 dc3 pm3 an3 cd3 ct3), sl3⟩)
    (c3 : PySem.W.codeIn K cd3 "looked_for" = true)
    (k3 : PySem.W.keepIn K (.ref f3) = true)
    (a4 : PySem.W.nsIn K mainGlobals "deal_of" = some (some (.ref f4)))
    (l4 : K.lookup f4 = some ⟨oc4, od4, .func (PySem.W.fnOf "deal_of" "deal_of" (defArgs s_deal_of) (defBody s_deal_of) (defScope s_deal_of) .none kV4 dc4 pm4 an4 cd4 ct4), sl4⟩)
    (c4 : PySem.W.codeIn K cd4 "deal_of" = true)
    (k4 : PySem.W.keepIn K (.ref f4) = true)
    (a5 : PySem.W.nsIn K mainGlobals "why_none" = some (some (.ref f5)))
    (l5 : K.lookup f5 = some ⟨oc5, od5, .func (PySem.W.fnOf "why_none" "why_none" (defArgs s_why_none) (defBody s_why_none) (defScope s_why_none) .none kV5 dc5 pm5 an5 cd5 ct5), sl5⟩)
    (c5 : PySem.W.codeIn K cd5 "why_none" = true)
    (k5 : PySem.W.keepIn K (.ref f5) = true)
    (a6 : PySem.W.nsIn K mainGlobals "_law_cell_at" = some (some (.ref f6)))
    (l6 : K.lookup f6 = some ⟨oc6, od6, .func (PySem.W.fnOf "_law_cell_at" "_law_cell_at" (defArgs s__law_cell_at) (defBody s__law_cell_at) (defScope s__law_cell_at) .none kV6 dc6 pm6 an6 cd6 ct6), sl6⟩)
    (c6 : PySem.W.codeIn K cd6 "_law_cell_at" = true)
    (k6 : PySem.W.keepIn K (.ref f6) = true)
    (a7 : PySem.W.nsIn K mainGlobals "_law_bits" = some (some (.ref f7)))
    (l7 : K.lookup f7 = some ⟨oc7, od7, .func (PySem.W.fnOf "_law_bits" "_law_bits" (defArgs s__law_bits) (defBody s__law_bits) (defScope s__law_bits) .none kV7 dc7 pm7 an7 cd7 ct7), sl7⟩)
    (c7 : PySem.W.codeIn K cd7 "_law_bits" = true)
    (k7 : PySem.W.keepIn K (.ref f7) = true)
    (a8 : PySem.W.nsIn K mainGlobals "_law_plain" = some (some (.ref f8)))
    (l8 : K.lookup f8 = some ⟨oc8, od8, .func (PySem.W.fnOf "_law_plain" "_law_plain" (defArgs s__law_plain) (defBody s__law_plain) (defScope s__law_plain) .none kV8 dc8 pm8 an8 cd8 ct8), sl8⟩)
    (c8 : PySem.W.codeIn K cd8 "_law_plain" = true)
    (k8 : PySem.W.keepIn K (.ref f8) = true)
    (a9 : PySem.W.nsIn K mainGlobals "_law_is_paper" = some (some (.ref f9)))
    (l9 : K.lookup f9 = some ⟨oc9, od9, .func (PySem.W.fnOf "_law_is_paper" "_law_is_paper" (defArgs s__law_is_paper) (defBody s__law_is_paper) (defScope s__law_is_paper) .none kV9 dc9 pm9 an9 cd9 ct9), sl9⟩)
    (c9 : PySem.W.codeIn K cd9 "_law_is_paper" = true)
    (k9 : PySem.W.keepIn K (.ref f9) = true)
    (a10 : PySem.W.nsIn K mainGlobals "_law_few" = some (some (.ref f10)))
    (l10 : K.lookup f10 = some ⟨oc10, od10, .func (PySem.W.fnOf "_law_few" "_law_few" (defArgs s__law_few) (defBody s__law_few) (defScope s__law_few) .none kV10 dc10 pm10 an10 cd10 ct10), sl10⟩)
    (c10 : PySem.W.codeIn K cd10 "_law_few" = true)
    (k10 : PySem.W.keepIn K (.ref f10) = true)
    (a11 : PySem.W.nsIn K mainGlobals "_law_many" = some (some (.ref f11)))
    (l11 : K.lookup f11 = some ⟨oc11, od11, .func (PySem.W.fnOf "_law_many" "_law_many" (defArgs s__law_many) (defBody s__law_many) (defScope s__law_many) .none kV11 dc11 pm11 an11 cd11 ct11), sl11⟩)
    (c11 : PySem.W.codeIn K cd11 "_law_many" = true)
    (k11 : PySem.W.keepIn K (.ref f11) = true)
    (a12 : PySem.W.nsIn K mainGlobals "law" = some (some (.ref f12)))
    (l12 : K.lookup f12 = some ⟨oc12, od12, .func (PySem.W.fnOf "law" "law" (defArgs s_law) (defBody s_law) (defScope s_law) .none kV12 dc12 pm12 an12 cd12 ct12), sl12⟩)
    (c12 : PySem.W.codeIn K cd12 "law" = true)
    (k12 : PySem.W.keepIn K (.ref f12) = true)
    (z_isinstance : PySem.W.nsIn K mainGlobals "isinstance" = some none)
    (z_int : PySem.W.nsIn K mainGlobals "int" = some none)
    (z_bool : PySem.W.nsIn K mainGlobals "bool" = some none)
    (z_list : PySem.W.nsIn K mainGlobals "list" = some none)
    (z_tuple : PySem.W.nsIn K mainGlobals "tuple" = some none)
    (z_str : PySem.W.nsIn K mainGlobals "str" = some none)
    (z_len : PySem.W.nsIn K mainGlobals "len" = some none)
    (z_range : PySem.W.nsIn K mainGlobals "range" = some none)
    (z_enumerate : PySem.W.nsIn K mainGlobals "enumerate" = some none)
    (z_sorted : PySem.W.nsIn K mainGlobals "sorted" = some none)
    (z_set : PySem.W.nsIn K mainGlobals "set" = some none)
    (z_min : PySem.W.nsIn K mainGlobals "min" = some none)
    (z_max : PySem.W.nsIn K mainGlobals "max" = some none)
    (z_sum : PySem.W.nsIn K mainGlobals "sum" = some none)
    : ∃ fd : FuncData, (∀ (s : Shared) (v : Value), BindsTo s fd ⟨[v], []⟩ [("_law_script", v)]) ∧ ∀ base : Heap, K.In base → base.Ns mainGlobals mg → FnOk l.prog w K mg base CX0 11 fa fd ["_law_script"] (spLaw K) := by
  have e := hfa.symm.trans (PySem.W.mg_of X G a12)
  cases e
  have T : Txt mg := ⟨PySem.W.mg_none_of X G z_isinstance, PySem.W.mg_none_of X G z_int, PySem.W.mg_none_of X G z_bool, PySem.W.mg_none_of X G z_list, PySem.W.mg_none_of X G z_tuple, PySem.W.mg_none_of X G z_str, PySem.W.mg_none_of X G z_len, PySem.W.mg_none_of X G z_range, PySem.W.mg_none_of X G z_enumerate, PySem.W.mg_none_of X G z_sorted, PySem.W.mg_none_of X G z_set, PySem.W.mg_none_of X G z_min, PySem.W.mg_none_of X G z_max, PySem.W.mg_none_of X G z_sum⟩
  have F1 := fun_mk (st := s_give_thing) l1 c1 k1
  have b1 := F1.binds (ps := ["counts", "may", "deal", "asker", "seen"]) fun _ _ _ _ _ _ us hl => by
    obtain ⟨_, _, _, _, _, rfl⟩ := us5 hl
    rfl
  have F2 := fun_mk (st := s_deal_out) l2 c2 k2
  have b2 := F2.binds (ps := ["may", "must", "deal", "thing", "seen"]) fun _ _ _ _ _ _ us hl => by
    obtain ⟨_, _, _, _, _, rfl⟩ := us5 hl
    rfl
  have F3 := fun_mk (st := s_looked_for) l3 c3 k3
  have b3 := F3.binds (ps := ["counts", "may", "must"]) fun _ _ _ _ _ _ us hl => by
    obtain ⟨_, _, _, rfl⟩ := us3 hl
    rfl
  have F4 := fun_mk (st := s_deal_of) l4 c4 k4
  have b4 := F4.binds (ps := ["counts", "may", "must"]) fun _ _ _ _ _ _ us hl => by
    obtain ⟨_, _, _, rfl⟩ := us3 hl
    rfl
  have F5 := fun_mk (st := s_why_none) l5 c5 k5
  have b5 := F5.binds (ps := ["counts", "may", "must"]) fun _ _ _ _ _ _ us hl => by
    obtain ⟨_, _, _, rfl⟩ := us3 hl
    rfl
  have F6 := fun_mk (st := s__law_cell_at) l6 c6 k6
  have b6 := F6.binds (ps := ["_law_script", "_law_k"]) fun _ _ _ _ _ _ us hl => by
    obtain ⟨_, _, rfl⟩ := us2 hl
    rfl
  have F7 := fun_mk (st := s__law_bits) l7 c7 k7
  have b7 := F7.binds (ps := ["_law_cell", "_law_many_here"]) fun _ _ _ _ _ _ us hl => by
    obtain ⟨_, _, rfl⟩ := us2 hl
    rfl
  have F8 := fun_mk (st := s__law_plain) l8 c8 k8
  have b8 := F8.binds (ps := ["_law_found"]) fun _ _ _ _ _ _ us hl => by
    obtain ⟨_, rfl⟩ := us1 hl
    rfl
  have F9 := fun_mk (st := s__law_is_paper) l9 c9 k9
  have b9 := F9.binds (ps := ["_law_paper", "_law_counts", "_law_may", "_law_must"]) fun _ _ _ _ _ _ us hl => by
    obtain ⟨_, _, _, _, rfl⟩ := us4 hl
    rfl
  have F10 := fun_mk (st := s__law_few) l10 c10 k10
  have b10 := F10.binds (ps := ["_law_script", "_law_many_here", "_law_askers"]) fun _ _ _ _ _ _ us hl => by
    obtain ⟨_, _, _, rfl⟩ := us3 hl
    rfl
  have F11 := fun_mk (st := s__law_many) l11 c11 k11
  have b11 := F11.binds (ps := ["_law_script", "_law_many_here", "_law_askers"]) fun _ _ _ _ _ _ us hl => by
    obtain ⟨_, _, _, rfl⟩ := us3 hl
    rfl
  have F12 := fun_mk (st := s_law) l12 c12 k12
  refine ⟨PySem.W.fnOf "law" "law" (defArgs s_law) (defBody s_law) (defScope s_law) .none kV12 dc12 pm12 an12 cd12 ct12, fun s v => .of_eq rfl, fun base _ _ => ?_⟩
  have K1 := Kn.mk (base := base) (P := l.prog) (w := w) (ok_give_thing (k := 0) F1 T (fun sp j ok => Kn.mk (base := base) (P := l.prog) (w := w) ok (PySem.W.mg_of X G a1) k1 b1) ) (PySem.W.mg_of X G a1) k1 b1
  have K2 := Kn.mk (base := base) (P := l.prog) (w := w) (ok_deal_out (k := 0) F2 T (fun sp j ok => Kn.mk (base := base) (P := l.prog) (w := w) ok (PySem.W.mg_of X G a2) k2 b2) ) (PySem.W.mg_of X G a2) k2 b2
  have K3 := Kn.mk (base := base) (P := l.prog) (w := w) (ok_looked_for (k := 0) F3 T K1 K2) (PySem.W.mg_of X G a3) k3 b3
  have K4 := Kn.mk (base := base) (P := l.prog) (w := w) (ok_deal_of (k := 0) F4 T K3) (PySem.W.mg_of X G a4) k4 b4
  have K5 := Kn.mk (base := base) (P := l.prog) (w := w) (ok_why_none (k := 0) F5 T K3) (PySem.W.mg_of X G a5) k5 b5
  have K6 := Kn.mk (base := base) (P := l.prog) (w := w) (ok__law_cell_at (k := 0) F6 T ) (PySem.W.mg_of X G a6) k6 b6
  have K7 := Kn.mk (base := base) (P := l.prog) (w := w) (ok__law_bits (k := 0) F7 T ) (PySem.W.mg_of X G a7) k7 b7
  have K8 := Kn.mk (base := base) (P := l.prog) (w := w) (ok__law_plain (k := 0) F8 T ) (PySem.W.mg_of X G a8) k8 b8
  have K9 := Kn.mk (base := base) (P := l.prog) (w := w) (ok__law_is_paper (k := 0) F9 T K8) (PySem.W.mg_of X G a9) k9 b9
  have K10 := Kn.mk (base := base) (P := l.prog) (w := w) (ok__law_few (k := 0) F10 T K7 K6) (PySem.W.mg_of X G a10) k10 b10
  have K11 := Kn.mk (base := base) (P := l.prog) (w := w) (ok__law_many (k := 0) F11 T K7 K6) (PySem.W.mg_of X G a11) k11 b11
  exact law_ok (ok_law (k := 0) F12 T K6 K10 K11 K4 K5 K9)
theorem walk {l : PySem.W.OpenLaw} {q : Program} {loose : List Str} {XP : (Str → Option Value) → Heap → Prop} {YP : World → Heap → Prop} {d : DefRec} {K : Params → PySem.W.Frag} (hn : l.most = some 63) (hdf : d.params.defaults = [])
    (hY : ∀ (w : World) (h : Heap), YP w h → (K w.params).In h)
    (F : ∀ (w : World) (mg : Str → Option Value) (fa : Addr) (h : Heap), (K w.params).In h → h.Ns mainGlobals mg → mg d.name = some (.ref fa) →
      ∃ fd : FuncData, (∀ (s : Shared) (u : Value), BindsTo s fd ⟨[u], []⟩ [("_law_script", u)]) ∧ ∀ base : Heap, (K w.params).In base → base.Ns mainGlobals mg → FnOk l.prog w (K w.params) mg base CX0 11 fa fd ["_law_script"] (spLaw (K w.params))) :
    PySem.W.WalkO q loose XP YP l.row.toRowW d [] (fun f vs => PySem.call f vs) :=
  L2.walk_of (n := 63) (k := 11) (x := "_law_script") (CX := fun _ => CX0) (sp := fun w => spLaw (K w.params)) hn (by decide) hdf ⟨rfl, by decide, by decide⟩ hY F (fun _ _ a ns hl _ hS => ⟨a, ns, rfl, hS, hl, fun _ => rfl⟩) fun _ _ _ _ _ z => z
end K33
open PySem PySem.W PyProof.Rows
set_option maxRecDepth 100000 in
set_option maxHeartbeats 0 in
theorem PySem.Challenge.cw_lotmeal_k33_planted_papers_holds : PySem.Challenge.rw_lotmeal_k33_planted_papers.Holds := by
  w_on; o_law; k_head; (case hw => w_witness2)
  k_fill
  refine K33.walk (l := PySem.Challenge.rw_lotmeal_k33_planted_papers) rfl rfl (fun w h Y => PySem.W.kIn_of Y) ?F
  case F =>
    intro w mg fa h KX G hmg
    refine' K33.all_mk KX G hmg ?a1 ?l1 ?c1 ?k1 ?a2 ?l2 ?c2 ?k2 ?a3 ?l3 ?c3 ?k3 ?a4 ?l4 ?c4 ?k4 ?a5 ?l5 ?c5 ?k5 ?a6 ?l6 ?c6 ?k6 ?a7 ?l7 ?c7 ?k7 ?a8 ?l8 ?c8 ?k8 ?a9 ?l9 ?c9 ?k9 ?a10 ?l10 ?c10 ?k10 ?a11 ?l11 ?c11 ?k11 ?a12 ?l12 ?c12 ?k12 ?z_isinstance ?z_int ?z_bool ?z_list ?z_tuple ?z_str ?z_len ?z_range ?z_enumerate ?z_sorted ?z_set ?z_min ?z_max ?z_sum
    (case a1 => k_is)
    (case l1 => k_is)
    (case c1 => k_is)
    (case k1 => k_is)
    (case a2 => k_is)
    (case l2 => k_is)
    (case c2 => k_is)
    (case k2 => k_is)
    (case a3 => k_is)
    (case l3 => k_is)
    (case c3 => k_is)
    (case k3 => k_is)
    (case a4 => k_is)
    (case l4 => k_is)
    (case c4 => k_is)
    (case k4 => k_is)
    (case a5 => k_is)
    (case l5 => k_is)
    (case c5 => k_is)
    (case k5 => k_is)
    (case a6 => k_is)
    (case l6 => k_is)
    (case c6 => k_is)
    (case k6 => k_is)
    (case a7 => k_is)
    (case l7 => k_is)
    (case c7 => k_is)
    (case k7 => k_is)
    (case a8 => k_is)
    (case l8 => k_is)
    (case c8 => k_is)
    (case k8 => k_is)
    (case a9 => k_is)
    (case l9 => k_is)
    (case c9 => k_is)
    (case k9 => k_is)
    (case a10 => k_is)
    (case l10 => k_is)
    (case c10 => k_is)
    (case k10 => k_is)
    (case a11 => k_is)
    (case l11 => k_is)
    (case c11 => k_is)
    (case k11 => k_is)
    (case a12 => k_is)
    (case l12 => k_is)
    (case c12 => k_is)
    (case k12 => k_is)
    (case z_isinstance => k_is)
    (case z_int => k_is)
    (case z_bool => k_is)
    (case z_list => k_is)
    (case z_tuple => k_is)
    (case z_str => k_is)
    (case z_len => k_is)
    (case z_range => k_is)
    (case z_enumerate => k_is)
    (case z_sorted => k_is)
    (case z_set => k_is)
    (case z_min => k_is)
    (case z_max => k_is)
    (case z_sum => k_is)
#print axioms PySem.Challenge.cw_lotmeal_k33_planted_papers_holds
