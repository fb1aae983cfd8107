import PyProof.Rows.All
import Wide.All
import OpenK.AllK
import Wide.FinOn
import Lean
import PyProof.EqAt
import PyProof.EqKinds
import PyProof.TupleCall
import PySem.Challenge.RW_slowshift_k31_first_wrong_thing
set_option Elab.async false
set_option linter.all false
set_option maxRecDepth 100000
set_option genSizeOf false
set_option genSizeOfSpec false
set_option genInjectivity false
set_option maxHeartbeats 4000000

namespace L2
open PySem PySem.Spec PyProof.Rows

noncomputable abbrev Key := Sum Int Str
noncomputable def keyIs : Key → Value → Bool
  | .inl k, v => Value.isInt k v
  | .inr x, v => Value.isStrOf x v
noncomputable def keyH (w : World) : Key → Int
  | .inl k => hashInt k
  | .inr x => hashStr w x
theorem keyIs_shape : ∀ {k : Key} {v : Value}, keyIs k v = true → (∃ i t, k = Sum.inl i ∧ v = Value.int i t) ∨ (∃ x t, k = Sum.inr x ∧ v = Value.str x t)
  | .inl i, v, h => by
    obtain ⟨t, e⟩ := Value.isInt_shape (k := i) (v := v) h
    exact .inl ⟨i, t, rfl, e⟩
  | .inr x, v, h => by
    obtain ⟨t, e⟩ := Value.isStrOf_shape (x := x) (v := v) h
    exact .inr ⟨x, t, rfl, e⟩
theorem keyIs_int (i : Int) (t : Tok) : keyIs (.inl i) (.int i t) = true := by simp [keyIs, Value.isInt]
theorem keyIs_str (x : Str) (t : Tok) : keyIs (.inr x) (.str x t) = true := by simp [keyIs, Value.isStrOf]
theorem key_ll (a b : Int) : decide ((Sum.inl a : Key) = Sum.inl b) = (a == b) := by
  by_cases e : a = b
  · subst e; simp
  · have h : ¬ (Sum.inl a : Key) = Sum.inl b := fun q => e (Sum.inl.inj q)
    rw [decide_eq_false h]
    exact (beq_eq_false_iff_ne.mpr e).symm
theorem key_rr (a b : Str) : decide ((Sum.inr a : Key) = Sum.inr b) = decide (a = b) := by
  by_cases e : a = b
  · subst e; simp
  · have h : ¬ (Sum.inr a : Key) = Sum.inr b := fun q => e (Sum.inr.inj q)
    rw [decide_eq_false h, decide_eq_false e]
theorem key_lr (a : Int) (b : Str) : decide ((Sum.inl a : Key) = Sum.inr b) = false := decide_eq_false (fun q => nomatch q)
theorem key_rl (a : Str) (b : Int) : decide ((Sum.inr a : Key) = Sum.inl b) = false := decide_eq_false (fun q => nomatch q)

noncomputable def mixKind (prog : Program) (w : World) : PySem.KeyKind prog w Key where
  is := keyIs
  hash := keyH w
  inj := fun v a b ha hb => by
    rcases keyIs_shape ha with ⟨i, t, rfl, rfl⟩ | ⟨x, t, rfl, rfl⟩
    · rcases keyIs_shape hb with ⟨j, u, rfl, e⟩ | ⟨y, u, rfl, e⟩
      · injection e with e1 _; rw [e1]
      · exact nomatch e
    · rcases keyIs_shape hb with ⟨j, u, rfl, e⟩ | ⟨y, u, rfl, e⟩
      · exact nomatch e
      · injection e with e1 _; rw [e1]
  byValue := fun k v h => by
    rcases keyIs_shape h with ⟨i, t, rfl, rfl⟩ | ⟨x, t, rfl, rfl⟩ <;> rfl
  pyHash := fun hv h => by
    rcases keyIs_shape hv with ⟨i, t, rfl, rfl⟩ | ⟨x, t, rfl, rfl⟩
    · exact wpAny_pyHash_int h
    · exact wpAny_pyHash_str h
  eqBool := fun hu hv h => by
    rcases keyIs_shape hu with ⟨i, t, rfl, rfl⟩ | ⟨x, t, rfl, rfl⟩
    · rcases keyIs_shape hv with ⟨j, u, rfl, rfl⟩ | ⟨y, u, rfl, rfl⟩
      · rw [key_ll] at h; exact wpAny_eqBool_int h
      · rw [key_lr] at h; exact SeqAt.EqAt.int_str i t y u _ _ _ _ h
    · rcases keyIs_shape hv with ⟨j, u, rfl, rfl⟩ | ⟨y, u, rfl, rfl⟩
      · rw [key_rl] at h; exact SeqAt.EqAt.str_int x t j u _ _ _ _ h
      · rw [key_rr] at h; exact wpAny_eqBool_str h
  «strs» := fun k x t v h => by
    rcases keyIs_shape h with ⟨i, u, rfl, e⟩ | ⟨y, u, rfl, e⟩
    · exact nomatch e
    · injection e with e1 _
      subst e1
      cases v <;> rfl

theorem mixKind_int (prog : Program) (w : World) (i : Int) (t : Tok) : (mixKind prog w).is (.inl i) (.int i t) = true := keyIs_int i t
theorem mixKind_str (prog : Program) (w : World) (x : Str) (t : Tok) : (mixKind prog w).is (.inr x) (.str x t) = true := keyIs_str x t
end L2

namespace L2
open PySem PySem.Spec PyProof.Rows

set_option genInjectivity true in
inductive V where
  | non | bl (b : Bool) | int (i : Int) | str (x : Str) | byt (b : Array UInt8) | flt (b : UInt64) | ref (a : Addr) | ty (n : String)
  deriving DecidableEq

noncomputable def RelV : V → Value → Prop
  | .non, u => u = Value.none
  | .bl b, u => u = Value.bool b
  | .int i, u => ∃ t, u = Value.int i t
  | .str x, u => ∃ t, u = Value.str x t
  | .byt b, u => ∃ t, u = Value.bytes b t
  | .flt b, u => ∃ t, u = Value.float b t
  | .ref a, u => u = Value.ref a
  | .ty n, u => u = Value.type n

noncomputable abbrev Vals : List V → List Value → Prop := Paired RelV
theorem Vals.length {xs : List V} {us : List Value} (r : Vals xs us) : xs.length = us.length := Paired.length r
theorem Vals.get : ∀ {xs : List V} {us : List Value} {i : Nat} {x : V}, Vals xs us → xs[i]? = some x → ∃ u, us[i]? = some u ∧ RelV x u
  | _, _, _, _, .nil, e => by simp at e
  | _, _, 0, _, .cons r _, e => by simp at e; subst e; exact ⟨_, rfl, r⟩
  | _, _, i + 1, x, .cons _ t, e => by
    obtain ⟨u, h1, h2⟩ := Vals.get (i := i) (x := x) t (by simpa using e)
    exact ⟨u, by simpa using h1, h2⟩
theorem Vals.set {x : V} {u : Value} (r : RelV x u) : ∀ {xs : List V} {us : List Value} (i : Nat), Vals xs us → Vals (xs.set i x) (us.set i u)
  | _, _, _, .nil => .nil
  | _, _, 0, .cons _ t => .cons r t
  | _, _, i + 1, .cons q t => .cons q (Vals.set r i t)
theorem Vals.append : ∀ {xs ys : List V} {us ws : List Value}, Vals xs us → Vals ys ws → Vals (xs ++ ys) (us ++ ws)
  | _, _, _, _, .nil, s => s
  | _, _, _, _, .cons r t, s => .cons r (Vals.append t s)
theorem Vals.take : ∀ {xs : List V} {us : List Value} (n : Nat), Vals xs us → Vals (xs.take n) (us.take n)
  | _, _, 0, _ => .nil
  | _, _, _ + 1, .nil => .nil
  | _, _, n + 1, .cons r t => .cons r (Vals.take n t)
theorem Vals.drop : ∀ {xs : List V} {us : List Value} (n : Nat), Vals xs us → Vals (xs.drop n) (us.drop n)
  | _, _, 0, r => r
  | _, _, _ + 1, .nil => .nil
  | _, _, n + 1, .cons _ t => Vals.drop n t

noncomputable def RelO : Option V → Option Value → Prop
  | some v, some u => RelV v u
  | none, none => True
  | _, _ => False
noncomputable def KV {κ : Type} : List (κ × V) → List (κ × Value) → Prop := Paired fun (p : κ × V) (q : κ × Value) => p.1 = q.1 ∧ RelV p.2 q.2

noncomputable def kV : Key → V
  | .inl i => .int i
  | .inr x => .str x

inductive HO where
    | lst (xs : List V)
    | tup (xs : List V)
    | dK (kvs : List (Key × V)) | dT (kvs : List (List Key × V))
    | set (S : Int → Bool) (n : Nat)
    | ins (C dx : Addr) (fs : List (Str × V))
    | own (x : Addr)
    | xd (fs : List (Str × V))
    | met (f x : Addr)
    | rng (lo hi : Int)
    | frz (o : Obj) (u : HO)
    | tbl (ps : Array Value)
    | ext (φ : Heap → Prop)

noncomputable abbrev Hp := Addr → Option HO
noncomputable def upd (H : Hp) (a : Addr) (o : HO) : Hp := fun b => if b = a then some o else H b
theorem upd_same {H : Hp} {a : Addr} {o : HO} : upd H a o a = some o := by unfold upd; rw [if_pos rfl]
theorem upd_ne {H : Hp} {a b : Addr} {o : HO} (h : b ≠ a) : upd H a o b = H b := by unfold upd; rw [if_neg h]
theorem ne_of {H : Hp} {a b : Addr} {o u : HO} (h : H a = some o) (h' : H b = some u) (d : o ≠ u) : a ≠ b := by
  intro e; subst e; rw [h] at h'; exact d (Option.some.inj h')
theorem ne_of_none {H : Hp} {a b : Addr} {o : HO} (h : H a = some o) (h' : H b = none) : a ≠ b := by
  intro e; subst e; rw [h] at h'; cases h'

section
variable (P : Program) (w : World)
noncomputable def ObjOk (H : Hp) (h : Heap) (a : Addr) : HO → Prop
  | .lst xs => xs.length ≤ sizeLine ∧ ∃ (its : List Value) (n : Nat), Vals xs its ∧ h.get? a = some { cls := .type "list", data := .seq its.toArray n }
  | .tup xs => xs.length ≤ sizeLine ∧ ∃ its : List Value, Vals xs its ∧ IsTup h a its.toArray
  | .dK kvs => kvs.length ≤ sizeLine ∧ (a == sysModules) = false ∧ ∃ vs, KV kvs vs ∧ h.DictOf (mixKind P w) a vs
  | .dT kvs => kvs.length ≤ sizeLine ∧ (a == sysModules) = false ∧ ∃ xs : List (List Key × Addr × Value),
      Paired (fun (p : List Key × V) (q : List Key × Addr × Value) => p.1 = q.1 ∧ H q.2.1 = some (.tup (p.1.map kV)) ∧ RelV p.2 q.2.2) kvs xs ∧
      ∃ o es ep, h.get? a = some o ∧ o.ExactDict ∧ o.data = .dict es ep ∧ es.toList = xs.map (entryOfKey (tupleKind (mixKind P w))) ∧ (xs.map (·.1)).Nodup
  | .set S n => h.SetOf (intKind P w) a S n
  | .ins C dx fs => H dx = some (.own a) ∧ fs.length ≤ 1000 ∧ dx ≠ a ∧ h.get? a = some (PySem.W.instObj C dx) ∧
      ∃ mA, h.Ns1 dx mA ∧ (∀ f, RelO (fs.lookup f) (mA f)) ∧ PySem.Within mA (fs.map (·.1))
  | .own _ => ∃ o, h.get? a = some o
  | .xd fs => ∃ mA, h.Ns1 a mA ∧ ∀ f, RelO (fs.lookup f) (mA f)
  | .rng lo hi => ∃ t u v, h.get? a = some { cls := .type "range", data := .fields #[.int lo t, .int hi u, .int 1 v] }
  | .frz o u => h.get? a = some o ∧ ObjOk H h a u
  | .tbl ps => h.get? a = some { cls := .none, data := .fields ps }
  | .met f x => h.get? a = some (PySem.W.methodObj (.ref f) (.ref x))
  | .ext φ => φ h ∧ (∃ o, h.get? a = some o) ∧ ∀ h1 h2 : Heap, φ h1 → (∀ o, h1.get? a = some o → h2.get? a = some o) → φ h2
noncomputable def HOk (H : Hp) (h : Heap) : Prop := ∀ a o, H a = some o → ObjOk P w H h a o
end

section
variable {P : Program} {w : World} {H H' : Hp} {h h' : Heap} {a : Addr} {o : HO}
theorem ObjOk.lt (x : ObjOk P w H h a o) : a < h.objs.size := by
  cases o with
  | lst xs => obtain ⟨_, _, _, _, e⟩ := x; exact Heap.lt_size e
  | tup xs => obtain ⟨_, _, _, p⟩ := x; exact p.lt
  | dK kvs => obtain ⟨_, _, _, _, o, _, _, e, _⟩ := x; exact Heap.lt_size e
  | dT kvs => obtain ⟨_, _, _, _, o, _, _, e, _⟩ := x; exact Heap.lt_size e
  | set S n => obtain ⟨o, _, _, _, e, _⟩ := x; exact Heap.lt_size e
  | ins C dx fs => obtain ⟨_, _, _, e, _⟩ := x; exact Heap.lt_size e
  | own y => obtain ⟨_, e⟩ := x; exact Heap.lt_size e
  | xd fs => obtain ⟨_, ⟨_, _, _, e, _⟩, _⟩ := x; exact Heap.lt_size e
  | rng lo hi => obtain ⟨_, _, _, e⟩ := x; exact Heap.lt_size e
  | frz ob u => obtain ⟨e, _⟩ := x; exact Heap.lt_size e
  | tbl ps => exact Heap.lt_size (show h.get? a = some _ from x)
  | met f y => exact Heap.lt_size (show h.get? a = some _ from x)
  | ext φ => obtain ⟨_, ⟨_, e⟩, _⟩ := x; exact Heap.lt_size e
theorem Paired.mapP {α β : Type} {F G : α → β → Prop} : ∀ {l₁ : List α} {l₂ : List β}, Paired F l₁ l₂ → (∀ a b, F a b → G a b) → Paired G l₁ l₂
  | _, _, .nil, _ => .nil
  | _, _, .cons r t, f => .cons (f _ _ r) (Paired.mapP t f)
theorem ObjOk.stay (x : ObjOk P w H h a o) (k : ∀ b u, (b = a ∨ H b = some (.own a)) → h.get? b = some u → h'.get? b = some u)
    (ho : ∀ b, H b = some (.own a) → H' b = some (.own a)) (ht : ∀ b xs, H b = some (.tup xs) → H' b = some (.tup xs)) : ObjOk P w H' h' a o := by
  induction o with
  | lst xs => obtain ⟨z, its, n, r, e⟩ := x; exact ⟨z, its, n, r, k _ _ (.inl rfl) e⟩
  | tup xs => obtain ⟨z, its, r, ob, e, c⟩ := x; exact ⟨z, its, r, ob, k _ _ (.inl rfl) e, c⟩
  | dK kvs => obtain ⟨z, y, vs, r, ob, es, ep, e, c⟩ := x; exact ⟨z, y, vs, r, ob, es, ep, k _ _ (.inl rfl) e, c⟩
  | dT kvs =>
    obtain ⟨z, y, xs, r, ob, es, ep, e, c⟩ := x
    exact ⟨z, y, xs, Paired.mapP r fun p q z => ⟨z.1, ht _ _ z.2.1, z.2.2⟩, ob, es, ep, k _ _ (.inl rfl) e, c⟩
  | set S n => obtain ⟨ob, es, ep, t, e, c⟩ := x; exact ⟨ob, es, ep, t, k _ _ (.inl rfl) e, c⟩
  | ins C dx fs =>
    obtain ⟨d, z, ne, e, mA, ⟨od, es, ep, e2, c⟩, r⟩ := x
    exact ⟨ho _ d, z, ne, k _ _ (.inl rfl) e, mA, ⟨od, es, ep, k _ _ (.inr d) e2, c⟩, r⟩
  | own y => obtain ⟨ob, e⟩ := x; exact ⟨ob, k _ _ (.inl rfl) e⟩
  | xd fs => obtain ⟨mA, ⟨od, es, ep, e, c⟩, r⟩ := x; exact ⟨mA, ⟨od, es, ep, k _ _ (.inl rfl) e, c⟩, r⟩
  | rng lo hi => obtain ⟨t, u, v, e⟩ := x; exact ⟨t, u, v, k _ _ (.inl rfl) e⟩
  | frz ob u ih => obtain ⟨e, q⟩ := x; exact ⟨k _ _ (.inl rfl) e, ih q⟩
  | tbl ps =>
    have e : h.get? a = some { cls := .none, data := .fields ps } := x
    show h'.get? a = some { cls := .none, data := .fields ps }
    exact k a _ (.inl rfl) e
  | met f y =>
    have e : h.get? a = some (PySem.W.methodObj (.ref f) (.ref y)) := x
    show h'.get? a = some (PySem.W.methodObj (.ref f) (.ref y))
    exact k a _ (.inl rfl) e
  | ext φ => obtain ⟨p, ⟨o, e⟩, st⟩ := x; exact ⟨st _ _ p fun o q => k _ _ (.inl rfl) q, ⟨o, k _ _ (.inl rfl) e⟩, st⟩
theorem HOk.lt (x : HOk P w H h) (e : H a = some o) : a < h.objs.size := (x a o e).lt
theorem HOk.fresh (x : HOk P w H h) (e : h.objs.size ≤ a) : H a = none := by
  cases q : H a with
  | none => rfl
  | some u => exact absurd (Nat.lt_of_lt_of_le (x.lt q) e) (Nat.lt_irrefl _)
theorem HOk.kept (x : HOk P w H h) (k : ∀ b u, h.get? b = some u → h'.get? b = some u) : HOk P w H h' := fun a o e =>
  (x a o e).stay (fun b u _ q => k b u q) (fun _ q => q) fun _ _ q => q
theorem HOk.laid (x : HOk P w H h) (k : ∀ b u, h.get? b = some u → h'.get? b = some u) (hp : h.objs.size ≤ a) (new : ObjOk P w (upd H a o) h' a o) : HOk P w (upd H a o) h' := fun b u e => by
  have hn := x.fresh hp
  by_cases hb : b = a
  · subst hb; rw [upd_same] at e; cases e; exact new
  · rw [upd_ne hb] at e
    exact (x b u e).stay (fun c v _ q => k c v q) (fun c q => by rw [upd_ne (ne_of_none q hn)]; exact q) fun c xs q => by rw [upd_ne (ne_of_none q hn)]; exact q
end

noncomputable def Rd (H : Hp) (a : Addr) (u : HO) : Prop := H a = some u ∨ ∃ o, H a = some (.frz o u)
theorem Rd.ok {P : Program} {w : World} {H : Hp} {h : Heap} {a : Addr} {u : HO} (r : Rd H a u) (x : HOk P w H h) : ObjOk P w H h a u := by
  rcases r with r | ⟨o, r⟩
  · exact x a u r
  · obtain ⟨_, q⟩ := x a _ r
    exact q
noncomputable def Mut : Option HO → Prop
  | some (.lst _) => True
  | some (.dK _) => True
  | some (.dT _) => True
  | some (.set _ _) => True
  | some (.ins _ _ _) => True
  | some (.ext _) => True
  | _ => False
section
variable {P : Program} {w : World} {H : Hp} {h h' : Heap} {x e : Addr} {o' : HO}
theorem HOk.write (ok : HOk P w H h) (mu : Mut (H x)) (he : e = x ∨ H e = some (.own x)) (k : ∀ b u, b ≠ e → h.get? b = some u → h'.get? b = some u) (heo : ∃ u, h'.get? e = some u)
    (new : ObjOk P w (upd H x o') h' x o') : HOk P w (upd H x o') h' := fun b u q => by
  have nown : ∀ c y, H c = some (.own y) → c ≠ x := fun c y r z => by subst z; rw [r] at mu; exact mu
  have ntup : ∀ c xs, H c = some (.tup xs) → c ≠ x := fun c xs r z => by subst z; rw [r] at mu; exact mu
  by_cases hb : b = x
  · subst hb; rw [upd_same] at q; cases q; exact new
  · rw [upd_ne hb] at q
    by_cases hbe : b = e
    · have q' : H b = some (.own x) := by
        rcases he with z | z
        · exact absurd (hbe.trans z) hb
        · rw [hbe]; exact z
      rw [q] at q'; cases q'
      obtain ⟨v, hv⟩ := heo
      exact ⟨v, by rw [hbe]; exact hv⟩
    · refine (ok b u q).stay (fun c v hc r => k c v ?_ r) (fun c r => by rw [upd_ne (nown c b r)]; exact r) fun c xs r => by rw [upd_ne (ntup c xs r)]; exact r
      rcases hc with rfl | hc
      · exact hbe
      · rintro rfl
        rcases he with z | z
        · exact nown c b hc z
        · rw [hc] at z; cases z; exact hb rfl
end

structure Un (fs ex : List Addr) (H H' : Hp) (h h' : Heap) : Prop where
  keep : ∀ b o, h.get? b = some o → H b = none → b ∉ fs → b ∉ ex → h'.get? b = some o
  slot : ∀ b o, h.get? b = some o → H b = none → b ∈ fs → b ∉ ex → ∃ sl, h'.get? b = some { o with slots := sl }
  free : ∀ b o, h.get? b = some o → H b = none → b ∉ ex → H' b = none
  there : ∀ b o, h.get? b = some o → b ∉ ex → ∃ o', h'.get? b = some o'
  tups : ∀ b xs, H b = some (.tup xs) → H' b = some (.tup xs)
  frzs : ∀ b o u, H b = some (.frz o u) → H' b = some (.frz o u)
  tbls : ∀ b ps, H b = some (.tbl ps) → ∃ more, H' b = some (.tbl (ps ++ more))
section
variable {fs fs' ex ex' : List Addr} {H H1 H2 : Hp} {h h1 h2 h' : Heap} {a x e : Addr} {o : HO}
theorem Un.any (u : Un fs ex H H1 h h1) {b : Addr} {ob : Obj} (q : h.get? b = some ob) (n : H b = none) (hx : b ∉ ex) : ∃ sl, h1.get? b = some { ob with slots := sl } := by
  by_cases hb : b ∈ fs
  · exact u.slot b ob q n hb hx
  · exact ⟨ob.slots, u.keep b ob q n hb hx⟩
theorem Un.kept (k : ∀ b u, h.get? b = some u → h'.get? b = some u) : Un fs ex H H h h' :=
  ⟨fun b ob q _ _ _ => k b ob q, fun b ob q _ _ _ => ⟨ob.slots, k b ob q⟩, fun _ _ _ n _ => n, fun b ob q _ => ⟨ob, k b ob q⟩, fun _ _ q => q, fun _ _ _ q => q, fun _ ps q => ⟨#[], by rw [q]; simp⟩⟩
theorem Un.refl : Un fs ex H H h h := Un.kept fun _ _ q => q
theorem Un.laid (k : ∀ b u, h.get? b = some u → h'.get? b = some u) (hp : h.objs.size ≤ a) (hn : H a = none) : Un fs ex H (upd H a o) h h' where
  keep := fun b u q _ _ _ => k b u q
  slot := fun b u q _ _ _ => ⟨u.slots, k b u q⟩
  free := fun b u q n _ => by rw [upd_ne (Nat.ne_of_lt (Nat.lt_of_lt_of_le (Heap.lt_size q) hp))]; exact n
  there := fun b u q _ => ⟨u, k b u q⟩
  tups := fun b xs q => by rw [upd_ne (ne_of_none q hn)]; exact q
  frzs := fun b u xs q => by rw [upd_ne (ne_of_none q hn)]; exact q
  tbls := fun b ps q => ⟨#[], by rw [upd_ne (ne_of_none q hn), q]; simp⟩
theorem Un.write (mu : Mut (H x)) (he : e = x ∨ H e = some (.own x)) (k : ∀ b u, b ≠ e → h.get? b = some u → h'.get? b = some u) (heo : ∃ u, h'.get? e = some u) : Un fs ex H (upd H x o) h h' := by
  have hx : ∀ b, H b = none → b ≠ x := fun b n z => by subst z; rw [n] at mu; exact mu
  have hb : ∀ b, H b = none → b ≠ e := fun b n z => by
    subst z
    rcases he with r | r
    · exact hx b n r
    · rw [n] at r; cases r
  have hm : ∀ b u, H b = some u → ¬ Mut (some u) → b ≠ x := fun b u q nm z => by subst z; rw [q] at mu; exact nm mu
  refine ⟨fun b u q n _ _ => k b u (hb b n) q, fun b u q n _ _ => ⟨u.slots, k b u (hb b n) q⟩, fun b u q n _ => by rw [upd_ne (hx b n)]; exact n, fun b u q _ => ?_,
    fun b xs q => by rw [upd_ne (hm b _ q fun z => z)]; exact q, fun b u xs q => by rw [upd_ne (hm b _ q fun z => z)]; exact q, fun b ps q => ⟨#[], by rw [upd_ne (hm b _ q fun z => z), q]; simp⟩⟩
  by_cases hbe : b = e
  · subst hbe; exact heo
  · exact ⟨u, k b u hbe q⟩
end

noncomputable def trk (h : Heap) (H : Hp) : List Addr := (List.range h.objs.size).filter fun a => (H a).isSome
noncomputable def hidT (h : Heap) (H : Hp) : Heap := PySem.W.hideAll h (trk h H)
theorem hidT_size (h : Heap) (H : Hp) : (hidT h H).objs.size = h.objs.size := PySem.W.hideAll_size _ _
theorem hidT_get {h : Heap} {H : Hp} {b : Addr} {o : Obj} (e : h.get? b = some o) (n : H b = none) : (hidT h H).get? b = some o :=
  PySem.W.hideAll_get _ e fun hm => by
    have q : (H b).isSome = true := (List.mem_filter.mp hm).2
    rw [n] at q; simp at q
theorem of_hidT {h : Heap} {H : Hp} {b : Addr} {o : Obj} (e : (hidT h H).get? b = some o) : h.get? b = some o ∧ H b = none := by
  have e' : h.get? b = some o := PySem.W.of_hideAll (trk h H) e
  refine ⟨e', ?_⟩
  cases q : H b with
  | none => rfl
  | some x =>
    have hm : b ∈ trk h H := List.mem_filter.mpr ⟨List.mem_range.mpr (Heap.lt_size e'), by simp [q]⟩
    have z : (hidT h H).get? b = none := PySem.W.hideAll_none (trk h H) hm
    rw [z] at e; cases e

end L2

namespace L2
open PySem PySem.Spec PyProof.Rows

structure Mod (K : PySem.W.Frag) (mg : Str → Option Value) (base : Heap) : Prop where
  kin : K.In base
  glob : base.Ns mainGlobals mg
  blt : ∃ mb, base.Ns builtinsNs mb ∧ ∀ x : Str, x ≠ "__name__" → mb x = bootBuiltins x
  nolimit : base.NoLimit

structure Cx where
  prog : Program
  w : World
  K : PySem.W.Frag
  mg : Str → Option Value
  base : Heap
  A : Around
  N : List Str
  s₀ : Shared
  H₀ : Hp
  env : Env
  outer : List Env
  stack : List Env
  ex : List Addr
  fn : Str → Bool
  calm : Bool
  pn : List (Addr × Obj)
  xe : Value → Shared → Prop
noncomputable def frs (l : List Env) : List Addr := l.filterMap (·.frame)
noncomputable abbrev Cx.fs (X : Cx) : List Addr := frs X.outer

noncomputable def Vis (sc : Scope) (x : Str) : Prop := sc.names.lookup x = some .local ∨ sc.names.lookup x = some .cell ∨ sc.names.lookup x = some .free
noncomputable def Loc (sc : Scope) (x : Str) : Prop := sc.names.lookup x = some .local ∨ sc.names.lookup x = some .cell
noncomputable def Look (env : Env) (h : Heap) (m : Str → Option Value) (x : Str) (u : Value) : Prop :=
  (env.kindOf x = some .local ∧ m x = some u) ∨ ((env.kindOf x = some .cell ∨ env.kindOf x = some .free) ∧ ∃ c, env.cells.lookup x = some c ∧ h.IsCell c (some u))

structure Cx.Ok (X : Cx) : Prop where
  mod : Mod X.K X.mg X.base
  kind : X.env.scope.kind = .function
  glob : X.env.globals = mainGlobals
  blt : X.env.builtins = builtinsNs
  above : X.s₀.heap.objs.size ≤ X.env.locals
  inj : ∀ x y c, X.env.cells.lookup x = some c → X.env.cells.lookup y = some c → x = y
  has : ∀ x, (X.env.kindOf x = some .cell ∨ X.env.kindOf x = some .free) → ∃ c, X.env.cells.lookup x = some c
  cab : ∀ x c, X.fn x = true → X.env.cells.lookup x = some c → X.s₀.heap.objs.size ≤ c
  hd : X.calm = true → X.A.handled = none
  frames : X.A.frames = some X.stack
  stk : X.stack = X.outer ∨ (X.stack = X.env :: X.outer ∧ X.env.frame = some X.env.locals)
  exf : ∀ b ∈ X.ex, b ≠ X.env.locals ∧ ∀ x c, X.env.cells.lookup x = some c → c ≠ b
  bs : ∀ b o, X.base.get? b = some o → X.s₀.heap.get? b = some o ∧ X.H₀ b = none
  bsz : X.base.objs.size ≤ X.s₀.heap.objs.size
  noex : ∀ b o, X.base.get? b = some o → b ∉ X.ex
  exfs : ∀ b ∈ X.ex, b ∉ X.fs
  funs : X.s₀.heap.FunFrames X.base X.outer
  frf : ∀ b ∈ X.fs, X.H₀ b = none

structure Inv (X : Cx) (pins : List (Addr × Obj)) (σ : List (Option V)) (H : Hp) (s : Shared) : Prop where
  ok : X.Ok
  os : s.os = X.s₀.os
  bare : AllBare s.gens
  base : Un X.fs X.ex X.H₀ H X.s₀.heap s.heap
  loc : ∃ m, s.heap.Ns X.env.locals m ∧ ∀ (i : Nat) (x : Str) (v : V), X.N[i]? = some x → σ[i]? = some (some v) → Vis X.env.scope x → ∃ u, RelV v u ∧ Look X.env s.heap m x u
  cell : ∀ x c, X.env.cells.lookup x = some c → ∃ v, s.heap.IsCell c v
  free : H X.env.locals = none
  freeC : ∀ x c, X.env.cells.lookup x = some c → H c = none
  pin : ∀ p ∈ X.pn ++ pins, s.heap.get? p.1 = some p.2 ∧ H p.1 = none ∧ p.1 ≠ X.env.locals ∧ p.1 ∉ X.fs ∧ ∀ v, p.2.data ≠ .cell v
  hok : HOk X.prog X.w H s.heap
  len : σ.length = X.N.length

section
variable {X : Cx} {pins : List (Addr × Obj)} {σ : List (Option V)} {H H' : Hp} {s : Shared} {h' : Heap}

theorem Cx.Ok.nofr (ok : X.Ok) {b : Addr} {o : Obj} (e : X.base.get? b = some o) : b ∉ X.fs := fun hb => by
  have := (ok.funs.mem hb).1
  rw [e] at this; cases this
theorem Inv.bs (I : Inv X pins σ H s) : ∀ b o, X.base.get? b = some o → s.heap.get? b = some o ∧ H b = none := fun b o e =>
  ⟨I.base.keep b o (I.ok.bs b o e).1 (I.ok.bs b o e).2 (I.ok.nofr e) (I.ok.noex b o e), I.base.free b o (I.ok.bs b o e).1 (I.ok.bs b o e).2 (I.ok.noex b o e)⟩
theorem Inv.bk (I : Inv X pins σ H s) : ∀ b o, X.base.get? b = some o → s.heap.get? b = some o := fun b o e => (I.bs b o e).1
theorem Inv.mod (I : Inv X pins σ H s) : Mod X.K X.mg X.base := I.ok.mod
theorem Inv.kIn (I : Inv X pins σ H s) : X.K.In s.heap := I.ok.mod.kin.keeps I.bk
theorem Inv.lt (I : Inv X pins σ H s) : X.env.locals < s.heap.objs.size := let ⟨_, hn, _⟩ := I.loc; hn.lt
theorem Inv.sz (I : Inv X pins σ H s) : X.s₀.heap.objs.size ≤ s.heap.objs.size := Nat.le_trans I.ok.above (Nat.le_of_lt I.lt)
theorem Inv.nofs (I : Inv X pins σ H s) {a : Addr} (h : s.heap.objs.size ≤ a) : a ∉ X.fs := fun hb => by
  obtain ⟨_, o, ho, _⟩ := I.ok.funs.mem hb
  exact absurd (Nat.lt_of_lt_of_le (Heap.lt_size ho) (Nat.le_trans I.sz h)) (Nat.lt_irrefl _)
theorem Inv.cne (I : Inv X pins σ H s) : ∀ x c, X.env.cells.lookup x = some c → c ≠ X.env.locals := fun x c e z => by
  obtain ⟨v, o, ho, hd⟩ := I.cell x c e
  obtain ⟨m, ⟨o', es, ep, ho', hd', _⟩, _⟩ := I.loc
  rw [z, ho'] at ho; cases ho; rw [hd'] at hd; cases hd
theorem Inv.funs (I : Inv X pins σ H s) : s.heap.FunFrames X.base X.outer := by
  have all : ∀ (l : List Env), (∀ b ∈ frs l, b ∈ X.fs) → X.s₀.heap.FunFrames X.base l → s.heap.FunFrames X.base l := by
    intro l
    induction l with
    | nil => intro _ _; trivial
    | cons env r ih =>
      intro hs hl
      obtain ⟨hk, ⟨L, o, hf, hn, ho, hd⟩, hr⟩ := hl
      have hL : L ∈ X.fs := hs L (by unfold frs; rw [List.filterMap_cons, hf]; exact List.mem_cons_self)
      obtain ⟨sl, e⟩ := I.base.slot L o ho (I.ok.frf L hL) hL fun z => I.ok.exfs L z hL
      exact ⟨hk, ⟨L, _, hf, hn, e, hd⟩, ih (fun b hb => hs b (by unfold frs; rw [List.filterMap_cons, hf]; exact List.mem_cons_of_mem _ hb)) hr⟩
  exact all X.outer (fun _ hb => hb) I.ok.funs

theorem Inv.stack (I : Inv X pins σ H s) : s.heap.FunFrames X.base X.stack := by
  rcases I.ok.stk with e | ⟨e, hf⟩
  · rw [e]; exact I.funs
  · rw [e]
    obtain ⟨m, hn, _⟩ := I.loc
    refine .cons (by rw [I.ok.kind]; decide) hf hn ?_ I.funs
    exact Heap.get?_none_of_le (Nat.le_trans I.ok.bsz I.ok.above)
theorem Inv.stkSub (I : Inv X pins σ H s) : ∀ b ∈ frs X.stack, b ∈ X.env.locals :: X.fs := fun b hb => by
  rcases I.ok.stk with e | ⟨e, hf⟩
  · rw [e] at hb; exact List.mem_cons_of_mem _ hb
  · rw [e] at hb
    unfold frs at hb
    rw [List.filterMap_cons, hf] at hb
    exact hb
theorem Inv.stkFree (I : Inv X pins σ H s) : ∀ b ∈ frs X.stack, H b = none := fun b hb => by
  rcases List.mem_cons.mp (I.stkSub b hb) with e | hb
  · rw [e]; exact I.free
  · obtain ⟨_, o, ho, _⟩ := I.ok.funs.mem hb
    exact I.base.free b o ho (I.ok.frf b hb) fun z => I.ok.exfs b z hb

theorem Inv.step {g' : Array GenState} {t' : Nat} {d' : Drawn} {ch : List Addr} (I : Inv X pins σ H s)
    (hch : ∀ b ∈ ch, (b ∈ X.ex ∨ X.s₀.heap.objs.size ≤ b) ∧ b ≠ X.env.locals ∧ (∀ x c, X.env.cells.lookup x = some c → c ≠ b) ∧ ∀ p ∈ X.pn ++ pins, p.1 ≠ b)
    (keep : ∀ b o, b ≠ X.env.locals → b ∉ X.fs → b ∉ ch → s.heap.get? b = some o → H b = none → h'.get? b = some o)
    (slot : ∀ b o, b ≠ X.env.locals → b ∈ X.fs → b ∉ ch → s.heap.get? b = some o → H b = none → ∃ sl, h'.get? b = some { o with slots := sl }) (free : ∀ b o, b ∉ ch → s.heap.get? b = some o → H b = none → H' b = none)
    (there : ∀ b o, b ∉ ch → s.heap.get? b = some o → ∃ o', h'.get? b = some o')
    (tups : ∀ b xs, H b = some (.tup xs) → H' b = some (.tup xs)) (frzs : ∀ b o u, H b = some (.frz o u) → H' b = some (.frz o u)) (tbls : ∀ b ps, H b = some (.tbl ps) → ∃ more, H' b = some (.tbl (ps ++ more)))
    (ns : ∀ m, s.heap.Ns X.env.locals m → h'.Ns X.env.locals m) (hok : HOk X.prog X.w H' h') (hg : AllBare g') :
    Inv X pins σ H' { s with heap := h', gens := g', drawn := d', toks := t' } := by
  have neL : ∀ b o, X.s₀.heap.get? b = some o → b ≠ X.env.locals := fun b o e => Nat.ne_of_lt (Nat.lt_of_lt_of_le (Heap.lt_size e) I.ok.above)
  have neC : ∀ b o, X.s₀.heap.get? b = some o → b ∉ X.ex → b ∉ ch := fun b o e hx hb => by
    rcases (hch b hb).1 with z | z
    · exact hx z
    · exact absurd (Nat.lt_of_lt_of_le (Heap.lt_size e) z) (Nat.lt_irrefl _)
  have cellK : ∀ x c, X.env.cells.lookup x = some c → ∀ v, s.heap.IsCell c v → h'.IsCell c v := fun x c e v ⟨o, ho, hd⟩ => by
    have nch : c ∉ ch := fun z => (hch c z).2.2.1 x c e rfl
    by_cases hc : c ∈ X.fs
    · obtain ⟨sl, q⟩ := slot c o (I.cne x c e) hc nch ho (I.freeC x c e)
      exact ⟨_, q, hd⟩
    · exact ⟨o, keep c o (I.cne x c e) hc nch ho (I.freeC x c e), hd⟩
  refine ⟨I.ok, I.os, hg, ⟨fun b o e n hb hx => ?_, fun b o e n hb hx => ?_, fun b o e n hx => ?_, fun b o e hx => ?_, fun b xs e => tups b xs (I.base.tups b xs e), fun b o xs e => frzs b o xs (I.base.frzs b o xs e), fun b ps e => ?_⟩, ?_, fun x c e => ?_, ?_, fun x c e => ?_, fun p hp => ?_, hok, I.len⟩
  · exact keep b o (neL b o e) hb (neC b o e hx) (I.base.keep b o e n hb hx) (I.base.free b o e n hx)
  · obtain ⟨sl, e1⟩ := I.base.slot b o e n hb hx
    obtain ⟨sl', e2⟩ := slot b _ (neL b o e) hb (neC b o e hx) e1 (I.base.free b o e n hx)
    exact ⟨sl', e2⟩
  · obtain ⟨o', e1⟩ := I.base.there b o e hx
    exact free b o' (neC b o e hx) e1 (I.base.free b o e n hx)
  · obtain ⟨o', e1⟩ := I.base.there b o e hx
    exact there b o' (neC b o e hx) e1
  · obtain ⟨m1, e1⟩ := I.base.tbls b ps e
    obtain ⟨m2, e2⟩ := tbls b _ e1
    exact ⟨m1 ++ m2, by rw [e2, Array.append_assoc]⟩
  · obtain ⟨m, hn, hl⟩ := I.loc
    refine ⟨m, ns m hn, fun i x v e1 e2 e3 => ?_⟩
    obtain ⟨u, r, l⟩ := hl i x v e1 e2 e3
    refine ⟨u, r, ?_⟩
    rcases l with l | ⟨k, c, e, z⟩
    · exact .inl l
    · exact .inr ⟨k, c, e, cellK x c e _ z⟩
  · obtain ⟨v, z⟩ := I.cell x c e
    exact ⟨v, cellK x c e v z⟩
  · obtain ⟨m, ⟨o, _, _, ho, _⟩, _⟩ := I.loc
    exact free _ o (fun z => (hch _ z).2.1 rfl) ho I.free
  · obtain ⟨v, o, ho, hd⟩ := I.cell x c e
    exact free c o (fun z => (hch c z).2.2.1 x c e rfl) ho (I.freeC x c e)
  · obtain ⟨e, n, ne, nf, d⟩ := I.pin p hp
    have nch : p.1 ∉ ch := fun z => (hch p.1 z).2.2.2 p hp rfl
    exact ⟨keep p.1 p.2 ne nf nch e n, free p.1 p.2 nch e n, ne, nf, d⟩
theorem Inv.un {t' : Nat} (I : Inv X pins σ H s) (u : Un X.fs [] H H' s.heap h') (hok : HOk X.prog X.w H' h') : Inv X pins σ H' { s with heap := h', toks := t' } := by
  obtain ⟨m, ⟨o, es, ep, ho, r⟩, _⟩ := id I.loc
  obtain ⟨sl, hL⟩ := u.any ho I.free (by simp)
  exact I.step (g' := s.gens) (d' := s.drawn) (ch := []) (fun _ z => nomatch z) (fun b o _ hb _ e n => u.keep b o e n hb (by simp)) (fun b o _ hb _ e n => u.slot b o e n hb (by simp)) (fun b o _ e n => u.free b o e n (by simp)) (fun b o _ e => u.there b o e (by simp)) u.tups u.frzs u.tbls (fun m' hm => by
    obtain ⟨o', es', ep', ho', r'⟩ := hm
    rw [ho] at ho'; cases ho'
    exact ⟨_, es', ep', hL, r'⟩) hok I.bare
theorem Inv.call {g' : Array GenState} {t' : Nat} {d' : Drawn} {ch : List Addr} (I : Inv X pins σ H s) (u : Un (frs X.stack) ch H H' s.heap h') (hok : HOk X.prog X.w H' h') (hg : AllBare g')
    (hch : ∀ b ∈ ch, (b ∈ X.ex ∨ X.s₀.heap.objs.size ≤ b) ∧ b ≠ X.env.locals ∧ (∀ x c, X.env.cells.lookup x = some c → c ≠ b) ∧ ∀ p ∈ X.pn ++ pins, p.1 ≠ b) :
    Inv X pins σ H' { s with heap := h', gens := g', drawn := d', toks := t' } := by
  obtain ⟨m, ⟨o, es, ep, ho, r⟩, _⟩ := id I.loc
  obtain ⟨sl, hL⟩ := u.any ho I.free fun z => (hch _ z).2.1 rfl
  exact I.step (ch := ch) hch (fun b o hL hb hc e n => u.keep b o e n (fun z => (List.mem_cons.mp (I.stkSub b z)).elim hL hb) hc) (fun b o _ _ hc e n => u.any e n hc) (fun b o hc e n => u.free b o e n hc) (fun b o hc e => u.there b o e hc) u.tups u.frzs u.tbls (fun m' hm => by
    obtain ⟨o', es', ep', ho', r'⟩ := hm
    rw [ho] at ho'; cases ho'
    exact ⟨_, es', ep', hL, r'⟩) hok hg
theorem Inv.turned {t' : Nat} {it : Addr} (I : Inv X pins σ H s) (k : ∀ b o, b ≠ it → s.heap.get? b = some o → h'.get? b = some o) (hn : H it = none) (hL : it ≠ X.env.locals)
    (h1 : it ∈ X.ex ∨ X.s₀.heap.objs.size ≤ it) (h2 : ∀ x c, X.env.cells.lookup x = some c → c ≠ it) (h3 : ∀ p ∈ X.pn ++ pins, p.1 ≠ it) : Inv X pins σ H { s with heap := h', toks := t' } := by
  have nit : ∀ b u, H b = some u → b ≠ it := fun b u e z => by rw [z, hn] at e; cases e
  refine I.step (g' := s.gens) (d' := s.drawn) (ch := [it]) (fun b hb => ?_) (fun b o _ _ hc e _ => k b o (fun z => hc (by simp [z])) e) (fun b o _ _ hc e _ => ⟨o.slots, k b o (fun z => hc (by simp [z])) e⟩) (fun _ _ _ _ n => n)
    (fun b o hc e => ⟨o, k b o (fun z => hc (by simp [z])) e⟩) (fun _ _ e => e) (fun _ _ _ e => e) (fun b ps e => ⟨#[], by rw [e]; simp⟩) (fun m hm => ?_) (fun b u e => ?_) I.bare
  · have e : b = it := by simpa using hb
    subst e
    exact ⟨h1, hL, h2, h3⟩
  · obtain ⟨o, es, ep, ho, r⟩ := hm
    exact ⟨o, es, ep, k _ o (Ne.symm hL) ho, r⟩
  · refine (I.hok b u e).stay (fun c v hc q => k c v ?_ q) (fun _ q => q) fun _ _ q => q
    rcases hc with z | z
    · rw [z]; exact nit b u e
    · exact nit c _ z
theorem Inv.tok (I : Inv X pins σ H s) (t : Nat) : Inv X pins σ H { s with toks := t } := I.un (h' := s.heap) (t' := t) Un.refl I.hok
theorem Inv.kept {t' : Nat} (I : Inv X pins σ H s) (k : ∀ b u, s.heap.get? b = some u → h'.get? b = some u) : Inv X pins σ H { s with heap := h', toks := t' } := I.un (Un.kept k) (I.hok.kept k)
theorem Inv.laid {a : Addr} {o : HO} {t' : Nat} (I : Inv X pins σ H s) (k : ∀ b u, s.heap.get? b = some u → h'.get? b = some u) (hp : s.heap.objs.size ≤ a) (new : ObjOk X.prog X.w (upd H a o) h' a o) :
    Inv X pins σ (upd H a o) { s with heap := h', toks := t' } := I.un (Un.laid k hp (I.hok.fresh hp)) (I.hok.laid k hp new)
theorem Inv.write {x e : Addr} {o : HO} {t' : Nat} (I : Inv X pins σ H s) (mu : Mut (H x)) (he : e = x ∨ H e = some (.own x)) (k : ∀ b u, b ≠ e → s.heap.get? b = some u → h'.get? b = some u) (heo : ∃ u, h'.get? e = some u)
    (new : ObjOk X.prog X.w (upd H x o) h' x o) : Inv X pins σ (upd H x o) { s with heap := h', toks := t' } := I.un (Un.write mu he k heo) (I.hok.write mu he k heo new)
theorem Inv.pins_of {pins' : List (Addr × Obj)} (I : Inv X pins σ H s) (h : ∀ p ∈ pins', s.heap.get? p.1 = some p.2 ∧ H p.1 = none ∧ p.1 ≠ X.env.locals ∧ p.1 ∉ X.fs ∧ ∀ v, p.2.data ≠ .cell v) : Inv X pins' σ H s :=
  ⟨I.ok, I.os, I.bare, I.base, I.loc, I.cell, I.free, I.freeC, fun p hp => (List.mem_append.mp hp).elim (fun z => I.pin p (List.mem_append_left _ z)) (h p), I.hok, I.len⟩

theorem nodup_ix {N : List Str} (hN : N.Nodup) {i j : Nat} {x : Str} (a : N[i]? = some x) (b : N[j]? = some x) : i = j := by
  obtain ⟨h1, e1⟩ := List.getElem?_eq_some_iff.mp a
  obtain ⟨h2, e2⟩ := List.getElem?_eq_some_iff.mp b
  exact (List.getElem_inj hN).mp (e1.trans e2.symm)

theorem store_ok2 {M : Model} {A : Around} {E : Value → Shared → Prop} {i : Nat} {x : Str} {v : V} {u : Value} {Q : Unit → Shared → Prop} (I : Inv X pins σ H s) (hN : X.N.Nodup) (hi : X.N[i]? = some x) (hx : Loc X.env.scope x) (r : RelV v u)
    (h : ∀ s', Inv X pins (σ.set i (some v)) H s' → (∃ a, Heap.SameBut a s.heap s'.heap ∧ (a = X.env.locals ∨ X.env.cells.lookup x = some a)) → Q () s') (hf : X.fn x = true ∨ X.env.scope.names.lookup x = some .local := by first | exact .inl rfl | exact .inr rfl | assumption) : wpAny M A (storeName X.env x u) Q E s := by
  obtain ⟨m, hn, hl⟩ := id I.loc
  have hcls : (X.env.scope.kind == .class || (X.env.scope.kind == .module && X.env.locals != X.env.globals)) = false := by rw [I.ok.kind]; rfl
  have hiσ : i < σ.length := by rw [I.len]; exact (List.getElem?_eq_some_iff.mp hi).1
  have cne := I.cne
  have tracked : ∀ {a : Addr} {h' : Heap}, (∃ o, s.heap.get? a = some o ∧ H a = none) → Heap.SameBut a s.heap h' → HOk X.prog X.w H h' := fun {a h'} ha hs b ob e => by
    obtain ⟨_, _, hfree⟩ := ha
    refine (I.hok b ob e).stay (fun c w' hc q => (hs.2 c ?_).trans q) (fun _ q => q) fun _ _ q => q
    rintro rfl
    rcases hc with rfl | hc
    · rw [hfree] at e; cases e
    · rw [hfree] at hc; cases hc
  rcases hx with hk | hk
  · refine wpAny_storeName_local hk hn (fun h' hn' hs => ?_) hcls
    obtain ⟨oL, _, _, hoL, _⟩ := id hn
    refine h _ ⟨I.ok, I.os, I.bare, ⟨fun b o e n hb hx => ?_, fun b o e n hb hx => ?_, I.base.free, fun b o e hx => ?_, I.base.tups, I.base.frzs, I.base.tbls⟩, ⟨_, hn', fun j y v' e1 e2 e3 => ?_⟩, fun y c e => ?_, I.free, I.freeC, fun p hp => ?_, tracked ⟨oL, hoL, I.free⟩ hs, by simpa using I.len⟩ ⟨_, hs, .inl rfl⟩
    · exact (hs.2 b (Nat.ne_of_lt (Nat.lt_of_lt_of_le (Heap.lt_size e) I.ok.above))).trans (I.base.keep b o e n hb hx)
    · obtain ⟨sl, e1⟩ := I.base.slot b o e n hb hx
      exact ⟨sl, (hs.2 b (Nat.ne_of_lt (Nat.lt_of_lt_of_le (Heap.lt_size e) I.ok.above))).trans e1⟩
    · obtain ⟨o', e1⟩ := I.base.there b o e hx
      exact ⟨o', (hs.2 b (Nat.ne_of_lt (Nat.lt_of_lt_of_le (Heap.lt_size e) I.ok.above))).trans e1⟩
    · by_cases hj : j = i
      · subst hj
        rw [hi] at e1; cases e1
        rw [List.getElem?_set_self hiσ] at e2
        cases e2
        exact ⟨u, r, .inl ⟨hk, by simp⟩⟩
      · rw [List.getElem?_set_ne (Ne.symm hj)] at e2
        obtain ⟨u', r', q⟩ := hl j y v' e1 e2 e3
        refine ⟨u', r', ?_⟩
        rcases q with ⟨k, e⟩ | ⟨k, c, e, z⟩
        · refine .inl ⟨k, ?_⟩
          have : y ≠ x := fun e => hj (nodup_ix hN e1 (e ▸ hi))
          simp [this, e]
        · exact .inr ⟨k, c, e, z.sameBut hs (cne y c e)⟩
    · obtain ⟨w', z⟩ := I.cell y c e
      exact ⟨w', z.sameBut hs (cne y c e)⟩
    · obtain ⟨e, n, ne, nf, d⟩ := I.pin p hp
      exact ⟨(hs.2 p.1 ne).trans e, n, ne, nf, d⟩
  · have hfn : X.fn x = true := by
      rcases hf with z | z
      · exact z
      · rw [z] at hk; cases hk
    obtain ⟨c, hc⟩ := I.ok.has x (.inl hk)
    obtain ⟨w', z⟩ := I.cell x c hc
    refine wpAny_storeName_cell I.ok.kind hk hc z (fun h' hc' hs => ?_)
    obtain ⟨oc, hoc, hocd⟩ := id z
    refine h { s with heap := h' } ⟨I.ok, I.os, I.bare, ⟨fun b o e n hb hx => ?_, fun b o e n hb hx => ?_, I.base.free, fun b o e hx => ?_, I.base.tups, I.base.frzs, I.base.tbls⟩, ⟨m, hn.sameBut hs (Ne.symm (cne x c hc)), fun j y v' e1 e2 e3 => ?_⟩, fun y c' e => ?_, I.free, I.freeC, fun p hp => ?_, tracked ⟨oc, hoc, I.freeC x c hc⟩ hs, by simpa using I.len⟩ ⟨c, hs, .inr hc⟩
    · exact (hs.2 b (Nat.ne_of_lt (Nat.lt_of_lt_of_le (Heap.lt_size e) (I.ok.cab x c hfn hc)))).trans (I.base.keep b o e n hb hx)
    · obtain ⟨sl, e1⟩ := I.base.slot b o e n hb hx
      exact ⟨sl, (hs.2 b (Nat.ne_of_lt (Nat.lt_of_lt_of_le (Heap.lt_size e) (I.ok.cab x c hfn hc)))).trans e1⟩
    · obtain ⟨o', e1⟩ := I.base.there b o e hx
      exact ⟨o', (hs.2 b (Nat.ne_of_lt (Nat.lt_of_lt_of_le (Heap.lt_size e) (I.ok.cab x c hfn hc)))).trans e1⟩
    · by_cases hj : j = i
      · subst hj
        rw [hi] at e1; cases e1
        rw [List.getElem?_set_self hiσ] at e2
        cases e2
        exact ⟨u, r, .inr ⟨.inl hk, c, hc, hc'⟩⟩
      · rw [List.getElem?_set_ne (Ne.symm hj)] at e2
        obtain ⟨u', r', q⟩ := hl j y v' e1 e2 e3
        refine ⟨u', r', ?_⟩
        rcases q with q | ⟨k, c', e, z'⟩
        · exact .inl q
        · refine .inr ⟨k, c', e, z'.sameBut hs ?_⟩
          rintro rfl
          exact hj (nodup_ix hN e1 (I.ok.inj _ _ _ e hc ▸ hi))
    · by_cases hcc : c' = c
      · subst hcc; exact ⟨_, hc'⟩
      · obtain ⟨w2, z2⟩ := I.cell y c' e
        exact ⟨w2, z2.sameBut hs hcc⟩
    · obtain ⟨e, n, ne, nf, d⟩ := I.pin p hp
      refine ⟨(hs.2 p.1 ?_).trans e, n, ne, nf, d⟩
      intro q
      rw [q, hoc] at e
      have q' : oc = p.2 := Option.some.inj e
      exact d w' (by rw [← q']; exact hocd)
theorem store_ok {M : Model} {A : Around} {E : Value → Shared → Prop} {i : Nat} {x : Str} {v : V} {u : Value} {Q : Unit → Shared → Prop} (I : Inv X pins σ H s) (hN : X.N.Nodup) (hi : X.N[i]? = some x) (hx : Loc X.env.scope x) (r : RelV v u)
    (h : ∀ s', Inv X pins (σ.set i (some v)) H s' → Q () s') (hf : X.fn x = true ∨ X.env.scope.names.lookup x = some .local := by first | exact .inl rfl | exact .inr rfl | assumption) : wpAny M A (storeName X.env x u) Q E s :=
  store_ok2 I hN hi hx r (fun s' I' _ => h s' I') hf
theorem Inv.call' {s' : Shared} {ch : List Addr} (I : Inv X pins σ H s) (ho : s'.os = s.os) (u : Un (frs X.stack) ch H H' s.heap s'.heap) (hok : HOk X.prog X.w H' s'.heap) (hg : AllBare s'.gens)
    (hch : ∀ b ∈ ch, (b ∈ X.ex ∨ X.s₀.heap.objs.size ≤ b) ∧ b ≠ X.env.locals ∧ (∀ x c, X.env.cells.lookup x = some c → c ≠ b) ∧ ∀ p ∈ X.pn ++ pins, p.1 ≠ b) : Inv X pins σ H' s' := by
  obtain ⟨h', g', d', t', o'⟩ := s'
  have e : o' = s.os := ho
  subst e
  exact I.call (g' := g') (t' := t') (d' := d') u hok hg hch
end

noncomputable abbrev XK := Value → Option Addr → Hp → Prop
noncomputable abbrev St := List (Option V)
noncomputable abbrev VK := V → Hp → Prop
noncomputable abbrev TE := St → Hp → VK → Prop
noncomputable abbrev TT := St → Hp → (Bool → Hp → Prop) → Prop
noncomputable abbrev TA := St → Hp → (List V → Hp → Prop) → Prop
structure Ends where
  nx : St → Hp → Prop
  rt : VK
  bk : St → Hp → Prop := fun _ _ => False
  ct : St → Hp → Prop := fun _ _ => False
noncomputable abbrev TS := Ends → St → Hp → Prop

noncomputable def EP (X : Cx) (pins : List (Addr × Obj)) (σ : St) (Q : VK) (u : Value) (s' : Shared) : Prop := ∃ v H', Inv X pins σ H' s' ∧ RelV v u ∧ Q v H'
noncomputable def TP (X : Cx) (pins : List (Addr × Obj)) (σ : St) (Q : Bool → Hp → Prop) (b : Bool) (s' : Shared) : Prop := ∃ H', Inv X pins σ H' s' ∧ Q b H'
noncomputable def AP (X : Cx) (pins : List (Addr × Obj)) (σ : St) (Q : List V → Hp → Prop) (us : List Value) (s' : Shared) : Prop := ∃ vs H', Inv X pins σ H' s' ∧ Vals vs us ∧ Q vs H'
noncomputable def SP (X : Cx) (pins : List (Addr × Obj)) (D : Ends) (f : Flow) (s' : Shared) : Prop :=
  match f with
  | .next => ∃ σ' H', Inv X pins σ' H' s' ∧ D.nx σ' H'
  | .brk => ∃ σ' H', Inv X pins σ' H' s' ∧ D.bk σ' H'
  | .cont => ∃ σ' H', Inv X pins σ' H' s' ∧ D.ct σ' H'
  | .ret u => ∃ v σ' H', Inv X pins σ' H' s' ∧ RelV v u ∧ D.rt v H'

noncomputable def PE (X : Cx) (e : Expr) (t : TE) : Prop :=
  ∀ (pins : List (Addr × Obj)) (s : Shared) (σ : St) (H : Hp) (Q : VK), Inv X pins σ H s → t σ H Q → wpAny (model X.prog X.w) X.A (eval e X.env) (EP X pins σ Q) X.xe s
noncomputable def PT (X : Cx) (e : Expr) (t : TT) : Prop :=
  ∀ (pins : List (Addr × Obj)) (s : Shared) (σ : St) (H : Hp) (Q : Bool → Hp → Prop), Inv X pins σ H s → t σ H Q → wpAny (model X.prog X.w) X.A (isTrue e X.env (eval e X.env)) (TP X pins σ Q) X.xe s
noncomputable def PW (X : Cx) (e : Expr) (t : TT) : Prop :=
  ∀ (whole : Sem Value) (pins : List (Addr × Obj)) (s : Shared) (σ : St) (H : Hp) (Q : Bool → Hp → Prop), Inv X pins σ H s → t σ H Q → wpAny (model X.prog X.w) X.A (isTrue e X.env whole) (TP X pins σ Q) X.xe s
theorem PW.pt {X : Cx} {e : Expr} {t : TT} (h : PW X e t) : PT X e t := h _
noncomputable def PA (X : Cx) (es : List Expr) (t : TA) : Prop :=
  ∀ (pos : Pos) (pins : List (Addr × Obj)) (s : Shared) (σ : St) (H : Hp) (Q : List V → Hp → Prop), Inv X pins σ H s → t σ H Q → wpAny (model X.prog X.w) X.A (spliced (backTo pos (starEach es X.env))) (AP X pins σ Q) X.xe s
noncomputable def PS (X : Cx) (st : Stmt) (t : TS) : Prop :=
  ∀ (pins : List (Addr × Obj)) (s : Shared) (σ : St) (H : Hp) (D : Ends), Inv X pins σ H s → t D σ H → wpAny (model X.prog X.w) X.A (exec st X.env) (SP X pins D) X.xe s
noncomputable def PSs (X : Cx) (st : List Stmt) (t : TS) : Prop :=
  ∀ (pins : List (Addr × Obj)) (s : Shared) (σ : St) (H : Hp) (D : Ends), Inv X pins σ H s → t D σ H → wpAny (model X.prog X.w) X.A (execs st X.env) (SP X pins D) X.xe s
theorem thn {α : Type} {t : Sem α} {Q Q' : α → Shared → Prop} {M : Model} {A : Around} {E : Value → Shared → Prop} {s : Shared} (h : wpAny M A t Q E s) (hQ : ∀ a s, Q a s → Q' a s) : wpAny M A t Q' E s := wpAny_mono h hQ fun _ _ x => x
end L2

namespace L2
open PySem PySem.Spec PyProof.Rows
section
variable {X : Cx}


noncomputable def tVar (i : Nat) : TE := fun σ H Q => ∃ v, σ[i]? = some (some v) ∧ Q v H
noncomputable def tC (v : V) : TE := fun _ H Q => Q v H
theorem pe_var {i : Nat} {x : Str} {pos : Pos} (hN : X.N[i]? = some x) (hv : Vis X.env.scope x) (hd : (x == ("__debug__" : Str)) = false := by decide) (hcd : (x == ("__classdict__" : Str)) = false := by decide) : PE X (.Name x pos) (tVar i) := by
  intro pins s σ H Q I h
  obtain ⟨v, e, h⟩ := h
  obtain ⟨m, hn, hl⟩ := I.loc
  obtain ⟨u, r, l⟩ := hl i x v hN e hv
  have fin : EP X pins σ Q u s := ⟨v, H, I, r, h⟩
  rcases l with ⟨hk, hm⟩ | ⟨hk, c, hc, hcell⟩
  · exact wpAny_Name (wpAny_loadName_local I.ok.kind hk hn hm fin) hd
  · rcases hk with hk | hk
    · exact wpAny_Name (wpAny_loadName_cell I.ok.kind hk hc hcell fin) hd
    · exact wpAny_Name (wpAny_loadName_free I.ok.kind hk hc hcell fin hcd) hd
theorem pe_int {i j pos} : PE X (.Constant (.int i) j pos) (tC (.int i)) := fun _ _ _ H _ I h => wpAny_Constant_int ⟨.int i, H, I.tok _, ⟨_, rfl⟩, h⟩
theorem pe_bl {b j pos} : PE X (.Constant (.bool b) j pos) (tC (.bl b)) := fun _ _ _ H _ I h => Constant_bool ⟨.bl b, H, I, rfl, h⟩
theorem pe_non {j pos} : PE X (.Constant .none j pos) (tC .non) := fun _ _ _ H _ I h => Constant_none ⟨.non, H, I, rfl, h⟩
theorem pe_str {x j pos} : PE X (.Constant (.str x) j pos) (tC (.str x)) := fun _ _ _ H _ I h => Calls.Constant_str ⟨.str x, H, I.tok _, ⟨_, rfl⟩, h⟩

noncomputable def Gl (X : Cx) (x : Str) : Prop := X.env.kindOf x = some .globalImplicit
theorem ld_glob {E : Value → Shared → Prop} {pins : List (Addr × Obj)} {s : Shared} {σ : St} {H : Hp} {x : Str} {u : Value} {pos : Pos} {Q : Value → Shared → Prop} (I : Inv X pins σ H s) (hg : Gl X x) (hm : X.mg x = some u) (h : Q u s)
    (hd : (x == ("__debug__" : Str)) = false := by decide) : wpAny (model X.prog X.w) X.A (eval (.Name x pos) X.env) Q E s :=
  Calls.Name_function_global I.ok.kind hg (Calls.loadGlobal_global (by rw [I.ok.glob]; exact I.mod.glob.keeps I.bk) hm h) hd
theorem ld_blt {E : Value → Shared → Prop} {pins : List (Addr × Obj)} {s : Shared} {σ : St} {H : Hp} {x : Str} {u : Value} {pos : Pos} {Q : Value → Shared → Prop} (I : Inv X pins σ H s) (hg : Gl X x) (hm : X.mg x = none) (hv : bootBuiltins x = some u) (h : Q u s)
    (hn : x ≠ "__name__" := by decide) (hd : (x == ("__debug__" : Str)) = false := by decide) : wpAny (model X.prog X.w) X.A (eval (.Name x pos) X.env) Q E s := by
  obtain ⟨mb, h1, h2⟩ := I.mod.blt
  exact Calls.Name_function_global I.ok.kind hg (Calls.loadGlobal_builtin (by rw [I.ok.glob]; exact I.mod.glob.keeps I.bk) hm (by rw [I.ok.blt]; exact h1.keeps I.bk) ((h2 x hn).trans hv) h) hd
theorem pe_glob {x : Str} {v : V} {u : Value} {pos : Pos} (hg : Gl X x) (hm : X.mg x = some u) (r : RelV v u) (hd : (x == ("__debug__" : Str)) = false := by decide) : PE X (.Name x pos) (tC v) :=
  fun _ _ _ H _ I h => ld_glob I hg hm ⟨v, H, I, r, h⟩ hd
theorem pe_bltn {x : Str} {v : V} {u : Value} {pos : Pos} (hg : Gl X x) (hm : X.mg x = none) (hv : bootBuiltins x = some u) (r : RelV v u) (hn : x ≠ "__name__" := by decide) (hd : (x == ("__debug__" : Str)) = false := by decide) : PE X (.Name x pos) (tC v) :=
  fun _ _ _ H _ I h => ld_blt I hg hm hv ⟨v, H, I, r, h⟩ hn hd

variable {a b : Expr} {ta tb : TE} {pos : Pos}

noncomputable def PC (X : Cx) (op : CmpOp) (a b : Expr) (t : TE) : Prop :=
  ∀ (pins : List (Addr × Obj)) (s : Shared) (σ : St) (H : Hp) (Q : VK), Inv X pins σ H s → t σ H Q →
    wpAny (model X.prog X.w) X.A (eval a X.env) (fun v s₁ => wpAny (model X.prog X.w) X.A (eval b X.env) (fun u s₂ => wpAny (model X.prog X.w) X.A (compareOp op v u) (EP X pins σ Q) X.xe s₂) X.xe s₁) X.xe s
noncomputable def tB (t : TE) : TT := fun σ H Q => t σ H fun x H1 => ∃ c, x = .bl c ∧ Q c H1
theorem pt_cmp {op : CmpOp} {t : TE} (h : PC X op a b t) (h1 : behindInMarks op b = false := by first | exact nobehind _ (by decide) (by decide) | rfl) : PT X (.Compare a [op] [b] pos) (tB t) := by
  intro pins s σ H Q I hw
  refine wpAny_isTrue_Compare1 (thn (h pins s σ H _ I hw) fun v s1 h1 => thn h1 fun u s2 h2 => thn h2 fun c s3 ⟨x, H1, I1, r1, q1⟩ => ?_) h1
  obtain ⟨d, rfl, q⟩ := q1
  cases r1
  exact wpAny_truthy_bool ⟨H1, I1, q⟩
theorem pt_val {e : Expr} {t : TE} (h : PE X e t) (he : ∀ whole, isTrue e X.env whole = (do let v ← whole; standAt e.pos; holding [v] (truthy v)) := by intro _; rfl) : PT X e (tB t) := by
  intro pins s σ H Q I hw
  refine isTrue_plain (thn (h pins s σ H _ I hw) fun v s1 ⟨x, H1, I1, r1, q1⟩ => ?_) (he _)
  obtain ⟨d, rfl, q⟩ := q1
  cases r1
  exact wpAny_truthy_bool ⟨H1, I1, q⟩

variable {tA tB' : TT} {rest : List Expr}
noncomputable def tAnd (t u : TT) : TT := fun σ H Q => t σ H fun c H1 => if c = true then u σ H1 Q else Q false H1
noncomputable def tOr (t u : TT) : TT := fun σ H Q => t σ H fun c H1 => if c = true then Q true H1 else u σ H1 Q
noncomputable def tNot (t : TT) : TT := fun σ H Q => t σ H fun c H1 => Q (!c) H1
theorem pw_and1 (ha : PT X a tA) : PW X (.BoolOp .And [a] pos) tA := by
  intro wh pins s σ H Q I h
  refine isTrue_and (thn (ha pins s σ H Q I h) fun c s1 e => ?_)
  cases c with
  | true => exact isTrue_and_nil e
  | false => exact e
theorem pw_or1 (ha : PT X a tA) : PW X (.BoolOp .Or [a] pos) tA := by
  intro wh pins s σ H Q I h
  refine isTrue_or (thn (ha pins s σ H Q I h) fun c s1 e => ?_)
  cases c with
  | false => exact isTrue_or_nil e
  | true => exact e
theorem pw_and (ha : PT X a tA) (hb : PW X (.BoolOp .And (b :: rest) pos) tB') : PW X (.BoolOp .And (a :: b :: rest) pos) (tAnd tA tB') := by
  intro wh pins s σ H Q I h
  refine isTrue_and (thn (ha pins s σ H _ I h) fun c s1 zz => ?_)
  obtain ⟨H1, I1, q1⟩ := zz
  cases c with
  | true => exact hb wh pins s1 σ H1 Q I1 q1
  | false => exact ⟨H1, I1, q1⟩
theorem pw_or (ha : PT X a tA) (hb : PW X (.BoolOp .Or (b :: rest) pos) tB') : PW X (.BoolOp .Or (a :: b :: rest) pos) (tOr tA tB') := by
  intro wh pins s σ H Q I h
  refine isTrue_or (thn (ha pins s σ H _ I h) fun c s1 zz => ?_)
  obtain ⟨H1, I1, q1⟩ := zz
  cases c with
  | true => exact ⟨H1, I1, q1⟩
  | false => exact hb wh pins s1 σ H1 Q I1 q1
theorem pt_not (ha : PT X a tA) : PT X (.UnaryOp .Not a pos) (tNot tA) := by
  intro pins s σ H Q I h
  exact isTrue_not (ha pins s σ H (fun c H1 => Q (!c) H1) I h)
noncomputable def tAndV (ta tb : TE) : TE := fun σ H Q => ta σ H fun x H1 => ∃ c, x = .bl c ∧ if c = true then tb σ H1 Q else Q (.bl false) H1
noncomputable def tOrV (ta tb : TE) : TE := fun σ H Q => ta σ H fun x H1 => ∃ c, x = .bl c ∧ if c = true then Q (.bl true) H1 else tb σ H1 Q
noncomputable def tNotV (ta : TE) : TE := fun σ H Q => ta σ H fun x H1 => ∃ c, x = .bl c ∧ Q (.bl (!c)) H1
theorem pe_one {op} {t : TE} (h : PE X a t) : PE X (.BoolOp op [a] pos) t := fun pins s σ H Q I hw => BoolOp_one (h pins s σ H Q I hw)
theorem pe_and (ha : PE X a ta) (hb : PE X (.BoolOp .And (b :: rest) pos) tb) : PE X (.BoolOp .And (a :: b :: rest) pos) (tAndV ta tb) := by
  intro pins s σ H Q I h
  refine BoolOp_and (thn (ha pins s σ H _ I h) fun v s1 zz => ?_)
  obtain ⟨x, H1, I1, r1, q1⟩ := zz
  obtain ⟨c, rfl, q1⟩ := q1
  cases r1
  refine wpAny_truthy_bool ?_
  cases c with
  | true => exact hb pins s1 σ H1 Q I1 q1
  | false => exact ⟨.bl false, H1, I1, rfl, q1⟩
theorem pe_or (ha : PE X a ta) (hb : PE X (.BoolOp .Or (b :: rest) pos) tb) : PE X (.BoolOp .Or (a :: b :: rest) pos) (tOrV ta tb) := by
  intro pins s σ H Q I h
  refine BoolOp_or (thn (ha pins s σ H _ I h) fun v s1 zz => ?_)
  obtain ⟨x, H1, I1, r1, q1⟩ := zz
  obtain ⟨c, rfl, q1⟩ := q1
  cases r1
  refine wpAny_truthy_bool ?_
  cases c with
  | false => exact hb pins s1 σ H1 Q I1 q1
  | true => exact ⟨.bl true, H1, I1, rfl, q1⟩
theorem pe_not (ha : PE X a ta) : PE X (.UnaryOp .Not a pos) (tNotV ta) := by
  intro pins s σ H Q I h
  refine UnaryOp_ (thn (ha pins s σ H _ I h) fun v s1 zz => ?_)
  obtain ⟨x, H1, I1, r1, q1⟩ := zz
  obtain ⟨c, rfl, q1⟩ := q1
  cases r1
  exact not_of (wpAny_truthy_bool ⟨.bl (!c), H1, I1, rfl, q1⟩)
end
end L2

namespace L2
open PySem PySem.Spec PyProof.Rows

noncomputable def SqL (K : PySem.W.Frag) (H : Hp) (a : Addr) (xs : List V) : Prop :=
  Rd H a (.lst xs) ∨
    ∃ (o : Obj) (its : Array Value) (n : Nat), K.lookup a = some o ∧ o.cls = .type "list" ∧ o.dict = none ∧ o.data = .seq its n ∧ its.size ≤ sizeLine ∧ Vals xs its.toList
noncomputable def SqT (K : PySem.W.Frag) (H : Hp) (a : Addr) (xs : List V) : Prop :=
  Rd H a (.tup xs) ∨
    ∃ (o : Obj) (its : Array Value) (n : Nat), K.lookup a = some o ∧ o.cls = .type "tuple" ∧ o.data = .seq its n ∧ its.size ≤ sizeLine ∧ Vals xs its.toList
noncomputable def absV : Value → Option V
  | .none => some .non
  | .bool b => some (.bl b)
  | .int i _ => some (.int i)
  | .str x _ => some (.str x)
  | .bytes b _ => some (.byt b)
  | .float b _ => some (.flt b)
  | .ref a => some (.ref a)
  | .type n => some (.ty n)
  | _ => none
theorem RelV.abs {x : V} {u : Value} (r : RelV x u) : absV u = some x := by
  cases x with
  | non => cases r; rfl
  | bl _ => cases r; rfl
  | int _ => obtain ⟨t, rfl⟩ := r; rfl
  | str _ => obtain ⟨t, rfl⟩ := r; rfl
  | byt _ => obtain ⟨t, rfl⟩ := r; rfl
  | flt _ => obtain ⟨t, rfl⟩ := r; rfl
  | ref _ => cases r; rfl
  | ty _ => cases r; rfl
theorem RelV.inj {x y : V} {u : Value} (r : RelV x u) (q : RelV y u) : x = y := Option.some.inj (r.abs.symm.trans q.abs)
theorem Vals.inj : ∀ {xs ys : List V} {us : List Value}, Vals xs us → Vals ys us → xs = ys
  | _, _, _, .nil, .nil => rfl
  | _, _, _, .cons r t, .cons r' t' => by rw [r.inj r', Vals.inj t t']
section
variable {X : Cx} {pins : List (Addr × Obj)} {σ : St} {H : Hp} {s : Shared} {a : Addr} {xs ys : List V}
theorem SqL.of {K : PySem.W.Frag} (h : H a = some (.lst xs)) : SqL K H a xs := .inl (.inl h)
theorem SqT.of {K : PySem.W.Frag} (h : H a = some (.tup xs)) : SqT K H a xs := .inl (.inl h)
theorem Inv.list (I : Inv X pins σ H s) (h : SqL X.K H a xs) : ∃ its : List Value, Vals xs its ∧ PlainL s.heap a its.toArray ∧ xs.length ≤ sizeLine := by
  rcases h with h | ⟨o, its, n, hk, hc, hd, hs, hz, r⟩
  · obtain ⟨z, its, n, r, e⟩ := h.ok I.hok
    exact ⟨its, r, ⟨_, n, e, rfl, rfl, rfl⟩, z⟩
  · refine ⟨its.toList, r, ⟨o, n, I.kIn a o hk, hc, hd, by simpa using hs⟩, ?_⟩
    have e := r.length
    simp only [Array.length_toList] at e
    omega
theorem Inv.tuple (I : Inv X pins σ H s) (h : SqT X.K H a xs) : ∃ its : List Value, Vals xs its ∧ IsTup s.heap a its.toArray ∧ xs.length ≤ sizeLine := by
  rcases h with h | ⟨o, its, n, hk, hc, hs, hz, r⟩
  · obtain ⟨z, its, r, p⟩ := h.ok I.hok
    exact ⟨its, r, p, z⟩
  · refine ⟨its.toList, r, ⟨o, I.kIn a o hk, hc, n, by simpa using hs⟩, ?_⟩
    have e := r.length
    simp only [Array.length_toList] at e
    omega
theorem Inv.list_inj (I : Inv X pins σ H s) (h : SqL X.K H a xs) (h' : SqL X.K H a ys) : xs = ys := by
  obtain ⟨its, r, ⟨o, n, e, _, _, d⟩, _⟩ := I.list h
  obtain ⟨its', r', ⟨o', n', e', _, _, d'⟩, _⟩ := I.list h'
  rw [e] at e'; cases e'
  rw [d] at d'
  injection d' with d1 _
  have : its = its' := by simpa using congrArg Array.toList d1
  subst this
  exact r.inj r'
theorem Inv.tuple_inj (I : Inv X pins σ H s) (h : SqT X.K H a xs) (h' : SqT X.K H a ys) : xs = ys := by
  obtain ⟨its, r, ⟨o, e, _, n, d⟩, _⟩ := I.tuple h
  obtain ⟨its', r', ⟨o', e', _, n', d'⟩, _⟩ := I.tuple h'
  rw [e] at e'; cases e'
  rw [d] at d'
  injection d' with d1 _
  have : its = its' := by simpa using congrArg Array.toList d1
  subst this
  exact r.inj r'
end

noncomputable abbrev Cx.wish (X : Cx) (E : Value → Shared → Prop) : Cx := { X with xe := E }
noncomputable abbrev Cx.nox (X : Cx) : Cx := X.wish fun _ _ => False
theorem Cx.Ok.wish {X : Cx} (ok : X.Ok) (E : Value → Shared → Prop) : (X.wish E).Ok :=
  ⟨ok.mod, ok.kind, ok.glob, ok.blt, ok.above, ok.inj, ok.has, ok.cab, ok.hd, ok.frames, ok.stk, ok.exf, ok.bs, ok.bsz, ok.noex, ok.exfs, ok.funs, ok.frf⟩
theorem Cx.Ok.unwish {X : Cx} {E : Value → Shared → Prop} (ok : (X.wish E).Ok) : X.Ok :=
  ⟨ok.mod, ok.kind, ok.glob, ok.blt, ok.above, ok.inj, ok.has, ok.cab, ok.hd, ok.frames, ok.stk, ok.exf, ok.bs, ok.bsz, ok.noex, ok.exfs, ok.funs, ok.frf⟩
section
variable {X : Cx} {pins : List (Addr × Obj)} {σ : St} {H : Hp} {s : Shared} {E : Value → Shared → Prop}
theorem Inv.wish (I : Inv X pins σ H s) (E : Value → Shared → Prop) : Inv (X.wish E) pins σ H s := ⟨I.ok.wish E, I.os, I.bare, I.base, I.loc, I.cell, I.free, I.freeC, I.pin, I.hok, I.len⟩
theorem Inv.unwish (I : Inv (X.wish E) pins σ H s) : Inv X pins σ H s := ⟨I.ok.unwish, I.os, I.bare, I.base, I.loc, I.cell, I.free, I.freeC, I.pin, I.hok, I.len⟩
theorem SP.unwish {D : Ends} {f : Flow} {s' : Shared} (h : SP (X.wish E) pins D f s') : SP X pins D f s' := by
  cases f with
  | next => obtain ⟨σ', H', I, q⟩ := h; exact ⟨σ', H', I.unwish, q⟩
  | brk => obtain ⟨σ', H', I, q⟩ := h; exact ⟨σ', H', I.unwish, q⟩
  | cont => obtain ⟨σ', H', I, q⟩ := h; exact ⟨σ', H', I.unwish, q⟩
  | ret u => obtain ⟨v, σ', H', I, r, q⟩ := h; exact ⟨v, σ', H', I.unwish, r, q⟩
theorem PSs.nox {st : List Stmt} {t : TS} (h : PSs X.nox st t) : PSs X st t := fun pins s σ H D I hw =>
  wpAny_mono (h pins s σ H D (I.wish _) hw) (fun _ _ q => q.unwish) fun _ _ z => False.elim z
end

section
variable {X : Cx} {st : Stmt} {rest : List Stmt} {t u : TS} {e : Expr} {te : TE} {pos : Pos}
noncomputable def tNext : TS := fun D σ H => D.nx σ H
noncomputable def tSeq (t u : TS) : TS := fun D σ H => t { D with nx := u D } σ H
theorem pss_nil : PSs X [] tNext := fun _ _ σ H _ I h => wpAny_execs_nil ⟨σ, H, I, h⟩
theorem pss_cons (h1 : PS X st t) (h2 : PSs X rest u) : PSs X (st :: rest) (tSeq t u) := by
  intro pins s σ H D I h
  refine wpAny_execs_cons (thn (h1 pins s σ H { D with nx := u D } I h) fun f s1 q => ?_)
  cases f with
  | next =>
    obtain ⟨σ', H', I', q⟩ := q
    exact h2 pins s1 σ' H' D I' q
  | ret v => exact q
  | brk => exact q
  | cont => exact q
theorem pss_one (h1 : PS X st t) : PSs X [st] t := by
  intro pins s σ H D I h
  refine wpAny_execs_cons (thn (h1 pins s σ H D I h) fun f s1 q => ?_)
  cases f with
  | next => exact wpAny_execs_nil q
  | ret v => exact q
  | brk => exact q
  | cont => exact q
theorem Inv.quiet {pins : List (Addr × Obj)} {σ : St} {H : Hp} {s : Shared} (I : Inv X pins σ H s) : interactive X.env = false := by simp [interactive, I.ok.kind]
noncomputable def tDrop (te : TE) : TS := fun D σ H => te σ H fun _ H1 => D.nx σ H1
theorem ps_expr (he : PE X e te) (hs : swapsWith e none pos.line X.env = pure false := by rfl) : PS X (.Expr e pos) (tDrop te) := by
  intro pins s σ H D I h
  exact wpAny_Expr_any (thn (he pins s σ H _ I h) fun v s1 ⟨x, H1, I1, r1, q1⟩ => ⟨σ, H1, I1, q1⟩) I.quiet hs
noncomputable def tRet (te : TE) : TS := fun D σ H => te σ H D.rt
theorem ps_ret (he : PE X e te) : PS X (.Return (some e) pos) (tRet te) := by
  intro pins s σ H D I h
  exact wpAny_Return_some (thn (he pins s σ H _ I h) fun v s1 ⟨x, H1, I1, r1, q1⟩ => ⟨x, σ, H1, I1, r1, q1⟩)
noncomputable def tIfS (c : TT) (t u : TS) : TS := fun D σ H => c σ H fun b H1 => if b = true then t D σ H1 else u D σ H1
theorem ps_if {c : Expr} {a b : List Stmt} {tc : TT} (hc : PT X c tc) (ha : PSs X a t) (hb : PSs X b u) : PS X (.If c a b pos) (tIfS tc t u) := by
  intro pins s σ H D I h
  refine wpAny_If (thn (hc pins s σ H _ I h) fun d s1 zz => ?_)
  obtain ⟨H1, I1, q1⟩ := zz
  cases d with
  | true => exact ha pins s1 σ H1 D I1 q1
  | false => exact hb pins s1 σ H1 D I1 q1
end

noncomputable abbrev TG := V → St → Hp → (St → Hp → Prop) → Prop
noncomputable abbrev TGs := List V → St → Hp → (St → Hp → Prop) → Prop
noncomputable def PG (X : Cx) (target : Expr) (t : TG) : Prop :=
  ∀ (pins : List (Addr × Obj)) (s : Shared) (σ : St) (H : Hp) (v : V) (u : Value) (Q : St → Hp → Prop), Inv X pins σ H s → RelV v u → t v σ H Q →
    wpAny (model X.prog X.w) X.A (assign target X.env u) (fun _ s' => ∃ σ' H', Inv X pins σ' H' s' ∧ Q σ' H') X.xe s
noncomputable def PGs (X : Cx) (ts : List Expr) (t : TGs) : Prop :=
  ∀ (pins : List (Addr × Obj)) (s : Shared) (σ : St) (H : Hp) (vs : List V) (us : List Value) (Q : St → Hp → Prop), Inv X pins σ H s → Vals vs us → t vs σ H Q →
    wpAny (model X.prog X.w) X.A (assignInOrder ((assignEach ts X.env).map (·.2)) us) (fun _ s' => ∃ σ' H', Inv X pins σ' H' s' ∧ Q σ' H') X.xe s
noncomputable abbrev TSet := V → V → V → Hp → (Hp → Prop) → Prop
noncomputable def PSet (X : Cx) (t : TSet) : Prop :=
  ∀ (pins : List (Addr × Obj)) (s : Shared) (σ : St) (H : Hp) (o i v : V) (ov iv u : Value) (Q : Hp → Prop), Inv X pins σ H s → RelV o ov → RelV i iv → RelV v u → t o i v H Q →
    wpAny (model X.prog X.w) X.A (setItem ov iv u) (fun _ s' => ∃ H', Inv X pins σ H' s' ∧ Q H') X.xe s
section
variable {X : Cx} {pos : Pos}
noncomputable def gName (i : Nat) : TG := fun v σ H Q => Q (σ.set i (some v)) H
theorem pg_name {i : Nat} {x : Str} (hN : X.N.Nodup) (hi : X.N[i]? = some x) (hx : Loc X.env.scope x) (hf : X.fn x = true ∨ X.env.scope.names.lookup x = some .local := by first | exact .inl rfl | exact .inr rfl | assumption) : PG X (.Name x pos) (gName i) := by
  intro pins s σ H v u Q I r h
  exact wpAny_assign_Name (store_ok I hN hi hx r (fun s' I' => ⟨_, H, I', h⟩) hf)
noncomputable def gNil : TGs := fun vs σ H Q => vs = [] ∧ Q σ H
noncomputable def gCons (t : TG) (u : TGs) : TGs := fun vs σ H Q => ∃ v r, vs = v :: r ∧ t v σ H fun σ' H' => u r σ' H' Q
theorem pgs_nil : PGs X [] gNil := by
  intro pins s σ H vs us Q I r h
  obtain ⟨e, h⟩ := h
  subst e
  cases r
  exact assignInOrder_nil ⟨σ, H, I, h⟩
theorem pgs_cons {e : Expr} {es : List Expr} {t : TG} {u : TGs} (h1 : PG X e t) (h2 : PGs X es u)
    (hs : (assignEach (e :: es) X.env).map (·.2) = assign e X.env :: (assignEach es X.env).map (·.2) := by rfl) : PGs X (e :: es) (gCons t u) := by
  intro pins s σ H vs us Q I r h
  obtain ⟨v, vr, e1, h⟩ := h
  subst e1
  cases r with
  | cons r rr =>
    rw [hs]
    refine assignInOrder_cons (thn (h1 pins s σ H _ _ _ I r h) fun _ s1 zz => ?_)
    obtain ⟨σ1, H1, I1, q1⟩ := zz
    exact h2 pins s1 σ1 H1 _ _ Q I1 rr q1
noncomputable def gTup (K : PySem.W.Frag) (n : Nat) (t : TGs) : TG := fun v σ H Q => ∃ a xs, v = .ref a ∧ SqT K H a xs ∧ xs.length = n ∧ t xs σ H Q
theorem pg_tup {es : List Expr} {k : Nat} {t : TGs} {n : Nat} (hc : X.calm = true) (h : PGs X es t)
    (hn : (assignEach es X.env).length = n := by rfl) (hst : (assignEach es X.env).findIdx? (·.1) = none := by rfl) : PG X (.Tuple es k pos) (gTup X.K n t) := by
  intro pins s σ H v u Q I r hw
  obtain ⟨a, xs, e1, hq, hl, hw⟩ := hw
  subst e1
  cases r
  obtain ⟨its, rv, ht, hz⟩ := I.tuple hq
  refine assign_Tuple_tuple (I.ok.hd hc) ht (by simp [hn, ← hl, rv.length]) hst fun h' hx => ?_
  have I1 : Inv X pins σ H { s with heap := h' } := I.kept (t' := s.toks) fun b o e => hx b o (Nat.ne_of_lt (Heap.lt_size e)) e
  exact h pins _ σ H xs _ Q I1 (by simpa using rv) hw
noncomputable def gSub (to ti : TE) (t : TSet) : TG := fun v σ H Q => to σ H fun o H1 => ti σ H1 fun i H2 => t o i v H2 fun H3 => Q σ H3
theorem pg_sub {o i : Expr} {to ti : TE} {t : TSet} (ho : PE X o to) (hi : PE X i ti) (hs : PSet X t)
    (ha : ∀ v, assign (.Subscript o i pos) X.env v = (do
      let ov ← holding [v] (eval o X.env)
      let iv ← holding [v, ov] (eval i X.env)
      standAt pos
      holding [v, ov, iv] (setItem ov iv v)
      release [v, ov, iv] []) := by intro _; rfl) : PG X (.Subscript o i pos) (gSub to ti t) := by
  intro pins s σ H v u Q I r h
  rw [ha]
  refine wpAny_bind (wpAny_holding (thn (ho pins s σ H _ I h) fun ov s1 zz => ?_))
  obtain ⟨x, H1, I1, r1, q1⟩ := zz
  refine wpAny_bind (wpAny_holding (thn (hi pins s1 σ H1 _ I1 q1) fun iv s2 zz => ?_))
  obtain ⟨y, H2, I2, r2, q2⟩ := zz
  refine wpAny_bind (wpAny_standAt (wpAny_bind (wpAny_holding (thn (hs pins s2 σ H2 x y v ov iv u _ I2 r1 r2 r q2) fun _ s3 zz => ?_))))
  obtain ⟨H3, I3, q3⟩ := zz
  exact wpAny_release ⟨σ, H3, I3, q3⟩
noncomputable def tAsg (te : TE) (g : TG) : TS := fun D σ H => te σ H fun x H1 => g x σ H1 D.nx
theorem ps_asg {tg e : Expr} {te : TE} {g : TG} (he : PE X e te) (hg : PG X tg g) (hs : swapsWithSole [tg] e pos.line X.env = pure false := by rfl) (hw : swappedStores [tg] e X.env = pure none := by rfl)
    (h1 : (assignEach [tg] X.env).map (·.2) = [assign tg X.env] := by rfl) : PS X (.Assign [tg] e pos) (tAsg te g) := by
  intro pins s σ H D I h
  refine wpAny_Assign_stores (thn (he pins s σ H _ I h) fun v s1 ⟨x, H1, I1, r1, q1⟩ => ?_) hs hw
  rw [h1]
  exact thn (hg pins s1 σ H1 x v _ I1 r1 q1) fun _ s2 q => q
theorem ps_set {i : Nat} {x : Str} {e : Expr} {te : TE} {pos' : Pos} (hN : X.N.Nodup) (hi : X.N[i]? = some x) (hx : Loc X.env.scope x) (he : PE X e te) (hs : swapsWith e (some (.Name x pos')) pos.line X.env = pure false := by rfl) (hf : X.fn x = true ∨ X.env.scope.names.lookup x = some .local := by first | exact .inl rfl | exact .inr rfl | assumption) :
    PS X (.Assign [.Name x pos'] e pos) (tAsg te (gName i)) := by
  intro pins s σ H D I h
  refine wpAny_Assign_Name (thn (he pins s σ H _ I h) fun v s1 ⟨y, H1, I1, r1, q1⟩ => ?_) hs
  exact store_ok I1 hN hi hx r1 (fun s2 I2 => ⟨_, H1, I2, q1⟩) hf
end

section
variable {X : Cx} {pos : Pos}
end

structure It where
  go : Nat → Hp → Prop
  yld : Nat → Hp → V → Hp → Prop
  stop : Nat → Hp → Prop
noncomputable def FpOk (X : Cx) (pins : List (Addr × Obj)) (H : Hp) (b : Addr) : Prop :=
  H b = none ∧ b ≠ X.env.locals ∧ b ∉ X.fs ∧ (b ∈ X.ex ∨ X.s₀.heap.objs.size ≤ b) ∧ (∀ x c, X.env.cells.lookup x = some c → c ≠ b) ∧ ∀ p ∈ X.pn ++ pins, p.1 ≠ b
theorem Inv.fpOk {X : Cx} {pins : List (Addr × Obj)} {σ : St} {H H' : Hp} {s : Shared} {b : Addr} (I : Inv X pins σ H s) (hb : s.heap.objs.size ≤ b) (hn : H' b = none) : FpOk X pins H' b := by
  refine ⟨hn, Nat.ne_of_gt (Nat.lt_of_lt_of_le I.lt hb), I.nofs hb, .inr (Nat.le_trans I.sz hb), fun x c e z => ?_, fun p hp z => ?_⟩
  · obtain ⟨v, q⟩ := I.cell x c e
    exact absurd (Nat.lt_of_lt_of_le q.lt (by rw [z]; exact hb)) (Nat.lt_irrefl _)
  · exact absurd (Nat.lt_of_lt_of_le (Heap.lt_size (I.pin p hp).1) (by rw [z]; exact hb)) (Nat.lt_irrefl _)
structure Turn (P : Program) (w : World) (K : PySem.W.Frag) (tg : Expr) (J : It) (fp : List Addr) (it : Addr) (tn : Nat → Heap → Prop) : Prop where
  mem : it ∈ fp
  obj : ∀ i h, tn i h → ∀ b ∈ fp, ∃ o, h.get? b = some o ∧ ∀ v, o.data ≠ .cell v
  keep : ∀ i h h', tn i h → (∀ b ∈ fp, ∀ o, h.get? b = some o → h'.get? b = some o) → tn i h'
  item : ∀ (X : Cx), X.prog = P → X.w = w → X.K = K → X.calm = true → ∀ (i : Nat) (pins : List (Addr × Obj)) (s : Shared) (σ : St) (H : Hp) (E : Value → Shared → Prop), Inv X pins σ H s → (∀ b ∈ fp, FpOk X pins H b) → tn i s.heap → J.go i H →
    wpAny (model P w) X.A (pyNext (.ref it)) (fun r s1 => ∃ u, r = some u ∧
      wpAny (model P w) X.A (letOwnedTupleGo tg (.ref it) u) (fun _ s2 => ∃ x H', Inv X pins σ H' s2 ∧ RelV x u ∧ J.yld i H x H' ∧ tn (i + 1) s2.heap ∧ ∀ b ∈ fp, H' b = none) E s1) E s
  done : ∀ (X : Cx), X.prog = P → X.w = w → X.K = K → X.calm = true → ∀ (i : Nat) (pins : List (Addr × Obj)) (s : Shared) (σ : St) (H : Hp) (E : Value → Shared → Prop), Inv X pins σ H s → (∀ b ∈ fp, FpOk X pins H b) → tn i s.heap → J.stop i H →
    wpAny (model P w) X.A (pyNext (.ref it)) (fun r s1 => r = none ∧ Inv X pins σ H s1) E s
  self : ∀ (A : Around) (i : Nat) (s : Shared) (Q : Value → Shared → Prop) (E : Value → Shared → Prop), tn i s.heap → Q (.ref it) s → wpAny (model P w) A (pyIter (.ref it)) Q E s
noncomputable abbrev TI := St → Hp → (It → Hp → Prop) → Prop
noncomputable def PIE (X : Cx) (pins : List (Addr × Obj)) (σ : St) (tg : Expr) (R : It → Hp → Prop) (itv : Value) (s2 : Shared) : Prop :=
  ∃ (it : Addr) (fp : List Addr) (tn : Nat → Heap → Prop) (J : It) (H' : Hp), itv = .ref it ∧ Inv X pins σ H' s2 ∧ Turn X.prog X.w X.K tg J fp it tn ∧ tn 0 s2.heap ∧ (∀ b ∈ fp, FpOk X pins H' b) ∧ R J H'
noncomputable def PI (X : Cx) (tg iter : Expr) (wi : TI) : Prop :=
  ∀ (pins : List (Addr × Obj)) (s : Shared) (σ : St) (H : Hp) (R : It → Hp → Prop), Inv X pins σ H s → wi σ H R →
    wpAny (model X.prog X.w) X.A (eval iter X.env) (fun v s1 => wpAny (model X.prog X.w) X.A (pyIter v) (PIE X pins σ tg R) X.xe s1) X.xe s

theorem go_of {M : Model} {A : Around} {E : Value → Shared → Prop} {s : Shared} {tg : Expr} {it : Addr} {u : Value} {o : Obj} {n : String} {vs : Array Value} {Q : Unit → Shared → Prop} (ho : s.heap.get? it = some o) (hc : o.cls = .type n) (hd : o.data = .fields vs)
    (hn : ["enumerate", "zip", "dict_itemiterator", "dict_reverseitemiterator", "odict_iterator", "itertools.zip_longest", "itertools.pairwise"].contains n = false) (hQ : Q () s) : wpAny M A (letOwnedTupleGo tg (.ref it) u) Q E s := by
  unfold letOwnedTupleGo
  cases tg <;> first
    | exact wpAny_pure hQ
    | (cases u <;> first
        | exact wpAny_pure hQ
        | (refine wpAny_bind (wpAny_load ho ?_)
           rw [hc, hd]
           show wpAny M A (if (["enumerate", "zip", "dict_itemiterator", "dict_reverseitemiterator", "odict_iterator", "itertools.zip_longest", "itertools.pairwise"].contains n && vs[0]? == some (rawInt _)) = true then _ else _) Q E s
           rw [if_neg (by intro h; rw [hn, Bool.false_and] at h; cases h)]
           exact wpAny_pure hQ))

noncomputable def Itl (K : PySem.W.Frag) (a : Addr) : It :=
  ⟨fun i H => ∃ xs x, SqL K H a xs ∧ xs[i]? = some x, fun i H x H' => H' = H ∧ ∀ xs, SqL K H a xs → xs[i]? = some x, fun i H => ∃ xs, SqL K H a xs ∧ xs.length ≤ i⟩
noncomputable def Itt (K : PySem.W.Frag) (a : Addr) : It :=
  ⟨fun i H => ∃ xs x, SqT K H a xs ∧ xs[i]? = some x, fun i H x H' => H' = H ∧ ∀ xs, SqT K H a xs → xs[i]? = some x, fun i H => ∃ xs, SqT K H a xs ∧ xs.length ≤ i⟩
noncomputable def Itr (lo : Int) (n : Nat) : It := ⟨fun i _ => i < n, fun i H x H' => H' = H ∧ x = .int (lo + i), fun i _ => n ≤ i⟩
theorem turn_list {P : Program} {w : World} {K : PySem.W.Frag} {tg : Expr} (a it : Addr) : Turn P w K tg (Itl K a) [it] it (fun i h => h.IsListIter it a i) where
  mem := by simp
  obj := fun i h st b hb => by
    have e : b = it := by simpa using hb
    subst e
    obtain ⟨o, e, c, d⟩ := st
    exact ⟨o, e, fun v z => by rw [d] at z; cases z⟩
  keep := fun i h h' st k => st.at fun o e => k it (by simp) o e
  item := by
    intro X hP hw hK hc i pins s σ H E I hf st hg
    subst hP hw hK
    obtain ⟨xs, x, hq, hx⟩ := hg
    obtain ⟨its, rv, p, hz⟩ := I.list hq
    obtain ⟨u, hu, ru⟩ := rv.get hx
    obtain ⟨f0, f1, f2, f3, f4, f5⟩ := hf it (by simp)
    refine wpAny_pyNext_list_item st p.isList (x := u) (by simpa using hu) fun h' st' sb => ?_
    have I1 : Inv X pins σ H { s with heap := h' } := I.turned (t' := s.toks) (fun b o hb e => (sb.2 b hb).trans e) f0 f1 f3 f4 f5
    obtain ⟨o, e, c, d⟩ := id st'
    exact ⟨u, rfl, go_of (s := { s with heap := h' }) e c d (by decide) ⟨x, H, I1, ru, ⟨rfl, fun ys hy => by rw [I.list_inj hy hq]; exact hx⟩, st', fun b hb => (hf b hb).1⟩⟩
  done := by
    intro X hP hw hK hc i pins s σ H E I hf st hg
    subst hP hw hK
    obtain ⟨xs, hq, hx⟩ := hg
    obtain ⟨its, rv, p, hz⟩ := I.list hq
    obtain ⟨f0, f1, f2, f3, f4, f5⟩ := hf it (by simp)
    have hl := rv.length
    exact wpAny_pyNext_list_end (I.ok.hd hc) st p.isList (by simp; omega) fun h' eb => ⟨rfl, I.turned (t' := s.toks) (fun b o hb e => eb b o hb e) f0 f1 f3 f4 f5⟩
  self := fun _ _ _ _ _ st h => wpAny_pyIter_listiter st h
theorem turn_tuple {P : Program} {w : World} {K : PySem.W.Frag} {tg : Expr} (a it : Addr) : Turn P w K tg (Itt K a) [it] it (fun i h => h.IsTupleIter it a i) where
  mem := by simp
  obj := fun i h st b hb => by
    have e : b = it := by simpa using hb
    subst e
    obtain ⟨o, e, c, d⟩ := st
    exact ⟨o, e, fun v z => by rw [d] at z; cases z⟩
  keep := fun i h h' st k => st.at fun o e => k it (by simp) o e
  item := by
    intro X hP hw hK hc i pins s σ H E I hf st hg
    subst hP hw hK
    obtain ⟨xs, x, hq, hx⟩ := hg
    obtain ⟨its, rv, p, hz⟩ := I.tuple hq
    obtain ⟨u, hu, ru⟩ := rv.get hx
    obtain ⟨f0, f1, f2, f3, f4, f5⟩ := hf it (by simp)
    refine wpAny_pyNext_tuple_item st (show s.heap.IsTuple a its.toArray from p) (x := u) (by simpa using hu) fun h' st' sb => ?_
    have I1 : Inv X pins σ H { s with heap := h' } := I.turned (t' := s.toks) (fun b o hb e => (sb.2 b hb).trans e) f0 f1 f3 f4 f5
    obtain ⟨o, e, c, d⟩ := id st'
    exact ⟨u, rfl, go_of (s := { s with heap := h' }) e c d (by decide) ⟨x, H, I1, ru, ⟨rfl, fun ys hy => by rw [I.tuple_inj hy hq]; exact hx⟩, st', fun b hb => (hf b hb).1⟩⟩
  done := by
    intro X hP hw hK hc i pins s σ H E I hf st hg
    subst hP hw hK
    obtain ⟨xs, hq, hx⟩ := hg
    obtain ⟨its, rv, p, hz⟩ := I.tuple hq
    obtain ⟨f0, f1, f2, f3, f4, f5⟩ := hf it (by simp)
    have hl := rv.length
    exact wpAny_pyNext_tuple_end (I.ok.hd hc) st (show s.heap.IsTuple a its.toArray from p) (by simp; omega) fun h' eb => ⟨rfl, I.turned (t' := s.toks) (fun b o hb e => eb b o hb e) f0 f1 f3 f4 f5⟩
  self := fun _ _ _ _ _ st h => wpAny_pyIter_tupleiter st h
theorem turn_range {P : Program} {w : World} {K : PySem.W.Frag} {tg : Expr} (it : Addr) (lo : Int) (n : Nat) : Turn P w K tg (Itr lo n) [it] it (fun i h => IsRangeIter h it (lo + (i : Nat) * 1) ((n : Int) - (i : Nat)) 1) where
  mem := by simp
  obj := fun i h st b hb => by
    have e : b = it := by simpa using hb
    subst e
    exact ⟨_, st, fun v z => by
      have z' : Data.fields _ = Data.cell v := z
      cases z'⟩
  keep := fun i h h' st k => k it (by simp) _ st
  item := by
    intro X hP hw hK hc i pins s σ H E I hf st hg
    subst hP hw hK
    obtain ⟨f0, f1, f2, f3, f4, f5⟩ := hf it (by simp)
    have W := Walks.range (prog := X.prog) (w := X.w) (I.ok.hd hc) it lo 1 n
    refine W.item i s _ _ hg st fun v h' tk hv st' kk => ?_
    obtain ⟨t, rfl⟩ := hv
    have I1 : Inv X pins σ H { s with heap := h', toks := tk } := I.turned (fun b o hb e => kk b o (by simpa using hb) e) f0 f1 f3 f4 f5
    refine ⟨_, rfl, go_of (s := { s with heap := h', toks := tk }) (n := "range_iterator") st' rfl rfl (by decide) ⟨.int (lo + i), H, I1, ⟨t, ?_⟩, ⟨rfl, rfl⟩, st', fun b hb => (hf b hb).1⟩⟩
    rw [Int.mul_one]
  done := by
    intro X hP hw hK hc i pins s σ H E I hf st hg
    subst hP hw hK
    obtain ⟨f0, f1, f2, f3, f4, f5⟩ := hf it (by simp)
    exact wpAny_pyNext_range_end (I.ok.hd hc) st (by have : n ≤ i := hg; omega) fun h' eb => ⟨rfl, I.turned (t' := s.toks) (fun b o hb e => eb b o hb e) f0 f1 f3 f4 f5⟩
  self := fun _ _ _ _ _ st h => wpAny_pyIter_rangeiter st h
end L2

namespace L2
open PySem PySem.Spec PyProof.Rows
section
variable {X : Cx} {tg : Expr}
noncomputable def iList (K : PySem.W.Frag) (tl : TE) : TI := fun σ H R => tl σ H fun x H1 => ∃ a, x = .ref a ∧ (∃ xs, SqL K H1 a xs) ∧ R (Itl K a) H1
noncomputable def iTup (K : PySem.W.Frag) (tl : TE) : TI := fun σ H R => tl σ H fun x H1 => ∃ a, x = .ref a ∧ (∃ xs, SqT K H1 a xs) ∧ R (Itt K a) H1
theorem pi_list {l : Expr} {tl : TE} (hl : PE X l tl) : PI X tg l (iList X.K tl) := by
  intro pins s σ H R I h
  refine thn (hl pins s σ H _ I h) fun v s1 zz => ?_
  obtain ⟨x, H1, I1, r1, q1⟩ := zz
  obtain ⟨a, e, ⟨xs, hq⟩, q⟩ := q1
  subst e
  cases r1
  obtain ⟨its, rv, p, hz⟩ := I1.list hq
  refine wpAny_pyIter_list p.isList ?_
  refine ⟨s1.heap.objs.size, [s1.heap.objs.size], _, _, H1, rfl, I1.kept (t' := s1.toks) fun b o e => Heap.get?_push_of_some _ e, turn_list a _, ⟨_, Heap.get?_push_size _ rfl, rfl, rfl⟩, fun b hb => ?_, q⟩
  have e : b = s1.heap.objs.size := by simpa using hb
  subst e
  exact I1.fpOk (Nat.le_refl _) (I1.hok.fresh (Nat.le_refl _))
theorem pi_tup {l : Expr} {tl : TE} (hl : PE X l tl) : PI X tg l (iTup X.K tl) := by
  intro pins s σ H R I h
  refine thn (hl pins s σ H _ I h) fun v s1 zz => ?_
  obtain ⟨x, H1, I1, r1, q1⟩ := zz
  obtain ⟨a, e, ⟨xs, hq⟩, q⟩ := q1
  subst e
  cases r1
  obtain ⟨its, rv, p, hz⟩ := I1.tuple hq
  refine wpAny_pyIter_tuple (show s1.heap.IsTuple a its.toArray from p) ?_
  refine ⟨s1.heap.objs.size, [s1.heap.objs.size], _, _, H1, rfl, I1.kept (t' := s1.toks) fun b o e => Heap.get?_push_of_some _ e, turn_tuple a _, ⟨_, Heap.get?_push_size _ rfl, rfl, rfl⟩, fun b hb => ?_, q⟩
  have e : b = s1.heap.objs.size := by simpa using hb
  subst e
  exact I1.fpOk (Nat.le_refl _) (I1.hok.fresh (Nat.le_refl _))
theorem range_it {pins : List (Addr × Obj)} {σ : St} {H : Hp} {s : Shared} {R : It → Hp → Prop} {E : Value → Shared → Prop} {lo hi : Int} {t u v : Tok} {tk : Nat} (I : Inv X pins σ H s) (h1 : -(2 ^ 62) ≤ lo) (h2 : lo < 2 ^ 62) (h3 : -(2 ^ 62) ≤ hi) (h4 : hi < 2 ^ 62)
    (q : R (Itr lo (hi - lo).toNat) H) : wpAny (model X.prog X.w) X.A (pyIter (.ref s.heap.objs.size)) (PIE X pins σ tg R) E { s with heap := s.heap.push { cls := .type "range", data := .fields #[.int lo t, .int hi u, .int 1 v] }, toks := tk } := by
  refine wpAny_pyIter_range (IsRange.new ..) (small_one h1 h2 h3 h4) ?_
  have I1 : Inv X pins σ H { s with heap := s.heap.push { cls := .type "range", data := .fields #[.int lo t, .int hi u, .int 1 v] }, toks := tk } := I.kept fun b o e => Heap.get?_push_of_some _ e
  refine ⟨(s.heap.push { cls := .type "range", data := .fields #[.int lo t, .int hi u, .int 1 v] }).objs.size, [(s.heap.push { cls := .type "range", data := .fields #[.int lo t, .int hi u, .int 1 v] }).objs.size], _, _, H, rfl,
    I1.kept (t' := tk) fun b o e => Heap.get?_push_of_some _ e, turn_range _ lo (hi - lo).toNat, ?_, fun b hb => ?_, q⟩
  · have e1 : lo + ((0 : Nat) : Int) * 1 = lo := by simp
    have e2 : (((hi - lo).toNat : Nat) : Int) - ((0 : Nat) : Int) = Builtin.Range.rangeSize lo hi 1 := by rw [rangeSize_one]; split <;> omega
    show IsRangeIter _ _ (lo + ((0 : Nat) : Int) * 1) ((((hi - lo).toNat : Nat) : Int) - ((0 : Nat) : Int)) 1
    rw [e1, e2]
    exact Heap.get?_push_size _ rfl
  · have e : b = (s.heap.push { cls := .type "range", data := .fields #[.int lo t, .int hi u, .int 1 v] }).objs.size := by simpa using hb
    subst e
    exact I1.fpOk (Nat.le_refl _) (I1.hok.fresh (Nat.le_refl _))
noncomputable def iRng1 (ta : TA) : TI := fun σ H R => ta σ H fun vs H1 => ∃ j : Int, vs = [.int j] ∧ -(2 ^ 62) ≤ j ∧ j < 2 ^ 62 ∧ R (Itr 0 j.toNat) H1
theorem pi_range1 {a : Expr} {ta : TA} {p pos : Pos} (hg : Gl X "range") (hm : X.mg "range" = none) (ha : PA X [a] ta) (hs : starEach [a] X.env = [(false, eval a X.env)] := by rfl) : PI X tg (.Call (.Name "range" p) [a] [] pos) (iRng1 ta) := by
  intro pins s σ H R I h
  refine Call_ (ld_blt I hg hm boot_range (PyProof.Rows.callWith_type1 (thn (ha pos pins s σ H _ I h) fun us s1 ⟨vs, H1, I1, r1, q1⟩ => ?_) hs rfl))
  obtain ⟨j, e, q1, q2, q⟩ := q1
  subst e
  cases r1 with
  | cons r rr =>
    cases rr
    obtain ⟨t, rfl⟩ := r
    exact call_range_1 (range_it I1 (by omega) (by omega) q1 q2 (by simpa using q))

noncomputable def tFor (wi : TI) (g : TG) (tb : TS) : TS := fun D σ H => wi σ H fun J H1 => ∃ W : Nat → Nat → St → Hp → Prop, (∃ m, W 0 m σ H1) ∧ ∀ i m σ H, W i m σ H →
  (J.stop i H ∧ D.nx σ H) ∨ (J.go i H ∧ ∃ N : St → Hp → Prop, (∀ σ' H', N σ' H' → ∃ m', m' < m ∧ W (i + 1) m' σ' H') ∧ ∀ x H', J.yld i H x H' → g x σ H' fun σ2 H2 => tb { D with nx := N, ct := N, bk := D.nx } σ2 H2)
noncomputable def pinsAt (fp : List Addr) (h : Heap) : List (Addr × Obj) := fp.filterMap fun b => (h.get? b).map fun o => (b, o)
theorem mem_pinsAt {fp : List Addr} {h : Heap} {b : Addr} {o : Obj} (hb : b ∈ fp) (e : h.get? b = some o) : (b, o) ∈ pinsAt fp h := List.mem_filterMap.mpr ⟨b, hb, by rw [e]; rfl⟩
theorem of_pinsAt {fp : List Addr} {h : Heap} {p : Addr × Obj} (hp : p ∈ pinsAt fp h) : p.1 ∈ fp ∧ h.get? p.1 = some p.2 := by
  obtain ⟨b, hb, e⟩ := List.mem_filterMap.mp hp
  cases q : h.get? b with
  | none => rw [q] at e; cases e
  | some o =>
    rw [q] at e
    have e' : (b, o) = p := Option.some.inj e
    subst e'
    exact ⟨hb, q⟩
theorem Inv.pinned {pins : List (Addr × Obj)} {σ : St} {H : Hp} {s : Shared} {fp : List Addr} (I : Inv X pins σ H s) (hf : ∀ b ∈ fp, FpOk X pins H b) (ho : ∀ b ∈ fp, ∃ o, s.heap.get? b = some o ∧ ∀ v, o.data ≠ .cell v) : Inv X (pins ++ pinsAt fp s.heap) σ H s :=
  I.pins_of fun p hp => (List.mem_append.mp hp).elim (fun z => I.pin p (List.mem_append_right _ z)) fun z => by
    obtain ⟨hb, e⟩ := of_pinsAt z
    obtain ⟨f0, f1, f2, _⟩ := hf p.1 hb
    obtain ⟨o, e', d⟩ := ho p.1 hb
    rw [e] at e'; cases e'
    exact ⟨e, f0, f1, f2, d⟩
theorem Inv.unpinned {pins pl : List (Addr × Obj)} {σ : St} {H : Hp} {s : Shared} (I : Inv X (pins ++ pl) σ H s) : Inv X pins σ H s := I.pins_of fun p hp => I.pin p (List.mem_append_right _ (List.mem_append_left _ hp))
theorem ps_for {iter : Expr} {body : List Stmt} {wi : TI} {g : TG} {tb : TS} {pos : Pos} (hp : PassesOwn (model X.prog X.w) X.A X.env X.xe) (hc : X.calm = true) (hi : PI X tg iter wi) (hg : PG X tg g) (hb : PSs X body tb)
    (hs : ∀ x, foldedSetIterable iter X.env x = pure x := by intro _; rfl) : PS X (.For tg iter body [] pos) (tFor wi g tb) := by
  intro pins s σ H D I h
  refine wpAny_For (thn (hi pins s σ H _ I h) fun v s1 h1 => thn h1 fun itv s2 h2 => ?_) hs
  obtain ⟨it, fp, tn, J, H2, e, I2, T, st2, f2, W, ⟨m0, w0⟩, turn⟩ := h2
  subst e
  -- what stays true of the iterator's objects through the loop
  have stat : ∀ {H' : Hp}, (∀ b ∈ fp, H' b = none) → ∀ b ∈ fp, FpOk X pins H' b := fun hn b hb => ⟨hn b hb, (f2 b hb).2⟩
  refine codeAny_forLoop_any (fun n s' => ∃ i σ' H', Inv X pins σ' H' s' ∧ tn i s'.heap ∧ (∀ b ∈ fp, H' b = none) ∧ W i n σ' H') ?_ m0 ⟨0, σ, H2, I2, st2, fun b hb => (f2 b hb).1, w0⟩
  rintro n s3 ⟨i, σ3, H3, I3, st3, fr3, w3⟩
  rcases turn i n σ3 H3 w3 with ⟨stop, qn⟩ | ⟨go, N, hN, step⟩
  · refine wpAny_passesOwn hp (thn (T.done X rfl rfl rfl hc i pins s3 σ3 H3 X.xe I3 (stat fr3) st3 stop) fun r s4 zz => ?_)
    obtain ⟨hr, I4⟩ := zz
    subst hr
    exact wpAny_execs_nil ⟨σ3, H3, I4, qn⟩
  · refine wpAny_passesOwn hp (thn (T.item X rfl rfl rfl hc i pins s3 σ3 H3 X.xe I3 (stat fr3) st3 go) fun r s4 zz => ?_)
    obtain ⟨u, hr, h4⟩ := zz
    subst hr
    refine wpAny_passesOwn hp (thn h4 fun _ s5 zz => ?_)
    obtain ⟨x, H5, I5, r5, y5, st5, fr5⟩ := zz
    have I5' := I5.pinned (stat fr5) (T.obj _ _ st5)
    refine wpAny_passesOwn hp (thn (hg _ s5 σ3 H5 x u _ I5' r5 (step x H5 y5)) fun _ s6 zz => ?_)
    obtain ⟨σ6, H6, I6, q6⟩ := zz
    refine wpAny_passesOwn hp (thn (hb _ s6 σ6 H6 _ I6 q6) fun f s7 q7 => ?_)
    have again : ∀ {σ7 : St} {H7 : Hp}, Inv X (pins ++ pinsAt fp s5.heap) σ7 H7 s7 → N σ7 H7 → ∃ m, m < n ∧ ∃ i σ' H', Inv X pins σ' H' s7 ∧ tn i s7.heap ∧ (∀ b ∈ fp, H' b = none) ∧ W i m σ' H' := fun {σ7 H7} I7 n7 => by
      obtain ⟨m', hm, w7⟩ := hN σ7 H7 n7
      refine ⟨m', hm, i + 1, σ7, H7, I7.unpinned, T.keep _ _ _ st5 fun b hb o e => (I7.pin (b, o) (List.mem_append_right _ (List.mem_append_right _ (mem_pinsAt hb e)))).1, fun b hb => ?_, w7⟩
      obtain ⟨o, e, d⟩ := T.obj _ _ st5 b hb
      exact (I7.pin (b, o) (List.mem_append_right _ (List.mem_append_right _ (mem_pinsAt hb e)))).2.1
    cases f with
    | next => obtain ⟨σ7, H7, I7, n7⟩ := q7; exact again I7 n7
    | cont => obtain ⟨σ7, H7, I7, n7⟩ := q7; exact again I7 n7
    | brk => obtain ⟨σ7, H7, I7, q7⟩ := q7; exact ⟨σ7, H7, I7.unpinned, q7⟩
    | ret v => obtain ⟨x7, σ7, H7, I7, r7, q7⟩ := q7; exact ⟨x7, σ7, H7, I7.unpinned, r7, q7⟩
end

theorem for_list {K : PySem.W.Frag} {a : Addr} {xs : List V} {g : TG} {tb : TS} {D : Ends} {σ : St} {H : Hp} (Pv : Nat → St → Hp → Prop) (h0 : Pv 0 σ H) (hl : ∀ i σ H, i ≤ xs.length → Pv i σ H → SqL K H a xs)
    (hs : ∀ i x σ H, xs[i]? = some x → Pv i σ H → g x σ H fun σ2 H2 => tb { D with nx := Pv (i + 1), ct := Pv (i + 1), bk := D.nx } σ2 H2) (hd : ∀ σ H, Pv xs.length σ H → D.nx σ H) :
    ∃ W : Nat → Nat → St → Hp → Prop, (∃ m, W 0 m σ H) ∧ ∀ i m σ H, W i m σ H →
      ((Itl K a).stop i H ∧ D.nx σ H) ∨ ((Itl K a).go i H ∧ ∃ N : St → Hp → Prop, (∀ σ' H', N σ' H' → ∃ m', m' < m ∧ W (i + 1) m' σ' H') ∧ ∀ x H', (Itl K a).yld i H x H' → g x σ H' fun σ2 H2 => tb { D with nx := N, ct := N, bk := D.nx } σ2 H2) := by
  refine ⟨fun i m σ H => m = xs.length - i ∧ i ≤ xs.length ∧ Pv i σ H, ⟨xs.length, by simp, Nat.zero_le _, h0⟩, ?_⟩
  rintro i m σ H ⟨rfl, hi, p⟩
  have q := hl i σ H hi p
  by_cases hlt : i < xs.length
  · refine .inr ⟨⟨xs, xs[i], q, by simp [hlt]⟩, Pv (i + 1), fun σ' H' p' => ⟨xs.length - (i + 1), by omega, rfl, hlt, p'⟩, fun x H' y => ?_⟩
    obtain ⟨e, y⟩ := y
    subst e
    exact hs i x σ _ (y xs q) p
  · have e : i = xs.length := by omega
    subst e
    exact .inl ⟨⟨xs, q, Nat.le_refl _⟩, hd σ H p⟩
theorem for_tup {K : PySem.W.Frag} {a : Addr} {xs : List V} {g : TG} {tb : TS} {D : Ends} {σ : St} {H : Hp} (Pv : Nat → St → Hp → Prop) (h0 : Pv 0 σ H) (hl : ∀ i σ H, i ≤ xs.length → Pv i σ H → SqT K H a xs)
    (hs : ∀ i x σ H, xs[i]? = some x → Pv i σ H → g x σ H fun σ2 H2 => tb { D with nx := Pv (i + 1), ct := Pv (i + 1), bk := D.nx } σ2 H2) (hd : ∀ σ H, Pv xs.length σ H → D.nx σ H) :
    ∃ W : Nat → Nat → St → Hp → Prop, (∃ m, W 0 m σ H) ∧ ∀ i m σ H, W i m σ H →
      ((Itt K a).stop i H ∧ D.nx σ H) ∨ ((Itt K a).go i H ∧ ∃ N : St → Hp → Prop, (∀ σ' H', N σ' H' → ∃ m', m' < m ∧ W (i + 1) m' σ' H') ∧ ∀ x H', (Itt K a).yld i H x H' → g x σ H' fun σ2 H2 => tb { D with nx := N, ct := N, bk := D.nx } σ2 H2) := by
  refine ⟨fun i m σ H => m = xs.length - i ∧ i ≤ xs.length ∧ Pv i σ H, ⟨xs.length, by simp, Nat.zero_le _, h0⟩, ?_⟩
  rintro i m σ H ⟨rfl, hi, p⟩
  have q := hl i σ H hi p
  by_cases hlt : i < xs.length
  · refine .inr ⟨⟨xs, xs[i], q, by simp [hlt]⟩, Pv (i + 1), fun σ' H' p' => ⟨xs.length - (i + 1), by omega, rfl, hlt, p'⟩, fun x H' y => ?_⟩
    obtain ⟨e, y⟩ := y
    subst e
    exact hs i x σ _ (y xs q) p
  · have e : i = xs.length := by omega
    subst e
    exact .inl ⟨⟨xs, q, Nat.le_refl _⟩, hd σ H p⟩
theorem for_range {lo : Int} {n : Nat} {g : TG} {tb : TS} {D : Ends} {σ : St} {H : Hp} (Pv : Nat → St → Hp → Prop) (h0 : Pv 0 σ H)
    (hs : ∀ i σ H, i < n → Pv i σ H → g (.int (lo + i)) σ H fun σ2 H2 => tb { D with nx := Pv (i + 1), ct := Pv (i + 1), bk := D.nx } σ2 H2) (hd : ∀ σ H, Pv n σ H → D.nx σ H) :
    ∃ W : Nat → Nat → St → Hp → Prop, (∃ m, W 0 m σ H) ∧ ∀ i m σ H, W i m σ H →
      ((Itr lo n).stop i H ∧ D.nx σ H) ∨ ((Itr lo n).go i H ∧ ∃ N : St → Hp → Prop, (∀ σ' H', N σ' H' → ∃ m', m' < m ∧ W (i + 1) m' σ' H') ∧ ∀ x H', (Itr lo n).yld i H x H' → g x σ H' fun σ2 H2 => tb { D with nx := N, ct := N, bk := D.nx } σ2 H2) := by
  refine ⟨fun i m σ H => m = n - i ∧ i ≤ n ∧ Pv i σ H, ⟨n, by simp, Nat.zero_le _, h0⟩, ?_⟩
  rintro i m σ H ⟨rfl, hi, p⟩
  by_cases hlt : i < n
  · refine .inr ⟨hlt, Pv (i + 1), fun σ' H' p' => ⟨n - (i + 1), by omega, rfl, hlt, p'⟩, fun x H' y => ?_⟩
    obtain ⟨e, y⟩ := y
    subst e y
    exact hs i σ _ hlt p
  · have e : i = n := by omega
    subst e
    exact .inl ⟨Nat.le_refl _, hd σ H p⟩
end L2

namespace L2
open PySem PySem.Spec PyProof.Rows

noncomputable abbrev R2 := V → V → Hp → VK → Prop
noncomputable def OpR (X : Cx) (f : Value → Value → Sem Value) (r : R2) : Prop :=
  ∀ (pins : List (Addr × Obj)) (s : Shared) (σ : St) (H : Hp) (x y : V) (v u : Value) (Q : VK), Inv X pins σ H s → RelV x v → RelV y u → r x y H Q →
    wpAny (model X.prog X.w) X.A (f v u) (EP X pins σ Q) X.xe s
noncomputable def UnR (X : Cx) (f : Value → Sem Value) (r : V → Hp → VK → Prop) : Prop :=
  ∀ (pins : List (Addr × Obj)) (s : Shared) (σ : St) (H : Hp) (x : V) (v : Value) (Q : VK), Inv X pins σ H s → RelV x v → r x H Q →
    wpAny (model X.prog X.w) X.A (f v) (EP X pins σ Q) X.xe s
noncomputable def CallR (X : Cx) (f : Value) (r : List V → Hp → VK → Prop) : Prop :=
  ∀ (pins : List (Addr × Obj)) (s : Shared) (σ : St) (H : Hp) (xs : List V) (us : List Value) (Q : VK), Inv X pins σ H s → Vals xs us → r xs H Q →
    wpAny (model X.prog X.w) X.A (call f us) (EP X pins σ Q) X.xe s

noncomputable def tOp (r : R2) (ta tb : TE) : TE := fun σ H Q => ta σ H fun x H1 => tb σ H1 fun y H2 => r x y H2 Q
noncomputable def tUn (r : V → Hp → VK → Prop) (ta : TE) : TE := fun σ H Q => ta σ H fun x H1 => r x H1 Q
noncomputable def rI (C : Int → Int → Prop) (g : Int → Int → V) : R2 := fun x y H Q => ∃ i j, x = .int i ∧ y = .int j ∧ C i j ∧ Q (g i j) H
noncomputable def rI0 (g : Int → Int → V) : R2 := fun x y H Q => ∃ i j, x = .int i ∧ y = .int j ∧ Q (g i j) H
noncomputable def rU (g : Int → V) : V → Hp → VK → Prop := fun x H Q => ∃ i, x = .int i ∧ Q (g i) H

section
variable {X : Cx} {a b c : Expr} {ta tb tc : TE} {pos : Pos}

theorem binT (ha : PE X a ta) (hb : PE X b tb) {pins : List (Addr × Obj)} {s : Shared} {σ : St} {H : Hp} {R : V → V → Hp → Prop} (I : Inv X pins σ H s)
    (h : ta σ H fun x H1 => tb σ H1 fun y H2 => R x y H2) {Q : Value → Shared → Prop} {f : Value → Value → Sem Value}
    (hf : ∀ v u s2 x y H2, Inv X pins σ H2 s2 → RelV x v → RelV y u → R x y H2 → wpAny (model X.prog X.w) X.A (f v u) Q X.xe s2) :
    wpAny (model X.prog X.w) X.A (eval a X.env) (fun v s₁ => wpAny (model X.prog X.w) X.A (eval b X.env) (fun u s₂ => wpAny (model X.prog X.w) X.A (f v u) Q X.xe s₂) X.xe s₁) X.xe s := by
  refine thn (ha pins s σ H _ I h) fun v s1 zz => ?_
  obtain ⟨x, H1, I1, r1, q1⟩ := zz
  refine thn (hb pins s1 σ H1 _ I1 q1) fun u s2 zz => ?_
  obtain ⟨y, H2, I2, r2, q2⟩ := zz
  exact hf v u s2 x y H2 I2 r1 r2 q2

theorem pe_op {op : Operator} {r : R2} (ho : OpR X (binaryOp op) r) (ha : PE X a ta) (hb : PE X b tb) : PE X (.BinOp a op b pos) (tOp r ta tb) := by
  intro pins s σ H Q I h
  exact wpAny_BinOp (binT ha hb I h fun v u s2 x y H2 I2 rx ry q => ho pins s2 σ H2 x y v u Q I2 rx ry q)
theorem pe_un {op : UnaryOp} {r : V → Hp → VK → Prop} (ho : UnR X (unaryOp op) r) (ha : PE X a ta) : PE X (.UnaryOp op a pos) (tUn r ta) := by
  intro pins s σ H Q I h
  exact UnaryOp_ (thn (ha pins s σ H _ I h) fun v s1 ⟨x, H1, I1, r1, q1⟩ => ho pins s1 σ H1 x v Q I1 r1 q1)

theorem opI {f : Value → Value → Sem Value} {C : Int → Int → Prop} {g : Int → Int → Int}
    (rule : ∀ (i j : Int) (t u : Tok) (s : Shared) (Q : Value → Shared → Prop) (E : Value → Shared → Prop), C i j → Q (.int (g i j) s.toks) { s with toks := s.toks + 1 } → wpAny (model X.prog X.w) X.A (f (.int i t) (.int j u)) Q E s) :
    OpR X f (rI C fun i j => .int (g i j)) := by
  intro pins s σ H x y v u Q I rx ry h
  obtain ⟨i, j, rfl, rfl, hc, q⟩ := h
  obtain ⟨t, rfl⟩ := rx
  obtain ⟨t', rfl⟩ := ry
  exact rule i j t t' s _ _ hc ⟨.int (g i j), H, I.tok _, ⟨_, rfl⟩, q⟩
theorem opI0 {f : Value → Value → Sem Value} {g : Int → Int → Int}
    (rule : ∀ (i j : Int) (t u : Tok) (s : Shared) (Q : Value → Shared → Prop) (E : Value → Shared → Prop), Q (.int (g i j) s.toks) { s with toks := s.toks + 1 } → wpAny (model X.prog X.w) X.A (f (.int i t) (.int j u)) Q E s) :
    OpR X f (rI0 fun i j => .int (g i j)) := by
  intro pins s σ H x y v u Q I rx ry h
  obtain ⟨i, j, rfl, rfl, q⟩ := h
  obtain ⟨t, rfl⟩ := rx
  obtain ⟨t', rfl⟩ := ry
  exact rule i j t t' s _ _ ⟨.int (g i j), H, I.tok _, ⟨_, rfl⟩, q⟩
theorem opB0 {f : Value → Value → Sem Value} {g : Int → Int → Bool}
    (rule : ∀ (i j : Int) (t u : Tok) (s : Shared) (Q : Value → Shared → Prop) (E : Value → Shared → Prop), Q (.bool (g i j)) s → wpAny (model X.prog X.w) X.A (f (.int i t) (.int j u)) Q E s) :
    OpR X f (rI0 fun i j => .bl (g i j)) := by
  intro pins s σ H x y v u Q I rx ry h
  obtain ⟨i, j, rfl, rfl, q⟩ := h
  obtain ⟨t, rfl⟩ := rx
  obtain ⟨t', rfl⟩ := ry
  exact rule i j t t' s _ _ ⟨.bl (g i j), H, I, rfl, q⟩

noncomputable def CPow (i j : Int) : Prop := 0 ≤ j ∧ j ≤ 1000000 ∧ i.natAbs < 2 ^ 64
noncomputable def CMul (i j : Int) : Prop := (-(2 ^ 64) < i ∧ i < 2 ^ 64) ∨ (-(2 ^ 64) < j ∧ j < 2 ^ 64)
theorem CMul.ok {i j : Int} (h : CMul i j) : IntMulOk i j := by
  rcases h with ⟨h1, h2⟩ | ⟨h1, h2⟩
  · exact .of_left (intBits_le_64 h1 h2)
  · exact .of_right (intBits_le_64 h1 h2)

theorem op_add : OpR X (binaryOp .Add) (rI0 fun i j => .int (i + j)) := opI0 fun _ _ _ _ _ _ _ q => add_int q
theorem op_sub : OpR X (binaryOp .Sub) (rI0 fun i j => .int (i - j)) := opI0 fun _ _ _ _ _ _ _ q => sub_int q
theorem op_mul : OpR X (binaryOp .Mult) (rI CMul fun i j => .int (i * j)) := opI fun _ _ _ _ _ _ _ hc q => mul_int q hc.ok
theorem op_mod : OpR X (binaryOp .Mod) (rI (fun _ j => 0 < j) fun i j => .int (i % j)) := opI fun i j _ _ _ _ _ hc q => by
  have h1 : (0 : Int) < j := hc
  exact mod_int' (by omega) (by rw [Int.fmod_eq_emod_of_nonneg i (by omega)]; exact q)
theorem op_pow : OpR X (binaryOp .Pow) (rI CPow fun i j => .int (i ^ j.toNat)) := opI fun _ _ _ _ _ _ _ hc q => pow_int_small hc.1 hc.2.1 hc.2.2 q


theorem unI {f : Value → Sem Value} {g : Int → Int}
    (rule : ∀ (i : Int) (t : Tok) (s : Shared) (Q : Value → Shared → Prop) (E : Value → Shared → Prop), Q (.int (g i) s.toks) { s with toks := s.toks + 1 } → wpAny (model X.prog X.w) X.A (f (.int i t)) Q E s) :
    UnR X f (rU fun i => .int (g i)) := by
  intro pins s σ H x v Q I rx h
  obtain ⟨i, rfl, q⟩ := h
  obtain ⟨t, rfl⟩ := rx
  exact rule i t s _ _ ⟨.int (g i), H, I.tok _, ⟨_, rfl⟩, q⟩
theorem un_neg : UnR X (unaryOp .USub) (rU fun i => .int (-i)) := unI fun _ _ _ _ _ q => neg_int q

end

noncomputable def scal : V → V → Bool
  | .non, .non => true | .non, .int _ => true | .int _, .non => true | .non, .bl _ => true | .bl _, .non => true | .non, .str _ => true | .str _, .non => true
  | .int _, .int _ => true | .bl _, .bl _ => true | .str _, .str _ => true | .byt _, .byt _ => true
  | .int _, .str _ => true | .str _, .int _ => true | .bl _, .str _ => true | .str _, .bl _ => true
  | _, _ => false
noncomputable def rEq : R2 := fun x y H Q => scal x y = true ∧ Q (.bl (decide (x = y))) H
noncomputable def rNe : R2 := fun x y H Q => scal x y = true ∧ Q (.bl (!decide (x = y))) H

theorem dec_int {i j : Int} : decide (V.int i = V.int j) = (i == j) := by
  rw [Bool.eq_iff_iff]
  simp
theorem dec_bl {i j : Bool} : decide (V.bl i = V.bl j) = (i == j) := by
  rw [Bool.eq_iff_iff]
  simp
theorem dec_str {i j : Str} : decide (V.str i = V.str j) = (i == j) := by
  rw [Bool.eq_iff_iff]
  simp
theorem dec_byt {i j : Array UInt8} : decide (V.byt i = V.byt j) = (i.toList == j.toList) := by
  rw [Bool.eq_iff_iff]
  cases i
  cases j
  simp

section
variable {X : Cx} {a b c : Expr} {ta tb tc : TE} {pos : Pos}
theorem fin_bl {pins : List (Addr × Obj)} {σ : St} {H : Hp} {s : Shared} {Q : VK} {k k' : Bool} (I : Inv X pins σ H s) (q : Q (.bl k) H) (e : k = k') : EP X pins σ Q (.bool k') s := by
  subst e
  exact ⟨.bl k, H, I, rfl, q⟩
theorem op_eq : OpR X (compareOp .Eq) rEq := by
  intro pins s σ H x y v u Q I rx ry h
  obtain ⟨hs, q⟩ := h
  cases x with
  | non =>
    cases rx
    cases y with
    | non => cases ry; exact PySem.EqNone.eq_none_none (fin_bl I q (by simp))
    | bl j => cases ry; exact PySem.EqNone.eq_none_bool (fin_bl I q (by simp))
    | int j => obtain ⟨t', rfl⟩ := ry; exact PySem.EqNone.eq_none_int (fin_bl I q (by simp))
    | str j => obtain ⟨t', rfl⟩ := ry; exact PySem.EqNone.eq_none_str (fin_bl I q (by simp))
    | _ => exact absurd (show false = true from hs) Bool.false_ne_true
  | bl i =>
    cases rx
    cases y with
    | non => cases ry; exact PySem.EqNone.eq_bool_none (fin_bl I q (by simp))
    | bl j => cases ry; exact eq_bool (fin_bl I q dec_bl)
    | str j => obtain ⟨t', rfl⟩ := ry; exact PySem.EqMixed.eq_bool_str (fin_bl I q (by simp))
    | _ => exact absurd (show false = true from hs) Bool.false_ne_true
  | int i =>
    obtain ⟨t, rfl⟩ := rx
    cases y with
    | non => cases ry; exact PySem.EqNone.eq_int_none (fin_bl I q (by simp))
    | int j => obtain ⟨t', rfl⟩ := ry; exact eq_int (fin_bl I q dec_int)
    | str j => obtain ⟨t', rfl⟩ := ry; exact PySem.EqMixed.eq_int_str (fin_bl I q (by simp))
    | _ => exact absurd (show false = true from hs) Bool.false_ne_true
  | str i =>
    obtain ⟨t, rfl⟩ := rx
    cases y with
    | non => cases ry; exact PySem.EqNone.eq_str_none (fin_bl I q (by simp))
    | bl j => cases ry; exact PySem.EqMixed.eq_str_bool (fin_bl I q (by simp))
    | int j => obtain ⟨t', rfl⟩ := ry; exact PySem.EqMixed.eq_str_int (fin_bl I q (by simp))
    | str j => obtain ⟨t', rfl⟩ := ry; exact eq_str (fin_bl I q dec_str)
    | _ => exact absurd (show false = true from hs) Bool.false_ne_true
  | byt i =>
    obtain ⟨t, rfl⟩ := rx
    cases y with
    | byt j => obtain ⟨t', rfl⟩ := ry; exact PySem.W.eq_bytes (fin_bl I q dec_byt)
    | _ => exact absurd (show false = true from hs) Bool.false_ne_true
  | _ => cases y <;> exact absurd (show false = true from hs) Bool.false_ne_true
theorem op_ne : OpR X (compareOp .NotEq) rNe := by
  intro pins s σ H x y v u Q I rx ry h
  obtain ⟨hs, q⟩ := h
  cases x with
  | non =>
    cases rx
    cases y with
    | non => cases ry; exact PySem.EqNone.ne_none_none (fin_bl I q (by simp))
    | bl j => cases ry; exact PySem.EqNone.ne_none_bool (fin_bl I q (by simp))
    | int j => obtain ⟨t', rfl⟩ := ry; exact PySem.EqNone.ne_none_int (fin_bl I q (by simp))
    | str j => obtain ⟨t', rfl⟩ := ry; exact PySem.EqNone.ne_none_str (fin_bl I q (by simp))
    | _ => exact absurd (show false = true from hs) Bool.false_ne_true
  | bl i =>
    cases rx
    cases y with
    | non => cases ry; exact PySem.EqNone.ne_bool_none (fin_bl I q (by simp))
    | bl j => cases ry; exact ne_bool (fin_bl I q (congrArg not dec_bl))
    | str j => obtain ⟨t', rfl⟩ := ry; exact PySem.EqMixed.ne_bool_str (fin_bl I q (by simp))
    | _ => exact absurd (show false = true from hs) Bool.false_ne_true
  | int i =>
    obtain ⟨t, rfl⟩ := rx
    cases y with
    | non => cases ry; exact PySem.EqNone.ne_int_none (fin_bl I q (by simp))
    | int j => obtain ⟨t', rfl⟩ := ry; exact ne_int (fin_bl I q (congrArg not dec_int))
    | str j => obtain ⟨t', rfl⟩ := ry; exact PySem.EqMixed.ne_int_str (fin_bl I q (by simp))
    | _ => exact absurd (show false = true from hs) Bool.false_ne_true
  | str i =>
    obtain ⟨t, rfl⟩ := rx
    cases y with
    | non => cases ry; exact PySem.EqNone.ne_str_none (fin_bl I q (by simp))
    | bl j => cases ry; exact PySem.EqMixed.ne_str_bool (fin_bl I q (by simp))
    | int j => obtain ⟨t', rfl⟩ := ry; exact PySem.EqMixed.ne_str_int (fin_bl I q (by simp))
    | str j => obtain ⟨t', rfl⟩ := ry; exact ne_str (fin_bl I q (congrArg not dec_str))
    | _ => exact absurd (show false = true from hs) Bool.false_ne_true
  | byt i =>
    obtain ⟨t, rfl⟩ := rx
    cases y with
    | byt j => obtain ⟨t', rfl⟩ := ry; exact PySem.W.ne_bytes (fin_bl I q (congrArg not dec_byt))
    | _ => exact absurd (show false = true from hs) Bool.false_ne_true
  | _ => cases y <;> exact absurd (show false = true from hs) Bool.false_ne_true

theorem op_lt : OpR X (compareOp .Lt) (rI0 fun i j => .bl (decide (i < j))) := opB0 fun _ _ _ _ _ _ _ q => lt_int q
theorem op_le : OpR X (compareOp .LtE) (rI0 fun i j => .bl (decide (i ≤ j))) := opB0 fun _ _ _ _ _ _ _ q => le_int q
theorem op_gt : OpR X (compareOp .Gt) (rI0 fun i j => .bl (decide (j < i))) := opB0 fun _ _ _ _ _ _ _ q => gt_int q
theorem op_ge : OpR X (compareOp .GtE) (rI0 fun i j => .bl (decide (j ≤ i))) := opB0 fun _ _ _ _ _ _ _ q => ge_int q

theorem op_isN : OpR X (compareOp .Is) (fun x y H Q => y = .non ∧ Q (.bl (decide (x = .non))) H) := by
  intro pins s σ H x y v u Q I rx ry h
  obtain ⟨rfl, q⟩ := h
  cases ry
  refine is_none_gen (fin_bl I q ?_)
  cases x <;> first
    | (cases rx; rfl)
    | (obtain ⟨t, rfl⟩ := rx; rfl)
theorem op_notN : OpR X (compareOp .IsNot) (fun x y H Q => y = .non ∧ Q (.bl (!decide (x = .non))) H) := by
  intro pins s σ H x y v u Q I rx ry h
  obtain ⟨rfl, q⟩ := h
  cases ry
  refine isnot_none_gen (fin_bl I q ?_)
  cases x <;> first
    | (cases rx; rfl)
    | (obtain ⟨t, rfl⟩ := rx; rfl)



theorem nomark (b : Expr) {op : CmpOp} (h : op ≠ .In := by decide) (h2 : op ≠ .NotIn := by decide) : behindInMarks op b = false := by
  have e1 : (op == CmpOp.In) = false := by cases op <;> first | rfl | exact absurd rfl h
  have e2 : (op == CmpOp.NotIn) = false := by cases op <;> first | rfl | exact absurd rfl h2
  cases b <;> simp [behindInMarks, e1, e2]
theorem pe_cmpR {op : CmpOp} {r : R2} (ho : OpR X (compareOp op) r) (ha : PE X a ta) (hb : PE X b tb) (hm : behindInMarks op b = false) : PE X (.Compare a [op] [b] pos) (tOp r ta tb) := by
  intro pins s σ H Q I h
  exact wpAny_Compare1 (binT ha hb I h fun v u s2 x y H2 I2 rx ry q => ho pins s2 σ H2 x y v u Q I2 rx ry q) hm
noncomputable def tTest (t : TE) : TT := fun σ H Q => t σ H fun x H' => ∃ k, x = .bl k ∧ Q k H'
theorem pt_cmpR {op : CmpOp} {r : R2} (ho : OpR X (compareOp op) r) (ha : PE X a ta) (hb : PE X b tb) (hm : behindInMarks op b = false) : PT X (.Compare a [op] [b] pos) (tTest (tOp r ta tb)) := by
  intro pins s σ H Q I h
  refine wpAny_isTrue_Compare1 (thn (ha pins s σ H _ I h) fun v s1 ⟨x, H1, I1, r1, q1⟩ => thn (hb pins s1 σ H1 _ I1 q1) fun u s2 ⟨y, H2, I2, r2, q2⟩ =>
    thn (ho pins s2 σ H2 x y v u _ I2 r1 r2 q2) fun c s3 ⟨z, H3, I3, r3, k, e, q3⟩ => ?_) hm
  subst e
  cases r3
  exact wpAny_truthy_bool ⟨H3, I3, q3⟩
noncomputable def tChain (r r' : R2) (ta tb tc : TE) : TE := fun σ H Q => ta σ H fun x H1 => tb σ H1 fun y H2 => r x y H2 fun z H3 => ∃ k, z = .bl k ∧
  (if k = true then tc σ H3 fun w' H4 => r' y w' H4 Q else Q (.bl false) H3)
theorem pe_chain {op op' : CmpOp} {r r' : R2} (ho : OpR X (compareOp op) r) (ho' : OpR X (compareOp op') r') (ha : PE X a ta) (hb : PE X b tb) (hc : PE X c tc)
    (hm : lastMarks [op, op'] [b, c] = false := by with_unfolding_all rfl) : PE X (.Compare a [op, op'] [b, c] pos) (tChain r r' ta tb tc) := by
  intro pins s σ H Q I h
  refine Compare_chain (thn (ha pins s σ H _ I h) fun v s1 ⟨x, H1, I1, r1, q1⟩ => chain_link (thn (hb pins s1 σ H1 _ I1 q1) fun u s2 ⟨y, H2, I2, r2, q2⟩ =>
    thn (ho pins s2 σ H2 x y v u _ I2 r1 r2 q2) fun d s3 ⟨z, H3, I3, r3, k, e, q3⟩ => ?_)) hm
  subst e
  cases r3
  refine wpAny_truthy_bool ?_
  cases k with
  | false => exact ite_ff ⟨.bl false, H3, I3, rfl, q3⟩
  | true => exact ite_tt (chain_last (thn (hc pins s3 σ H3 _ I3 q3) fun w' s4 ⟨z', H4, I4, r4, q4⟩ => ho' pins s4 σ H4 y z' u w' Q I4 r2 r4 q4))
theorem pt_chain {op op' : CmpOp} {r r' : R2} (ho : OpR X (compareOp op) r) (ho' : OpR X (compareOp op') r') (ha : PE X a ta) (hb : PE X b tb) (hc : PE X c tc)
    (hm : lastMarks [op, op'] [b, c] = false := by with_unfolding_all rfl) : PT X (.Compare a [op, op'] [b, c] pos) (tTest (tChain r r' ta tb tc)) := by
  intro pins s σ H Q I h
  refine isTrue_chain (thn (ha pins s σ H _ I h) fun v s1 ⟨x, H1, I1, r1, q1⟩ => test_link (thn (hb pins s1 σ H1 _ I1 q1) fun u s2 ⟨y, H2, I2, r2, q2⟩ =>
    thn (ho pins s2 σ H2 x y v u _ I2 r1 r2 q2) fun d s3 ⟨z, H3, I3, r3, k, e, q3⟩ => ?_)) hm
  subst e
  cases r3
  refine wpAny_truthy_bool ?_
  cases k with
  | false =>
    obtain ⟨k', e', q'⟩ := q3
    cases e'
    exact ite_ff ⟨H3, I3, q'⟩
  | true =>
    refine ite_tt (test_last (thn (hc pins s3 σ H3 _ I3 q3) fun w' s4 ⟨z', H4, I4, r4, q4⟩ => thn (ho' pins s4 σ H4 y z' u w' _ I4 r2 r4 q4) fun d' s5 zz => ?_))
    obtain ⟨z2, H5, I5, r5, k2, e2, q5⟩ := zz
    subst e2
    cases r5
    exact wpAny_truthy_bool ⟨H5, I5, q5⟩

theorem line63 : (sizeLine : Nat) < 2 ^ 63 := by rw [sizeLine_eq]; decide



theorem vals1 {x : V} {us : List Value} (r : Vals [x] us) : ∃ u, us = [u] ∧ RelV x u := by
  cases r with
  | cons r1 r2 => cases r2; exact ⟨_, rfl, r1⟩
theorem vals2 {x y : V} {us : List Value} (r : Vals [x, y] us) : ∃ u w', us = [u, w'] ∧ RelV x u ∧ RelV y w' := by
  cases r with
  | cons r1 r2 =>
    cases r2 with
    | cons r3 r4 => cases r4; exact ⟨_, _, rfl, r1, r3⟩
theorem call_max2 (hc : X.calm = true) : CallR X (.builtin "max") (fun xs H Q => ∃ i j, xs = [.int i, .int j] ∧ Q (.int (if j > i then j else i)) H) := by
  intro pins s σ H xs us Q I r h
  obtain ⟨i, j, rfl, q⟩ := h
  obtain ⟨u, w', rfl, ⟨t, rfl⟩, ⟨t', rfl⟩⟩ := vals2 r
  refine max_two_ints (I.ok.hd hc) fun h' tk k => ⟨_, H, I.kept k, ?_, q⟩
  by_cases hj : j > i
  · rw [if_pos hj, if_pos hj]; exact ⟨_, rfl⟩
  · rw [if_neg hj, if_neg hj]; exact ⟨_, rfl⟩
theorem call_int1 : CallR X (.type "int") (fun xs H Q => (∃ i, xs = [.int i] ∧ Q (.int i) H) ∨ ∃ k, xs = [.bl k] ∧ Q (.int (if k then 1 else 0)) H) := by
  intro pins s σ H xs us Q I r h
  rcases h with ⟨i, rfl, q⟩ | ⟨k, rfl, q⟩
  · obtain ⟨u, rfl, t, rfl⟩ := vals1 r
    exact call_int_int ⟨.int i, H, I, ⟨_, rfl⟩, q⟩
  · obtain ⟨u, rfl, r1⟩ := vals1 r
    cases r1
    exact call_int_bool ⟨.int (if k then 1 else 0), H, I.tok _, ⟨_, rfl⟩, q⟩
end
end L2

namespace L2
open PySem PySem.Spec PyProof.Rows

structure ObjM (h : Heap) (x dx C : Addr) (mA : Str → Option Value) : Prop where
  obj : h.get? x = some (PySem.W.instObj C dx)
  ns : h.Ns1 dx mA
  ne : dx ≠ x

theorem lookIn_ns {h : Heap} {dx : Addr} {mA : Str → Option Value} (n : h.Ns1 dx mA) : ∃ od, h.get? dx = some od ∧ ∀ name, PySem.W.lookIn name od = some (mA name) := by
  obtain ⟨o, es, ep, ho, hd, hk, _, hm⟩ := n
  refine ⟨o, ho, fun name => ?_⟩
  have e := hm name
  unfold nsFind findBy at e
  rw [← Array.find?_toList] at e
  unfold PySem.W.lookIn
  rw [hd]
  dsimp only
  split
  · rename_i y q
    rw [q] at e
    exact congrArg some e
  · rename_i q
    rw [q] at e
    have a : es.toList.any (·.refKey) = false := by
      rw [List.any_eq_false]
      intro y hy
      obtain ⟨z, t, hkey⟩ := hk y (Array.mem_toList_iff.mp hy)
      simp [DictEntry.refKey, hkey]
    have a' : ¬ es.toList.any (·.refKey) = true := by rw [a]; exact Bool.false_ne_true
    rw [if_neg a']
    exact congrArg some e

theorem ObjM.look {h : Heap} {x dx C : Addr} {mA : Str → Option Value} (I : ObjM h x dx C mA) : ∃ od, PySem.W.InstAt h x (PySem.W.instObj C dx) C (some od) ∧ ∀ name, PySem.W.lookIn name od = some (mA name) :=
  let ⟨od, ho, hl⟩ := lookIn_ns I.ns
  ⟨od, ⟨I.obj, rfl, rfl, ho⟩, hl⟩

section
variable {prog : Program} {w : World} {A : Around} {E : Value → Shared → Prop} {s : Shared} {K : PySem.W.Frag} {x dx C f : Addr} {mA : Str → Option Value} {name : Str} {v : Value}

theorem get_map {expr : Bool} {Q : Value → Shared → Prop} (X : K.In s.heap) (I : ObjM s.heap x dx C mA) (hg : PySem.W.plainGet K C name = true) (hh : PySem.W.hasDictIn K C = true)
    (ha : PySem.W.findIn K (.ref C) name = some none) (hv : mA name = some v) (hv' : PySem.W.handedIn v = true) (h : Q v { s with toks := s.toks + 1 }) :
    wpAny (model prog w) A (getAttr (.ref x) name expr) Q E s := by
  obtain ⟨od, J, hl⟩ := I.look
  exact PySem.W.get_value X J (PySem.W.plainGet_of hg).1 (PySem.W.findObj_own hh ha rfl (by rw [hl, hv])) hv' h


theorem get_meth {pl : Sem Bool} {Q : Value × List Value → Shared → Prop} (X : K.In s.heap) (I : ObjM s.heap x dx C mA) (hg : PySem.W.plainGet K C name = true)
    (hf : PySem.W.findIn K (.ref C) name = some (some (.ref f))) (ht : PySem.W.isFn K (.ref f) = true) (hv : mA name = none) (h : Q (.ref f, [.ref x]) s) :
    wpAny (model prog w) A (getMethod (.ref x) name pl) Q E s := by
  obtain ⟨od, J, hl⟩ := I.look
  exact PySem.W.method_fn X J (PySem.W.plainGet_of hg).1 (PySem.W.plainGet_of hg).2 hf (beq_iff_eq.mp ht) (by show (PySem.W.lookIn name od).map (·.isSome) = some false; rw [hl, hv]; rfl) h

theorem set_map {ns : List Str} {Q : Unit → Shared → Prop} (X : K.In s.heap) (I : ObjM s.heap x dx C mA)
    (hs : PySem.W.findIn K (.ref C) "__setattr__" = some (some (.builtin "object.__setattr__"))) (hp : PySem.W.plainOver K C = true) (ht : PySem.W.takerIn K C name = some none) (hh : PySem.W.hasDictIn K C = true)
    (hw : PySem.Within mA ns) (hsz : ns.length ≤ sizeLine)
    (h : ∀ h', ObjM h' x dx C (fun y => if y = name then some v else mA y) → Heap.SameBut dx s.heap h' → Q () { s with heap := h', toks := s.toks + 2 }) :
    wpAny (model prog w) A (setAttr (.ref x) name v) Q E s := by
  obtain ⟨od, J, hl⟩ := I.look
  refine PySem.W.set_plain X J hs (PySem.W.osa_open (s := { s with toks := s.toks + 1 }) (r := none) X J hp ht fun b => ?_)
  obtain ⟨cd, hc, hd'⟩ := PySem.W.any_some hh
  have hx : s.heap.get? x = some ⟨.ref C, some dx, .plain, #[]⟩ := I.obj
  refine wpAny_bind (wpAny_pure (wpAny_bind (wpAny_bind (wpAny_loadPart hx (wpAny_bind (PySem.W.Looks.here (s := { s with toks := s.toks + 1 }) (PySem.W.looks_clsIn X hc) ?_))))))
  rw [hd']
  refine wpAny_pure (a := some dx) (wpAny_bind (wpAny_pure (wpAny_bind ?_)))
  refine wpAny_nsSet1 (s := { s with toks := s.toks + 1 }) I.ns fun h' hn2 hs2 => ?_
  obtain ⟨oD, esD, epD, hoD, hdD, hcD⟩ := hn2.count (PySem.Within.cons name v hw)
  refine wpAny_bind (wpAny_lookBehind hoD (by rw [hdD]; exact pastItsLine_dict (Nat.le_trans hcD (by rw [List.length_cons]; omega))) ?_)
  exact wpAny_pure (h _ ⟨(hs2.2 _ (Ne.symm I.ne)).trans I.obj, hn2, I.ne⟩ hs2)

theorem make_map {R : Result → Shared → Prop} {vs : List Value} {kw : List (Str × Value)} (X : K.In s.heap) (hm : PySem.W.makesIn K C = true)
    (hi : PySem.W.findIn K (.ref C) "__init__" = some (some (.ref f))) (hf : PySem.W.typeIn K (.ref f) = some (.type "function"))
    (h : codeAny (model prog w) (A.under (.builtin "type.__call__" ⟨.ref C :: vs, kw⟩)) (.call (.ref f) ⟨.ref (s.heap.objs.size + 1) :: vs, kw⟩) (PySem.W.InitBack (s.heap.objs.size + 1) R)
      { s with heap := (s.heap.push PySem.W.emptyDict).push (PySem.W.instObj C s.heap.objs.size) }) :
    codeAny (model prog w) A (.call (.ref C) ⟨vs, kw⟩) R s := by
  obtain ⟨hh, g, d, t, os⟩ := s
  exact PySem.W.make_core (PySem.W.makes_of X hm) (PySem.W.looks_findIn X hi) (fun self => PySem.W.bind_fn X self hf) (.inl rfl) h
end

noncomputable def putF (f : Str) (v : V) : List (Str × V) → List (Str × V)
  | [] => [(f, v)]
  | (g, x) :: r => if g = f then (g, v) :: r else (g, x) :: putF f v r
theorem lookup_putF (f g : Str) (v : V) : ∀ fs : List (Str × V), (putF f v fs).lookup g = if g = f then some v else fs.lookup g
  | [] => by
    show List.lookup g [(f, v)] = _
    by_cases h : g = f
    · have hb : (g == f) = true := beq_iff_eq.mpr h
      simp only [List.lookup, hb, if_pos h]
    · have hb : (g == f) = false := beq_eq_false_iff_ne.mpr h
      simp only [List.lookup, hb, if_neg h]
  | (k, x) :: r => by
    have ih := lookup_putF f g v r
    rw [show putF f v ((k, x) :: r) = (if k = f then (k, v) :: r else (k, x) :: putF f v r) from rfl]
    by_cases hk : k = f
    · rw [if_pos hk]
      by_cases h : g = k
      · have hb : (g == k) = true := beq_iff_eq.mpr h
        simp only [List.lookup, hb, if_pos (h.trans hk)]
      · have hb : (g == k) = false := beq_eq_false_iff_ne.mpr h
        simp only [List.lookup, hb, if_neg (fun e : g = f => h (e.trans hk.symm))]
    · rw [if_neg hk]
      by_cases h : g = k
      · have hb : (g == k) = true := beq_iff_eq.mpr h
        simp only [List.lookup, hb, if_neg (fun e : g = f => hk (h.symm.trans e))]
      · have hb : (g == k) = false := beq_eq_false_iff_ne.mpr h
        simp only [List.lookup, hb]
        exact ih
theorem keys_putF (f : Str) (v : V) : ∀ fs : List (Str × V), f ∈ (putF f v fs).map (·.1) ∧ ∀ g, g ∈ fs.map (·.1) → g ∈ (putF f v fs).map (·.1)
  | [] => ⟨by simp [putF], fun g h => by simp at h⟩
  | (k, x) :: r => by
    obtain ⟨i1, i2⟩ := keys_putF f v r
    rw [show putF f v ((k, x) :: r) = (if k = f then (k, v) :: r else (k, x) :: putF f v r) from rfl]
    by_cases hk : k = f
    · rw [if_pos hk]
      subst hk
      exact ⟨by simp, fun g h => by simpa using h⟩
    · rw [if_neg hk]
      refine ⟨?_, fun g h => ?_⟩
      · rw [List.map_cons]
        exact List.mem_cons_of_mem _ i1
      · rw [List.map_cons] at h ⊢
        rcases List.mem_cons.mp h with e | e
        · exact List.mem_cons.mpr (.inl e)
        · exact List.mem_cons_of_mem _ (i2 g e)
theorem length_putF (f : Str) (v : V) : ∀ fs : List (Str × V), (putF f v fs).length ≤ fs.length + 1
  | [] => by simp [putF]
  | (k, x) :: r => by
    have ih := length_putF f v r
    rw [show putF f v ((k, x) :: r) = (if k = f then (k, v) :: r else (k, x) :: putF f v r) from rfl]
    by_cases hk : k = f
    · rw [if_pos hk, List.length_cons, List.length_cons]; omega
    · rw [if_neg hk, List.length_cons, List.length_cons]; omega

theorem RelO.some_of {v : V} {o : Option Value} (r : RelO (some v) o) : ∃ u, o = some u ∧ RelV v u := by
  cases o with
  | none => exact (show False from r).elim
  | some u => exact ⟨u, rfl, r⟩
theorem RelO.none_of {o : Option Value} (r : RelO none o) : o = none := by
  cases o with
  | none => rfl
  | some u => exact (show False from r).elim
theorem handed_of {v : V} {u : Value} (r : RelV v u) : PySem.W.handedIn u = true := by
  cases v with
  | non => cases (show u = Value.none from r); rfl
  | bl b => cases (show u = Value.bool b from r); rfl
  | int i => obtain ⟨t, e⟩ := (show ∃ t, u = Value.int i t from r); cases e; rfl
  | str x => obtain ⟨t, e⟩ := (show ∃ t, u = Value.str x t from r); cases e; rfl
  | byt b => obtain ⟨t, e⟩ := (show ∃ t, u = Value.bytes b t from r); cases e; rfl
  | flt b => obtain ⟨t, e⟩ := (show ∃ t, u = Value.float b t from r); cases e; rfl
  | ref a => cases (show u = Value.ref a from r); rfl
  | ty n => cases (show u = Value.type n from r); rfl

section
variable {P : Program} {w : World} {H H' : Hp} {h h' : Heap} {a C dx : Addr} {fs fs' : List (Str × V)}
theorem ins_get (hok : HOk P w H h) (e : H a = some (.ins C dx fs)) : ∃ mA, ObjM h a dx C mA ∧ (∀ f, RelO (fs.lookup f) (mA f)) ∧ PySem.Within mA (fs.map (·.1)) ∧ fs.length ≤ 1000 ∧ H dx = some (.own a) := by
  obtain ⟨d, z, ne, ob, mA, n, r, q⟩ := (show ObjOk P w H h a (.ins C dx fs) from hok a _ e)
  exact ⟨mA, ⟨ob, n, ne⟩, r, q, z, d⟩
end

structure Cls (K : PySem.W.Frag) (C : Addr) : Prop where
  pg : PySem.W.plainGet K C Str.empty = true
  hd : PySem.W.hasDictIn K C = true
  po : PySem.W.plainOver K C = true
  sa : PySem.W.findIn K (.ref C) "__setattr__" = some (some (.builtin "object.__setattr__"))
theorem Cls.get {K : PySem.W.Frag} {C : Addr} (c : Cls K C) (f : Str) : PySem.W.plainGet K C f = true := c.pg
noncomputable def NoAttr (K : PySem.W.Frag) (C : Addr) (f : Str) : Prop := PySem.W.findIn K (.ref C) f = some none
theorem NoAttr.taker {K : PySem.W.Frag} {C : Addr} {f : Str} (n : NoAttr K C f) : PySem.W.takerIn K C f = some none := by
  unfold PySem.W.takerIn
  rw [show PySem.W.findIn K (.ref C) f = some none from n]
  rfl
structure Meth (K : PySem.W.Frag) (C : Addr) (m : Str) (f : Addr) : Prop where
  at_ : PySem.W.findIn K (.ref C) m = some (some (.ref f))
  fn : PySem.W.isFn K (.ref f) = true
  kp : PySem.W.keepIn K (.ref f) = true

section
variable {X : Cx} {pins : List (Addr × Obj)} {σ : St} {H : Hp} {s : Shared} {a C dx : Addr} {fs : List (Str × V)} {f : Str} {v : V} {A : Around} {E : Value → Shared → Prop}

theorem getattr_ok {b : Bool} {Q : Value → Shared → Prop} (I : Inv X pins σ H s) (e : H a = some (.ins C dx fs)) (c : Cls X.K C) (n : NoAttr X.K C f) (l : fs.lookup f = some v)
    (h : ∀ u s', Inv X pins σ H s' → RelV v u → Q u s') : wpAny (model X.prog X.w) A (getAttr (.ref a) f b) Q E s := by
  obtain ⟨mA, O, r, _, _, _⟩ := ins_get I.hok e
  obtain ⟨u, hu, ru⟩ := RelO.some_of (v := v) (o := mA f) (by rw [← l]; exact r f)
  exact get_map I.kIn O (c.get f) c.hd n hu (handed_of ru) (h u _ (I.tok _) ru)


theorem getmeth_ok {m : Str} {g : Addr} {pl : Sem Bool} {Q : Value × List Value → Shared → Prop} (I : Inv X pins σ H s) (e : H a = some (.ins C dx fs)) (c : Cls X.K C) (k : Meth X.K C m g) (l : fs.lookup m = none)
    (h : Q (.ref g, [.ref a]) s) : wpAny (model X.prog X.w) A (getMethod (.ref a) m pl) Q E s := by
  obtain ⟨mA, O, r, _, _, _⟩ := ins_get I.hok e
  have hn : mA m = none := RelO.none_of (by rw [← l]; exact r m)
  exact get_meth I.kIn O (c.get m) k.at_ k.fn hn h

theorem setattr_ok {y : V} {u : Value} {Q : Unit → Shared → Prop} (I : Inv X pins σ H s) (e : H a = some (.ins C dx fs)) (c : Cls X.K C) (n : NoAttr X.K C f) (hl : fs.length < 1000) (ry : RelV y u)
    (h : ∀ s', Inv X pins σ (upd H a (.ins C dx (putF f y fs))) s' → Q () s') : wpAny (model X.prog X.w) A (setAttr (.ref a) f u) Q E s := by
  obtain ⟨mA, O, r, wi, _, ho⟩ := ins_get I.hok e
  have hz : (fs.map (·.1)).length ≤ sizeLine := by rw [List.length_map, sizeLine_eq]; omega
  refine set_map I.kIn O c.sa c.po n.taker c.hd wi hz fun h' O' sb => h _ ?_
  have hd : ∃ o, h'.get? dx = some o := let ⟨o, _, _, e', _⟩ := O'.ns; ⟨o, e'⟩
  refine I.write (x := a) (e := dx) (by rw [e]; exact True.intro) (.inr ho) (fun b q hb z => (sb.2 b hb).trans z) hd ?_
  refine ⟨by rw [upd_ne O.ne]; exact ho, ?_, O.ne, O'.obj, _, O'.ns, fun g => ?_, fun g hg => ?_⟩
  · have := length_putF f y fs; omega
  · show RelO ((putF f y fs).lookup g) (if g = f then some u else mA g)
    rw [lookup_putF]
    by_cases q : g = f
    · rw [if_pos q, if_pos q]; exact ry
    · rw [if_neg q, if_neg q]; exact r g
  · by_cases q : g = f
    · rw [q]; exact (keys_putF f y fs).1
    · refine (keys_putF f y fs).2 g (wi g fun z => hg ?_)
      show (if g = f then some u else mA g) = none
      rw [if_neg q]; exact z

theorem Inv.made (I : Inv X pins σ H s) : Inv X pins σ (upd (upd H s.heap.objs.size (.own (s.heap.objs.size + 1))) (s.heap.objs.size + 1) (.ins C s.heap.objs.size []))
    { s with heap := (s.heap.push PySem.W.emptyDict).push (PySem.W.instObj C s.heap.objs.size) } := by
  have e1 : (s.heap.push PySem.W.emptyDict).get? s.heap.objs.size = some PySem.W.emptyDict := Heap.get?_push_size s.heap rfl
  have e2 : ((s.heap.push PySem.W.emptyDict).push (PySem.W.instObj C s.heap.objs.size)).get? (s.heap.objs.size + 1) = some (PySem.W.instObj C s.heap.objs.size) := by
    have := Heap.get?_push_size (s.heap.push PySem.W.emptyDict) (o := PySem.W.instObj C s.heap.objs.size) rfl
    rwa [Heap.size_push] at this
  have e3 : (s.heap.push PySem.W.emptyDict).Ns s.heap.objs.size (fun _ => none) := ⟨PySem.W.emptyDict, #[], _, e1, rfl, (fun e he => absurd he (by simp)), fun _ => rfl⟩
  have I1 := I.laid (a := s.heap.objs.size) (o := .own (s.heap.objs.size + 1)) (h' := s.heap.push PySem.W.emptyDict) (t' := s.toks) (fun b u q => Heap.get?_push_of_some _ q) (Nat.le_refl _) ⟨_, e1⟩
  refine I1.laid (a := s.heap.objs.size + 1) (o := .ins C s.heap.objs.size []) (t' := s.toks) (fun b u q => Heap.get?_push_of_some _ q) (Nat.le_of_eq (Heap.size_push _ _)) ?_
  have ne : s.heap.objs.size ≠ s.heap.objs.size + 1 := Nat.ne_of_lt (Nat.lt_succ_self _)
  refine ⟨by rw [upd_ne ne, upd_same], Nat.zero_le _, ne, e2, fun _ => none, (Heap.Ns1.of_empty e3).at fun o q => Heap.get?_push_of_some _ q, fun _ => True.intro, fun y hy => absurd rfl hy⟩

theorem attr_of {prog : Program} {w : World} {env : Env} {e : Expr} {f : Str} {pos : Pos} {s : Shared} {Q : Value → Shared → Prop} (hb : attributeBase e f env (eval e env) = eval e env)
    (h : wpAny (model prog w) A (eval e env) (fun o s₁ => wpAny (model prog w) A (getAttr o f true) Q E s₁) E s) : wpAny (model prog w) A (eval (.Attribute e f pos) env) Q E s :=
  Attribute_any_ h (by rw [arm_eval_Attribute, hb])
end

noncomputable def tFld (K : PySem.W.Frag) (ta : TE) (f : Str) : TE := fun σ H Q => ta σ H fun x H1 => ∃ a C dx fs v, x = .ref a ∧ H1 a = some (.ins C dx fs) ∧ Cls K C ∧ NoAttr K C f ∧ fs.lookup f = some v ∧ Q v H1
noncomputable def sFld (K : PySem.W.Frag) (ta tv : TE) (f : Str) : TS := fun D σ H => tv σ H fun y H1 => ta σ H1 fun x H2 => ∃ a C dx fs, x = .ref a ∧ H2 a = some (.ins C dx fs) ∧ Cls K C ∧ NoAttr K C f ∧ fs.length < 1000 ∧
  D.nx σ (upd H2 a (.ins C dx (putF f y fs)))

section
variable {X : Cx} {o e value : Expr} {f : Str} {pos pos' tpos : Pos} {ta tv : TE}
theorem pe_fld (he : PE X e ta) (hb : attributeBase e f X.env (eval e X.env) = eval e X.env) : PE X (.Attribute e f pos) (tFld X.K ta f) := by
  intro pins s σ H Q I h
  refine attr_of hb (thn (he pins s σ H _ I h) fun u s1 zz => ?_)
  obtain ⟨x, H1, I1, rx, a, C, dx, fs, v, ex, ea, c, n, l, q⟩ := zz
  subst ex
  obtain rfl : u = Value.ref a := rx
  exact getattr_ok I1 ea c n l fun u' s2 I2 ru => ⟨v, H1, I2, ru, q⟩
theorem ps_fld (ha : PE X o ta) (hv : PE X value tv) (hs : swapsWith value (some (.Attribute o f pos')) pos.line X.env = pure false) : PS X (.Assign [.Attribute o f pos'] value pos) (sFld X.K ta tv f) := by
  intro pins s σ H D I h
  refine plainObj_wpAny_Assign_Attribute (thn (hv pins s σ H _ I h) fun u s1 ⟨y, H1, I1, ry, q⟩ => thn (ha pins s1 σ H1 _ I1 q) fun ov s2 ⟨x, H2, I2, rx, a, C, dx, fs, ex, ea, c, n, l, q2⟩ => ?_) hs
  subst ex
  obtain rfl : ov = Value.ref a := rx
  exact setattr_ok I2 ea c n l ry fun s3 I3 => ⟨σ, _, I3, q2⟩

end

section
variable {X : Cx} {pins : List (Addr × Obj)} {σ : St} {H : Hp} {s : Shared} {A : Around} {E : Value → Shared → Prop} {Q : Value → Shared → Prop} {c : Value} {b : Bool}
inductive TyOf (K : PySem.W.Frag) (H : Hp) : V → Value → Prop where
  | non : TyOf K H .non (.type "NoneType")
  | bl (x : Bool) : TyOf K H (.bl x) (.type "bool")
  | int (i : Int) : TyOf K H (.int i) (.type "int")
  | str (x : Str) : TyOf K H (.str x) (.type "str")
  | flt (x : UInt64) : TyOf K H (.flt x) (.type "float")
  | lst {a : Addr} {xs : List V} (e : H a = some (.lst xs)) : TyOf K H (.ref a) (.type "list")
  | frz {a : Addr} {o : Obj} {xs : List V} (e : H a = some (.frz o (.lst xs))) : TyOf K H (.ref a) (.type "list")
  | tup {a : Addr} {xs : List V} (e : H a = some (.tup xs)) : TyOf K H (.ref a) (.type "tuple")
  | dK {a : Addr} {kvs : List (Key × V)} (e : H a = some (.dK kvs)) : TyOf K H (.ref a) (.type "dict")
  | dT {a : Addr} {kvs : List (List Key × V)} (e : H a = some (.dT kvs)) : TyOf K H (.ref a) (.type "dict")
  | ins {a C dx : Addr} {fs : List (Str × V)} (e : H a = some (.ins C dx fs)) (cl : Cls K C) (ha : PySem.W.findIn K (.ref C) "__class__" = some (some (.builtin "object.__class__")))
      (hn : PySem.W.specialIn K (.builtin "object.__class__") "__get__" = some (some (.builtin "getset_descriptor.__get__"))) (htk : PySem.W.takesIn K (.builtin "object.__class__") = some true)
      (hm : PySem.W.mroIn K C (.type "object") = some true) : TyOf K H (.ref a) (.ref C)
theorem isinst_ok {x : V} {u t : Value} (I : Inv X pins σ H s) (rx : RelV x u) (ty : TyOf X.K H x t) (e : PySem.W.kitOne X.K t c = some b) (h : ∀ tk, Q (.bool b) { s with toks := tk }) :
    wpAny (model X.prog X.w) A (call (.builtin "isinstance") [u, c]) Q E s := by
  cases ty with
  | non => cases (show u = Value.none from rx); exact PySem.W.kia_one PySem.W.kitx_none I.kIn True.intro e (fun z => nomatch z) h
  | bl y => cases (show u = Value.bool y from rx); exact PySem.W.kia_one PySem.W.kitx_bool I.kIn True.intro e (fun z => nomatch z) h
  | int i => obtain ⟨t, q⟩ := (show ∃ t, u = Value.int i t from rx); cases q; exact PySem.W.kia_one PySem.W.kitx_int I.kIn True.intro e (fun z => nomatch z) h
  | str y => obtain ⟨t, q⟩ := (show ∃ t, u = Value.str y t from rx); cases q; exact PySem.W.kia_one PySem.W.kitx_str I.kIn True.intro e (fun z => nomatch z) h
  | flt y => obtain ⟨t, q⟩ := (show ∃ t, u = Value.float y t from rx); cases q; exact PySem.W.kia_one PySem.W.kitx_float I.kIn True.intro e (fun z => nomatch z) h
  | @lst a xs ea =>
    cases (show u = Value.ref a from rx)
    obtain ⟨_, _, n, _, h1⟩ := (show ObjOk X.prog X.w H s.heap a (.lst xs) from I.hok a _ ea)
    exact PySem.W.kia_one PySem.W.kitx_list I.kIn ⟨_, h1, rfl⟩ e (fun z => nomatch z) h
  | @frz a ob xs ea =>
    cases (show u = Value.ref a from rx)
    obtain ⟨_, _, _, n, _, h1⟩ := (show ObjOk X.prog X.w H s.heap a (.frz ob (.lst xs)) from I.hok a _ ea)
    exact PySem.W.kia_one PySem.W.kitx_list I.kIn ⟨_, h1, rfl⟩ e (fun z => nomatch z) h
  | @tup a xs ea =>
    cases (show u = Value.ref a from rx)
    obtain ⟨_, _, _, p⟩ := (show ObjOk X.prog X.w H s.heap a (.tup xs) from I.hok a _ ea)
    obtain ⟨o, h1, h2, _⟩ := p
    exact PySem.W.kia_one PySem.W.kitx_tuple I.kIn ⟨o, h1, h2⟩ e (fun z => nomatch z) h
  | @dK a kvs ea =>
    cases (show u = Value.ref a from rx)
    obtain ⟨_, _, vs, _, p⟩ := (show ObjOk X.prog X.w H s.heap a (.dK kvs) from I.hok a _ ea)
    obtain ⟨o, es, ep, h1, h2, _⟩ := p
    exact PySem.W.kia_one PySem.W.kitx_dict I.kIn ⟨o, h1, h2.1⟩ e (fun z => nomatch z) h
  | @dT a kvs ea =>
    cases (show u = Value.ref a from rx)
    obtain ⟨_, _, xs, _, o, es, ep, h1, h2, _⟩ := (show ObjOk X.prog X.w H s.heap a (.dT kvs) from I.hok a _ ea)
    exact PySem.W.kia_one PySem.W.kitx_dict I.kIn ⟨o, h1, h2.1⟩ e (fun z => nomatch z) h
  | @ins a C dx fs ea cl ha hn htk hm =>
    cases (show u = Value.ref a from rx)
    obtain ⟨mA, O, _⟩ := ins_get I.hok ea
    obtain ⟨od, J, _⟩ := O.look
    exact PySem.W.kia_one (PySem.W.kitx_own (cl.get _) cl.hd ha hn htk hm) I.kIn J e (fun z => nomatch z) h
end
end L2

namespace L2
open PySem PySem.Spec PyProof.Rows

structure Room (k : Nat) (A : Around) : Prop where
  hd : A.handled = none
  dp : A.depth + 3 * k + 5 < recursionLimit
  un : A.units + 16 * k + 200 < cLine
theorem Room.mono {j k : Nat} {A : Around} (r : Room k A) (h : j ≤ k) : Room j A := ⟨r.hd, by have := r.dp; omega, by have := r.un; omega⟩
theorem Room.deeper {k : Nat} {A : Around} (r : Room (k + 1) A) (env : Env) : Room k (A.deeper env) :=
  ⟨r.hd, by have := r.dp; show A.depth + 1 + 3 * k + 5 < _; omega, by have := r.un; show A.units + 3 + 16 * k + 200 < _; omega⟩
theorem make_depth {A : Around} {C : Addr} {us : List Value} {kw : List (Str × Value)} : (A.under (.builtin "type.__call__" ⟨.ref C :: us, kw⟩)).depth = A.depth + 1 := by
  first | rfl | simp [Around.under, Code.weight, Code.isCreation, Code.isGuard, Code.isCaller, Code.frames, Code.isFrame, guardIds]
theorem make_units {A : Around} {C : Addr} {us : List Value} {kw : List (Str × Value)} : (A.under (.builtin "type.__call__" ⟨.ref C :: us, kw⟩)).units = A.units + 1 := by
  first | rfl | simp [Around.under, Code.cUnits, Code.frames, Code.isFrame]
theorem Room.make {k : Nat} {A : Around} (r : Room (k + 1) A) (C : Addr) (us : List Value) (kw : List (Str × Value)) : Room k (A.under (.builtin "type.__call__" ⟨.ref C :: us, kw⟩)) :=
  ⟨r.hd, by have := r.dp; rw [make_depth]; omega, by have := r.un; rw [make_units]; omega⟩
theorem Room.depth {k : Nat} {A : Around} (r : Room k A) : A.depth < recursionLimit := by have := r.dp; omega
theorem Room.units {k : Nat} {A : Around} (r : Room k A) : A.units + 64 < cLine := by have := r.un; omega

noncomputable def tNil : TA := fun _ H Q => Q [] H
noncomputable def tCons (ta : TE) (tr : TA) : TA := fun σ H Q => ta σ H fun x H1 => tr σ H1 fun xs H2 => Q (x :: xs) H2
section
variable {X : Cx} {e : Expr} {es : List Expr} {te : TE} {t : TA} {pos : Pos}
theorem pa_nil : PA X [] tNil := fun _ _ _ _ H Q I h => Calls.spliced_nil ⟨[], H, I, .nil, h⟩
theorem pa_cons (ha : PE X e te) (hr : PA X es t) (hs : starEach (e :: es) X.env = (false, eval e X.env) :: starEach es X.env := by rfl) : PA X (e :: es) (tCons te t) := by
  intro pos pins s σ H Q I h
  rw [hs]
  show wpAny _ _ (spliced ((false, eval e X.env) :: backTo pos (starEach es X.env))) _ _ s
  refine Calls.spliced_cons (thn (ha pins s σ H _ I h) fun u s1 zz => ?_)
  obtain ⟨x, H1, I1, r1, q1⟩ := zz
  exact thn (hr pos pins s1 σ H1 _ I1 q1) fun us s2 ⟨xs, H2, I2, r2, q2⟩ => ⟨x :: xs, H2, I2, .cons r1 r2, q2⟩

noncomputable def tTup (t : TA) : TE := fun σ H Q => t σ H fun xs H1 => xs.length ≤ sizeLine ∧ ∀ p, H1 p = none → Q (.ref p) (upd H1 p (.tup xs))
noncomputable def tLst (t : TA) : TE := fun σ H Q => t σ H fun xs H1 => xs.length ≤ sizeLine ∧ ∀ p, H1 p = none → Q (.ref p) (upd H1 p (.lst xs))
theorem pe_tup {x1} (h : PA X es t) : PE X (.Tuple es x1 pos) (tTup t) := by
  intro pins s σ H Q I hq
  refine wpAny_Tuple_spliced (thn (h pos pins s σ H _ I hq) fun us s1 ⟨xs, H1, I1, r, z, q⟩ => ⟨by rw [← r.length]; exact z, ?_⟩)
  have hf : H1 s1.heap.objs.size = none := I1.hok.fresh (Nat.le_refl _)
  refine ⟨.ref s1.heap.objs.size, upd H1 s1.heap.objs.size (.tup xs), I1.laid (t' := s1.toks) (fun b u e => Heap.get?_push_of_some _ e) (Nat.le_refl _) ?_, rfl, q _ hf⟩
  exact ⟨z, us, r, ⟨_, Heap.get?_push_size _ rfl, rfl, _, rfl⟩⟩
theorem pe_lst (h : PA X es t) : PE X (.List es pos) (tLst t) := by
  intro pins s σ H Q I hq
  refine wpAny_List_spliced (thn (h pos pins s σ H _ I hq) fun us s1 ⟨xs, H1, I1, r, z, q⟩ => ⟨by rw [← r.length]; exact z, ?_⟩)
  have hf : H1 s1.heap.objs.size = none := I1.hok.fresh (Nat.le_refl _)
  refine ⟨.ref s1.heap.objs.size, upd H1 s1.heap.objs.size (.lst xs), I1.laid (t' := s1.toks) (fun b u e => Heap.get?_push_of_some _ e) (Nat.le_refl _) ?_, rfl, q _ hf⟩
  exact ⟨z, us, 0, r, Heap.get?_push_size _ rfl⟩
end

noncomputable abbrev Sp := List V → Hp → VK → XK → Prop
noncomputable abbrev CXT := List Env → Hp → Shared → XK → Value → Shared → Prop

structure Env0 (P : Program) (w : World) (K : PySem.W.Frag) (mg : Str → Option Value) (base : Heap) (A : Around) (outer : List Env) (s : Shared) (H : Hp) : Prop where
  frames : A.frames = some outer
  mod : Mod K mg base
  bs : ∀ b o, base.get? b = some o → s.heap.get? b = some o ∧ H b = none
  bsz : base.objs.size ≤ s.heap.objs.size
  funs : s.heap.FunFrames base outer
  frf : ∀ b ∈ frs outer, H b = none
  hok : HOk P w H s.heap
  bare : AllBare s.gens
noncomputable def CE (outer : List Env) (P : Program) (w : World) (H : Hp) (s : Shared) (Q : VK) (u : Value) (s' : Shared) : Prop :=
  ∃ v H', s'.os = s.os ∧ AllBare s'.gens ∧ Un (frs outer) [] H H' s.heap s'.heap ∧ HOk P w H' s'.heap ∧ RelV v u ∧ Q v H'
noncomputable def CR (CX : CXT) (outer : List Env) (P : Program) (w : World) (H : Hp) (s : Shared) (Q : VK) (E : XK) (r : Result) (s' : Shared) : Prop :=
  match r with
  | .ok (.ret u) => CE outer P w H s Q u s'
  | .ok _ => False
  | .error e => CX outer H s E e s'
structure FnOk (P : Program) (w : World) (K : PySem.W.Frag) (mg : Str → Option Value) (base : Heap) (CX : CXT) (k : Nat) (f : Addr) (fd : FuncData) (ps : List Str) (sp : Sp) : Prop where
  len : ∀ vs H Q E, sp vs H Q E → vs.length = ps.length
  run : ∀ (A : Around) (outer : List Env) (s : Shared) (H : Hp) (args : Args) (us : List Value) (vs : List V) (Q : VK) (E : XK), Room k A → Env0 P w K mg base A outer s H → BindsTo s fd args (ps.zip us) → Vals vs us → sp vs H Q E →
    codeAny (model P w) A (.call (.ref f) args) (CR CX outer P w H s Q E) s

theorem Env0.make {P : Program} {w : World} {K : PySem.W.Frag} {mg : Str → Option Value} {base : Heap} {A : Around} {outer : List Env} {s : Shared} {H : Hp} (e : Env0 P w K mg base A outer s H) (C : Addr) (us : List Value) (kw : List (Str × Value)) :
    Env0 P w K mg base (A.under (.builtin "type.__call__" ⟨.ref C :: us, kw⟩)) outer s H := ⟨by first | exact e.frames | (simpa [Around.under, Code.envs, Code.isFrame, pushEnvs] using e.frames), e.mod, e.bs, e.bsz, e.funs, e.frf, e.hok, e.bare⟩

section
variable {X : Cx} {pins : List (Addr × Obj)} {σ : St} {H : Hp} {s s' : Shared}
theorem Inv.env0 (I : Inv X pins σ H s) : Env0 X.prog X.w X.K X.mg X.base X.A X.stack s H :=
  ⟨I.ok.frames, I.ok.mod, I.bs, Nat.le_trans I.ok.bsz I.sz, I.stack, I.stkFree, I.hok, I.bare⟩
theorem Inv.after {Q : VK} {u : Value} (I : Inv X pins σ H s) (h : CE X.stack X.prog X.w H s Q u s') : EP X pins σ Q u s' := by
  obtain ⟨v, H', os, bare, un, hok, r, q⟩ := h
  obtain ⟨hh, g, d, t, os'⟩ := s'
  obtain rfl : os' = s.os := os
  exact ⟨v, H', I.call (h' := hh) (g' := g) (d' := d) (t' := t) (ch := []) un hok bare (fun b z => absurd z (by simp)), r, q⟩
end

noncomputable def tCall (sp : Sp) (dvs : List V) (E : XK) (t : TA) : TE := fun σ H Q => t σ H fun vs H1 => sp (vs ++ dvs) H1 Q E
noncomputable def tMeth (C : Addr) (m : Str) (sp : Sp) (dvs : List V) (E : XK) (ta : TE) (t : TA) : TE := fun σ H Q => ta σ H fun x H1 => ∃ a dx fs, x = .ref a ∧ H1 a = some (.ins C dx fs) ∧ fs.lookup m = none ∧
  t σ H1 fun vs H2 => sp (x :: (vs ++ dvs)) H2 Q E
noncomputable def tMake (C : Addr) (sp : Sp) (dvs : List V) (E : XK) (t : TA) : TE := fun σ H Q => t σ H fun vs H1 => ∀ x dx, H1 x = none → H1 dx = none → dx ≠ x →
  sp (.ref x :: (vs ++ dvs)) (upd (upd H1 dx (.own x)) x (.ins C dx [])) (fun v H2 => v = .non ∧ Q (.ref x) H2) E

noncomputable def Binds (K : PySem.W.Frag) (fd : FuncData) (ps : List Str) (ds : List Value) : Prop :=
  ∀ (s : Shared) (us : List Value), K.In s.heap → (us ++ ds).length = ps.length → BindsTo s fd ⟨us, []⟩ (ps.zip (us ++ ds))
theorem Binds.all {K : PySem.W.Frag} {fd : FuncData} {ps : List Str} (h : ∀ us : List Value, us.length = ps.length → bindArgs fd ⟨us, []⟩ = pure (ps.zip us)) : Binds K fd ps [] := fun s us _ hl => by
  rw [List.append_nil] at hl ⊢
  exact .of_eq (h us hl)

noncomputable def Passes (CX : CXT) (X : Cx) (E : XK) : Prop := ∀ (pins : List (Addr × Obj)) (σ : St) (H : Hp) (s : Shared) (e : Value) (s' : Shared), Inv X pins σ H s → CX X.stack H s E e s' → X.xe e s'

section
variable {X : Cx} {CX : CXT} {k : Nat} {f C : Addr} {fd : FuncData} {ps : List Str} {sp : Sp} {dvs : List V} {ds : List Value} {E : XK} {x m : Str} {p pos apos : Pos} {e o : Expr} {es : List Expr} {ta : TE} {t : TA}

theorem run_fn {pins : List (Addr × Obj)} {σ : St} {H : Hp} {s : Shared} {Q : VK} {us : List Value} {vs : List V} (F : FnOk X.prog X.w X.K X.mg X.base CX k f fd ps sp) (hr : Room k X.A) (hb : Binds X.K fd ps ds) (hd : Vals dvs ds) (hx : Passes CX X E)
    (I : Inv X pins σ H s) (r : Vals vs us) (h : sp (vs ++ dvs) H Q E) : wpAny (model X.prog X.w) X.A (call (.ref f) us) (EP X pins σ Q) X.xe s := by
  have r2 : Vals (vs ++ dvs) (us ++ ds) := r.append hd
  have hl : (us ++ ds).length = ps.length := by rw [← r2.length]; exact F.len _ _ _ _ h
  refine wpAny_call (codeAny_mono (F.run X.A X.stack s H ⟨us, []⟩ (us ++ ds) (vs ++ dvs) Q E hr I.env0 (hb s us I.kIn hl) r2 h) fun r s' hq => ?_)
  cases r with
  | error e => exact hx pins σ H s e s' I hq
  | ok fl =>
    cases fl with
    | ret u => exact I.after hq
    | next => exact False.elim hq
    | brk => exact False.elim hq
    | cont => exact False.elim hq

theorem pe_call (F : FnOk X.prog X.w X.K X.mg X.base CX k f fd ps sp) (hr : Room k X.A) (hg : Gl X x) (hm : X.mg x = some (.ref f)) (hk : PySem.W.keepIn X.K (.ref f) = true) (hb : Binds X.K fd ps ds) (hd : Vals dvs ds) (hx : Passes CX X E)
    (ha : PA X (e :: es) t) (hdb : (x == ("__debug__" : Str)) = false := by decide) (he : starEach (e :: es) X.env = (false, eval e X.env) :: starEach es X.env := by rfl) (hpl : (backTo pos (starEach es X.env)).any (·.1) = false := by rfl) :
    PE X (.Call (.Name x p) (e :: es) [] pos) (tCall sp dvs E t) := by
  intro pins s σ H Q I h
  refine wpAny_Call_Name_kw (ld_glob I hg hm ?_ hdb)
  refine PySem.W.callWith_K (h₀ := X.base) I.ok.mod.kin hk (thn (ha pos pins s σ H _ I h) fun us s1 ⟨vs, H1, I1, r, q⟩ => ⟨I1.kIn, ?_⟩) he hpl
  exact run_fn F hr hb hd hx I1 r q

theorem pe_meth {pl : Sem Bool} (he : PE X o ta) (c : Cls X.K C) (hm : Meth X.K C m f) (F : FnOk X.prog X.w X.K X.mg X.base CX k f fd ps sp) (hr : Room k X.A) (hb : Binds X.K fd ps ds) (hd : Vals dvs ds) (hx : Passes CX X E) (ha : PA X (e :: es) t)
    (hst : starEach (e :: es) X.env = (false, eval e X.env) :: starEach es X.env := by rfl) (hpl : (backTo pos (starEach es X.env)).any (·.1) = false := by rfl)
    (ht : eval (.Call (.Attribute o m apos) (e :: es) [] pos) X.env = (do
      let ov ← eval o X.env
      standAt apos.atName
      let (f, first) ← holding [ov] (getMethod ov m pl)
      callWith pos f first (backTo pos (starEach (e :: es) X.env)) (backToKw pos (keywordEach [] X.env))) := by rfl) :
    PE X (.Call (.Attribute o m apos) (e :: es) [] pos) (tMeth C m sp dvs E ta t) := by
  intro pins s σ H Q I h
  refine PySem.W.methodCall_KW (pl := pl) (thn (he pins s σ H _ I h) fun u s1 ⟨x, H1, I1, rx, a, dx, fs, ex, ea, l, q⟩ => ?_) ht
  subst ex
  obtain rfl : u = Value.ref a := rx
  refine getmeth_ok I1 ea c hm l ?_
  refine PySem.W.callWith_K (first := [.ref a]) (h₀ := X.base) I.ok.mod.kin hm.kp (thn (ha pos pins s1 σ H1 _ I1 q) fun us s2 ⟨vs, H2, I2, r, q2⟩ => ⟨I2.kIn, ?_⟩) hst hpl
  exact run_fn (us := .ref a :: us) (vs := .ref a :: vs) F hr hb hd hx I2 (.cons rfl r) q2

structure Mk (K : PySem.W.Frag) (C f : Addr) : Prop where
  makes : PySem.W.makesIn K C = true
  init : PySem.W.findIn K (.ref C) "__init__" = some (some (.ref f))
  fn : PySem.W.isFn K (.ref f) = true
  kp : PySem.W.keepIn K (.ref C) = true

theorem run_make {pins : List (Addr × Obj)} {σ : St} {H : Hp} {s : Shared} {Q : VK} {us : List Value} {vs : List V} (M : Mk X.K C f) (F : FnOk X.prog X.w X.K X.mg X.base CX k f fd ps sp) (hr : Room (k + 1) X.A) (hb : Binds X.K fd ps ds) (hd : Vals dvs ds)
    (hx : Passes CX X E) (I : Inv X pins σ H s) (r : Vals vs us)
    (h : ∀ x dx, H x = none → H dx = none → dx ≠ x → sp (.ref x :: (vs ++ dvs)) (upd (upd H dx (.own x)) x (.ins C dx [])) (fun v H2 => v = .non ∧ Q (.ref x) H2) E) :
    wpAny (model X.prog X.w) X.A (call (.ref C) us) (EP X pins σ Q) X.xe s := by
  have hq := h (s.heap.objs.size + 1) s.heap.objs.size (I.hok.fresh (Nat.le_succ _)) (I.hok.fresh (Nat.le_refl _)) (Nat.ne_of_lt (Nat.lt_succ_self _))
  have I2 := Inv.made (C := C) I
  have r2 : Vals (V.ref (s.heap.objs.size + 1) :: (vs ++ dvs)) (Value.ref (s.heap.objs.size + 1) :: (us ++ ds)) := .cons rfl (r.append hd)
  have hl : (Value.ref (s.heap.objs.size + 1) :: us ++ ds).length = ps.length := by
    have e := r2.length
    rw [F.len _ _ _ _ hq] at e
    exact e.symm
  refine wpAny_call (make_map (f := f) I.kIn M.makes M.init (beq_iff_eq.mp M.fn) (codeAny_mono (F.run _ X.stack _ _ ⟨Value.ref (s.heap.objs.size + 1) :: us, []⟩ (Value.ref (s.heap.objs.size + 1) :: (us ++ ds)) _ _ E (hr.make C us [])
    (I2.env0.make C us []) (hb _ (Value.ref (s.heap.objs.size + 1) :: us) I2.kIn hl) r2 hq) fun r s' hq' => ?_))
  cases r with
  | error e => exact hx pins σ _ _ e s' I2 hq'
  | ok fl =>
    cases fl with
    | ret u =>
      obtain ⟨v, H', I3, rv, ev, q3⟩ := I2.after hq'
      subst ev
      exact ⟨rv, ⟨V.ref (s.heap.objs.size + 1), H', I3, rfl, q3⟩⟩
    | next => exact False.elim hq'
    | brk => exact False.elim hq'
    | cont => exact False.elim hq'
theorem pe_make0 (M : Mk X.K C f) (F : FnOk X.prog X.w X.K X.mg X.base CX k f fd ps sp) (hr : Room (k + 1) X.A) (hg : Gl X x) (hm : X.mg x = some (.ref C)) (hb : Binds X.K fd ps ds) (hd : Vals dvs ds) (hx : Passes CX X E)
    (hdb : (x == ("__debug__" : Str)) = false := by decide) : PE X (.Call (.Name x p) [] [] pos) (tMake C sp dvs E tNil) := by
  intro pins s σ H Q I h
  refine wpAny_Call_Name_kw (ld_glob I hg hm ?_ hdb)
  exact PySem.W.callWith_K0 I.kIn M.kp (run_make (us := []) M F hr hb hd hx I .nil h)
end

section
variable {X : Cx} {CX : CXT} {k : Nat} {f C : Addr} {fd : FuncData} {ps ks : List Str} {sp : Sp} {E : XK} {x m : Str} {p pos apos kpos : Pos} {e o : Expr} {es : List Expr} {kws : List Keyword} {te ta : TE} {t tk : TA} {nm : Option Str}

variable {g : List Value → List Value → List Value} {gV : List V → List V → List V}
end

structure FnScope (N P : List Str) (sc : Scope) : Prop where
  kind : sc.kind = .function
  co : sc.isCoroutine = false
  gen : sc.isGenerator = false
  nd : N.Nodup
  pre : N.take P.length = P
  par : ∀ x ∈ P, sc.names.lookup x = some .local ∨ sc.names.lookup x = some .cell
  nofree : ∀ y ∈ sc.names, y.2 ≠ .free

theorem bindL_out {kindOf : Str → Option NameKind} {x : Str} : ∀ {binds : List (Str × Value)} {m : Str → Option Value}, (∀ v, (x, v) ∉ binds) → bindL kindOf binds m x = m x
  | [], _, _ => rfl
  | (n, v) :: r, m, h => by
    unfold bindL
    rw [bindL_out fun w hw => h w (List.mem_cons_of_mem _ hw)]
    split
    · have : x ≠ n := by rintro rfl; exact h v List.mem_cons_self
      simp [this]
    · rfl
theorem bindC_out {kindOf : Str → Option NameKind} {x : Str} : ∀ {binds : List (Str × Value)} {m : Str → Option Value}, (∀ v, (x, v) ∉ binds) → bindC kindOf binds m x = m x
  | [], _, _ => rfl
  | (n, v) :: r, m, h => by
    unfold bindC
    rw [bindC_out fun w hw => h w (List.mem_cons_of_mem _ hw)]
    split
    · rfl
    · have : x ≠ n := by rintro rfl; exact h v List.mem_cons_self
      simp [this]
theorem bindL_get {kindOf : Str → Option NameKind} {x : Str} {v : Value} : ∀ {P : List Str} {vs : List Value} {i : Nat} {m : Str → Option Value}, P.Nodup → P[i]? = some x → vs[i]? = some v → kindOf x = some .local →
    bindL kindOf (P.zip vs) m x = some v
  | [], _, _, _, _, h, _, _ => by simp at h
  | _ :: _, [], _, _, _, _, h, _ => by simp at h
  | p :: P, w :: vs, 0, m, nd, h1, h2, hk => by
    simp at h1 h2; subst h1; subst h2
    show bindL kindOf ((p, w) :: P.zip vs) m p = _
    unfold bindL
    rw [bindL_out fun v hv => (List.nodup_cons.mp nd).1 (List.of_mem_zip hv).1, if_pos hk]
    simp
  | p :: P, w :: vs, i + 1, m, nd, h1, h2, hk => by
    show bindL kindOf ((p, w) :: P.zip vs) m x = _
    unfold bindL
    exact bindL_get (i := i) (List.nodup_cons.mp nd).2 (by simpa using h1) (by simpa using h2) hk
theorem bindC_get {kindOf : Str → Option NameKind} {x : Str} {v : Value} : ∀ {P : List Str} {vs : List Value} {i : Nat} {m : Str → Option Value}, P.Nodup → P[i]? = some x → vs[i]? = some v → kindOf x ≠ some .local →
    bindC kindOf (P.zip vs) m x = some v
  | [], _, _, _, _, h, _, _ => by simp at h
  | _ :: _, [], _, _, _, _, h, _ => by simp at h
  | p :: P, w :: vs, 0, m, nd, h1, h2, hk => by
    simp at h1 h2; subst h1; subst h2
    show bindC kindOf ((p, w) :: P.zip vs) m p = _
    unfold bindC
    rw [bindC_out fun v hv => (List.nodup_cons.mp nd).1 (List.of_mem_zip hv).1, if_neg hk]
    simp
  | p :: P, w :: vs, i + 1, m, nd, h1, h2, hk => by
    show bindC kindOf ((p, w) :: P.zip vs) m x = _
    unfold bindC
    exact bindC_get (i := i) (List.nodup_cons.mp nd).2 (by simpa using h1) (by simpa using h2) hk

noncomputable def start (N : List Str) (vs : List V) : St := vs.map some ++ List.replicate (N.length - vs.length) none

noncomputable def cxOf (CX : CXT) (P : Program) (w : World) (K : PySem.W.Frag) (mg : Str → Option Value) (base : Heap) (N : List Str) (qual : Str) (scope : Scope) (f : Addr) (cd : Value) (A : Around) (outer : List Env) (s : Shared) (H : Hp) (E : XK) : Cx where
  prog := P
  w := w
  K := K
  mg := mg
  base := base
  A := A.deeper (envOfC qual scope s.heap.objs.size f cd)
  N := N
  s₀ := s
  H₀ := H
  env := envOfC qual scope s.heap.objs.size f cd
  outer := outer
  stack := envOfC qual scope s.heap.objs.size f cd :: outer
  ex := []
  calm := true
  fn := fun _ => true
  pn := []
  xe := fun e s' => wpAny (model P w) (A.deeper (envOfC qual scope s.heap.objs.size f cd)) (leaving (envOfC qual scope s.heap.objs.size f cd) e) (fun _ s'' => CX outer H s E e s'') (fun e' s'' => CX outer H s E e' s'') s'

theorem cell_has {sc : Scope} {n : Nat} {x : Str} (h : sc.names.lookup x = some .cell) : ∃ c, (cellsFrom n sc.names []).lookup x = some c := by
  have q := PySem.W.cellsFrom_some sc.names n [] (.inl h)
  exact Option.isSome_iff_exists.mp q

theorem inv_start {CX : CXT} {P : Program} {w : World} {K : PySem.W.Frag} {mg : Str → Option Value} {base : Heap} {N ps : List Str} {qual : Str} {scope : Scope} {f : Addr} {cd : Value} {A : Around} {outer : List Env} {s s1 : Shared} {H : Hp} {E : XK} {us : List Value} {vs : List V}
    (S : FnScope N ps scope) (hd : A.handled = none) (e0 : Env0 P w K mg base A outer s H) (hl : vs.length = ps.length) (r : Vals vs us)
    (x : InCallC s s.heap.objs.size (bindL (envOfC qual scope s.heap.objs.size f cd).kindOf (ps.zip us) fun _ => none) (cellsFrom (s.heap.objs.size + 1) scope.names []) (bindC (envOfC qual scope s.heap.objs.size f cd).kindOf (ps.zip us) fun _ => none) s1) :
    Inv (cxOf CX P w K mg base N qual scope f cd A outer s H E) [] (start N vs) H s1 := by
  have hpl : ps.length ≤ N.length := by have := congrArg List.length S.pre; rw [List.length_take] at this; omega
  obtain ⟨h1, tk, rfl, hk⟩ := x.done
  have noA : ∀ b : Addr, b ∉ (cxOf CX P w K mg base N qual scope f cd A outer s H E).ex := fun b z => absurd (show b ∈ ([] : List Addr) from z) (by simp)
  refine ⟨⟨e0.mod, S.kind, rfl, rfl, Nat.le_refl _, fun y z c h1 h2 => ?_, fun y hy => ?_, fun y c _ h => ?_, fun _ => hd, Around.frames_deeper e0.frames, .inr ⟨rfl, rfl⟩, fun b z => absurd z (noA b), e0.bs, e0.bsz, fun b _ _ => noA b, fun b z => absurd z (noA b), e0.funs, e0.frf⟩,
    rfl, e0.bare, Un.kept hk, ⟨_, x.toInCall.ns, fun i y v h1 h2 h3 => ?_⟩, fun y c h => ⟨_, x.cell y c h⟩, e0.hok.fresh (Nat.le_refl _), fun y c h => ?_, fun p hp => absurd (show p ∈ ([] : List (Addr × Obj)) from hp) (by simp), e0.hok.kept hk, ?_⟩
  · exact name_of_addr x.apart (PySem.mem_of_lookup h1) (PySem.mem_of_lookup h2)
  · have hy : scope.names.lookup y = some .cell ∨ scope.names.lookup y = some .free := hy
    rcases hy with hy | hy
    · exact cell_has hy
    · exact absurd rfl (S.nofree _ (PySem.mem_of_lookup hy))
  · exact Nat.le_of_lt (x.above y c (PySem.mem_of_lookup h))
  · have hi : i < vs.length := by
      unfold start at h2
      by_cases hi : i < vs.length
      · exact hi
      · rw [List.getElem?_append_right (by simpa using hi)] at h2
        rw [List.getElem?_replicate] at h2
        split at h2 <;> cases h2
    have ha : vs[i]? = some v := by
      unfold start at h2
      rw [List.getElem?_append_left (by simpa using hi), List.getElem?_map] at h2
      cases e : vs[i]? with
      | none => rw [e] at h2; cases h2
      | some a => rw [e] at h2; cases h2; rfl
    obtain ⟨u, hu, rv⟩ := r.get ha
    have hp : ps[i]? = some y := by
      rw [← S.pre, List.getElem?_take_of_lt (by omega)]; exact h1
    have ndP : ps.Nodup := by rw [← S.pre]; exact S.nd.sublist (List.take_sublist _ _)
    refine ⟨u, rv, ?_⟩
    rcases S.par y (List.mem_of_getElem? hp) with k | k
    · exact .inl ⟨k, bindL_get ndP hp hu k⟩
    · obtain ⟨c, e⟩ := cell_has (n := s.heap.objs.size + 1) k
      refine .inr ⟨.inl k, c, e, ?_⟩
      have q := x.cell y c e
      rw [bindC_get ndP hp hu (by show scope.names.lookup y ≠ _; rw [k]; decide)] at q
      exact q
  · exact e0.hok.fresh (Nat.le_of_lt (x.above y c (PySem.mem_of_lookup h)))
  · unfold start
    show _ = N.length
    rw [List.length_append, List.length_map, List.length_replicate]
    omega

theorem fn_of {CX : CXT} {P : Program} {w : World} {K : PySem.W.Frag} {mg : Str → Option Value} {base : Heap} {k : Nat} {f : Addr} {name qual : Str} {params : Arguments} {body : List Stmt} {scope : Scope} {dV kV doc pm cdv ct oc : Value} {an od : Option Addr}
    {osl : Array (Option Value)} {N ps : List Str} {sp : Sp} (lk : K.lookup f = some ⟨oc, od, .func (PySem.W.fnOf name qual params body scope dV kV doc pm an cdv ct), osl⟩) (hcd : PySem.W.codeIn K cdv qual = true) (S : FnScope N ps scope)
    (len : ∀ vs H Q E, sp vs H Q E → vs.length = ps.length)
    (hbody : ∀ (A : Around) (outer : List Env) (s : Shared) (H : Hp) (vs : List V) (Q : VK) (E : XK), Room k (A.deeper (envOfC qual scope s.heap.objs.size f cdv)) → sp vs H Q E →
      ∃ t, PSs (cxOf CX P w K mg base N qual scope f cdv A outer s H E) body t ∧ t { nx := fun _ H' => Q .non H', rt := Q } (start N vs) H) :
    FnOk P w K mg base CX (k + 1) f (PySem.W.fnOf name qual params body scope dV kV doc pm an cdv ct) ps sp := by
  refine ⟨len, fun A outer s H args us vs Q E hr e0 hb r hsp => ?_⟩
  have hl := len _ _ _ _ hsp
  have KX : K.In s.heap := e0.mod.kin.keeps fun b o e => (e0.bs b o e).1
  have lim : s.heap.NoLimit := e0.mod.nolimit.keeps fun b o e => (e0.bs b o e).1
  have hkind : ∀ y ∈ ps.zip us, scope.names.lookup y.1 = some .local ∨ (scope.names.lookup y.1 = some .cell ∧ ((cellsFrom (s.heap.objs.size + 1) scope.names []).lookup y.1).isSome = true) := fun ⟨n, v⟩ hy => by
    rcases S.par n (List.of_mem_zip hy).1 with q | q
    · exact .inl q
    · exact .inr ⟨q, PySem.W.cellsFrom_some _ _ _ (.inl q)⟩
  refine codeAny_call_function hr.depth (KX _ _ lk) rfl S.co S.gen rfl (PySem.W.codeRec_of KX hcd) (hb _ _ _ _ ?_)
  refine wpAny_newFunctionEnv_cells S.kind hkind fun env he s1 x => ?_
  subst he
  refine ⟨lim.keeps x.toInCall.keep, codeAny_func ?_⟩
  obtain ⟨t, ht, hq⟩ := hbody A outer s H vs Q E (hr.deeper _) hsp
  have I : Inv (cxOf CX P w K mg base N qual scope f cdv A outer s H E) [] (start N vs) H s1 := inv_start S hr.hd e0 hl r x
  refine wpAny_mono (ht [] s1 (start N vs) H _ I hq) (fun fl s' hs => ?_) fun e s' hs => hs
  have fin : ∀ {σ' : St} {H' : Hp} {v : V} {u : Value}, Inv (cxOf CX P w K mg base N qual scope f cdv A outer s H E) [] σ' H' s' → RelV v u → Q v H' → CE outer P w H s Q u s' :=
    fun {σ' H' v u} J rv q => ⟨v, H', J.os, J.bare, J.base, J.hok, rv, q⟩
  cases fl with
  | ret u =>
    obtain ⟨v, σ', H', J, rv, q⟩ := hs
    exact fin J rv q
  | next =>
    obtain ⟨σ', H', J, q⟩ := hs
    exact fin (v := V.non) (u := Value.none) J rfl q
  | brk =>
    obtain ⟨_, _, _, q⟩ := hs
    exact False.elim q
  | cont =>
    obtain ⟨_, _, _, q⟩ := hs
    exact False.elim q
end L2

namespace L2
open PySem PySem.Spec PyProof.Rows
section
variable {X : Cx} {x : Str} {p pos : Pos} {e : Expr} {es : List Expr} {t : TA} {id T : String} {r : List V → Hp → VK → Prop}

noncomputable def tCB (r : List V → Hp → VK → Prop) (t : TA) : TE := fun σ H Q => t σ H fun vs H1 => r vs H1 Q
theorem pe_callB (hc : CallR X (.builtin id) r) (hg : Gl X x) (hm : X.mg x = none) (hv : bootBuiltins x = some (.builtin id)) (ha : PA X (e :: es) t) (hn : x ≠ "__name__" := by decide) (hdb : (x == ("__debug__" : Str)) = false := by decide)
    (he : starEach (e :: es) X.env = (false, eval e X.env) :: starEach es X.env := by rfl) (hpl : (backTo pos (starEach es X.env)).any (·.1) = false := by rfl) : PE X (.Call (.Name x p) (e :: es) [] pos) (tCB r t) := by
  intro pins s σ H Q I h
  refine wpAny_Call_Name_kw (ld_blt I hg hm hv ?_ hn hdb)
  exact PyProof.Rows.callWith_builtin1 (thn (ha pos pins s σ H _ I h) fun us s1 ⟨vs, H1, I1, r1, q1⟩ => hc pins s1 σ H1 vs us Q I1 r1 q1) he hpl
theorem pe_callTy (hc : CallR X (.type T) r) (hg : Gl X x) (hm : X.mg x = none) (hv : bootBuiltins x = some (.type T)) (ha : PA X (e :: es) t) (hn : x ≠ "__name__" := by decide) (hdb : (x == ("__debug__" : Str)) = false := by decide)
    (he : starEach (e :: es) X.env = (false, eval e X.env) :: starEach es X.env := by rfl) (hpl : (backTo pos (starEach es X.env)).any (·.1) = false := by rfl) : PE X (.Call (.Name x p) (e :: es) [] pos) (tCB r t) := by
  intro pins s σ H Q I h
  refine wpAny_Call_Name_kw (ld_blt I hg hm hv ?_ hn hdb)
  exact PyProof.Rows.callWith_type1 (thn (ha pos pins s σ H _ I h) fun us s1 ⟨vs, H1, I1, r1, q1⟩ => hc pins s1 σ H1 vs us Q I1 r1 q1) he hpl
end
end L2

namespace HT
open PySem PyProof.Rows



section
open PySem.SeqAt
open PySem.AutoSeq1 (wpAny_loadPart')
open PySem.MeetsSeq PySem.MeetsSeq2 PySem.MeetsSeq3

end

section
variable {prog : Program} {w : World} {A : Around} {E : Value → Shared → Prop} {s : Shared}


theorem cat_tup {t b : Addr} {vs ws : List Value} {Q : Value → Shared → Prop} (ht : IsTup s.heap t vs.toArray) (hb : IsTup s.heap b ws.toArray) (hv : vs ≠ [])
    (h1 : ws = [] → Q (.ref t) s) (h2 : ws ≠ [] → Q (.ref s.heap.objs.size) { s with heap := s.heap.push { cls := .type "tuple", data := .seq (vs ++ ws).toArray } })
    (hsz : vs.length + ws.length ≤ sizeLine) : wpAny (model prog w) A (binaryOp .Add (.ref t) (.ref b)) Q E s := by
  obtain ⟨⟨cls, dd, data, sl⟩, ho, hc, n, hd⟩ := id ht
  obtain ⟨⟨cls2, dd2, data2, sl2⟩, ho2, hc2, n2, hd2⟩ := id hb
  simp only at hc hd hc2 hd2
  subst hc hd hc2 hd2
  have e : vs.toArray ++ ws.toArray = (vs ++ ws).toArray := by simp
  by_cases hw : ws = []
  · exact concat_meets ⟨_, ho, rfl⟩ ⟨_, ho2, rfl⟩ noFill_tuple_add seq_tuple_add PySem.F.slot_tuple_add PySem.F.entry_tuple_add (PySem.F.args_tuple_add_2 _ _)
      (tuple_addW1 t b vs.toArray ws.toArray n n2 dd dd2 sl sl2 (by simpa using hv) (by simp [hw])) ⟨ho, ho2, h1 hw⟩
  · refine concat_meets ⟨_, ho, rfl⟩ ⟨_, ho2, rfl⟩ noFill_tuple_add seq_tuple_add PySem.F.slot_tuple_add PySem.F.entry_tuple_add (PySem.F.args_tuple_add_2 _ _)
      (tuple_addW2 t b vs.toArray ws.toArray n n2 dd dd2 sl sl2 (by simpa using hv) (by simpa using hw) (by rw [List.size_toArray, List.size_toArray]; exact hsz)) ⟨ho, ho2, ?_⟩
    rw [e]
    exact h2 hw

noncomputable def sIx (n d : Nat) : Option Int → Nat
  | none => d
  | some v => if v < 0 then (v + (n : Int)).toNat else min v.toNat n
theorem sIx_none (n d : Nat) : sIx n d none = d := rfl
theorem sIx_nat (n d k : Nat) : sIx n d (some (k : Int)) = min k n := by
  show (if (k : Int) < 0 then ((k : Int) + (n : Int)).toNat else min (k : Int).toNat n) = min k n
  rw [if_neg (by omega), Int.toNat_natCast]
theorem sIx_le (n d : Nat) (hd : d ≤ n) (o : Option Int) : sIx n d o ≤ n := by
  cases o with
  | none => exact hd
  | some v =>
    show (if v < 0 then (v + (n : Int)).toNat else min v.toNat n) ≤ n
    by_cases hv : v < 0
    · rw [if_pos hv]; omega
    · rw [if_neg hv]; exact Nat.min_le_right _ _
theorem clip_eq (v : Int) (n d : Nat) : (if v < 0 then max (v + (n : Int)) 0 else min v (n : Int)) = ((sIx n d (some v) : Nat) : Int) := by
  show (if v < 0 then max (v + (n : Int)) 0 else min v (n : Int)) = (((if v < 0 then (v + (n : Int)).toNat else min v.toNat n) : Nat) : Int)
  by_cases hv : v < 0
  · simp only [if_pos hv]; omega
  · simp only [if_neg hv]; omega
theorem adjust_gen (lo hi : Option Int) (n : Nat) : Builtin.Slice.sliceAdjust lo hi 1 (n : Int) = (((sIx n 0 lo : Nat) : Int), ((sIx n n hi : Nat) : Int)) := by
  have h1 : ¬ ((1 : Int) < 0) := by omega
  unfold Builtin.Slice.sliceAdjust
  simp only [h1, if_false]
  refine Prod.ext ?_ ?_
  · cases lo with
    | none => rfl
    | some v => exact clip_eq v n 0
  · cases hi with
    | none => rfl
    | some v => exact clip_eq v n n
theorem places_gen (i j : Nat) : Builtin.Slice.slicePlaces (i : Int) (j : Int) 1 = j - i := by
  unfold Builtin.Slice.slicePlaces
  have h1 : (1 : Int) > 0 := by omega
  simp only [h1, if_true, Int.ediv_one]
  split <;> omega
theorem slicePart_ {v : Value} {o : Option Int} {Q : Option Int → Shared → Prop} (p : IsPart v o) (h : Q o s) : wpAny (model prog w) A (Builtin.Slice.slicePartIndex v) Q E s := by
  cases p with
  | none => exact slicePart_none h
  | int i t => exact slicePart_int h
theorem sliceApplied_gen {sl : Addr} {vl vu : Value} {lo hi : Option Int} {n : Nat} {Q : Int × Int × Nat → Shared → Prop} (hs : s.heap.IsSliceOf sl vl vu .none) (pl : IsPart vl lo) (pu : IsPart vu hi)
    (h : Q (((sIx n 0 lo : Nat) : Int), 1, sIx n n hi - sIx n 0 lo) s) : wpAny (model prog w) A (Builtin.Slice.sliceApplied (.ref sl) (pure (n : Int))) Q E s := by
  obtain ⟨os, hos, hcs, hds⟩ := id hs
  unfold Builtin.Slice.sliceApplied Builtin.Slice.sliceFields
  refine wpAny_bind (wpAny_bind (wpAny_field hos hds (x := vl) rfl (wpAny_bind (wpAny_field hos hds (x := vu) rfl (wpAny_bind (wpAny_field hos hds (x := .none) rfl (wpAny_pure ?_)))))))
  refine wpAny_bind (slicePart_none ?_)
  show wpAny _ _ (if ((1 : Int) == 0) = true then _ else _) _ _ s
  rw [if_neg (by decide)]
  refine wpAny_bind (slicePart_ pl (wpAny_bind (slicePart_ pu (wpAny_bind (wpAny_pure ?_)))))
  show wpAny _ _ (match Builtin.Slice.sliceAdjust lo hi 1 (n : Int) with | (lo, hi) => pure (lo, (1 : Int), Builtin.Slice.slicePlaces lo hi 1)) _ _ s
  rw [adjust_gen lo hi n]
  show wpAny _ _ (pure (((sIx n 0 lo : Nat) : Int), (1 : Int), Builtin.Slice.slicePlaces ((sIx n 0 lo : Nat) : Int) ((sIx n n hi : Nat) : Int) 1)) _ _ s
  rw [places_gen]
  exact wpAny_pure h
theorem pick_gen (xs : Array Value) (i k : Nat) : ((List.range k).filterMap fun (m : Nat) => xs[((i : Int) + (m : Int) * 1).toNat]?).toArray = ((xs.toList.drop i).take k).toArray := by
  have e : (fun (m : Nat) => xs[((i : Int) + (m : Int) * 1).toNat]?) = fun m => xs[i + m]? := by
    funext m
    have : ((i : Int) + (m : Int) * 1).toNat = i + m := by omega
    rw [this]
  rw [e]
  have := pick_run xs i k
  rw [List.filterMap_map] at this
  have e2 : ((fun x => xs[x]?) ∘ fun x => i + x) = fun m => xs[i + m]? := rfl
  rw [e2] at this
  rw [this]

theorem getItem_tuple_cut {t sl : Addr} {items : Array Value} {vl vu : Value} {lo hi : Option Int} {Q : Value → Shared → Prop} (ht : IsTup s.heap t items) (hs : s.heap.IsSliceOf sl vl vu .none) (pl : IsPart vl lo) (pu : IsPart vu hi)
    (hw : ¬ (sIx items.size 0 lo = 0 ∧ sIx items.size items.size hi = items.size))
    (h : Q (.ref s.heap.objs.size) { s with heap := s.heap.push { cls := .type "tuple", data := .seq ((items.toList.drop (sIx items.size 0 lo)).take (sIx items.size items.size hi - sIx items.size 0 lo)).toArray } })
    (hsz : items.size ≤ sizeLine) : wpAny (model prog w) A (getItem (.ref t) (.ref sl)) Q E s := by
  have htake : sizeOk (.seq ((items.toList.drop (sIx items.size 0 lo)).take (sIx items.size items.size hi - sIx items.size 0 lo)).toArray) := by
    show ((items.toList.drop (sIx items.size 0 lo)).take (sIx items.size items.size hi - sIx items.size 0 lo)).toArray.size ≤ sizeLine
    rw [List.size_toArray, List.length_take, List.length_drop, Array.length_toList]
    omega
  have hj : sIx items.size items.size hi ≤ items.size := sIx_le _ _ (Nat.le_refl _) hi
  obtain ⟨os, hos, hcs, hds⟩ := id hs
  have hTs : s.TypeIs (.ref sl) "slice" := ⟨os, hos, hcs⟩
  unfold getItem
  try with_reducible refine wpAny_holding ?_
  first | refine wpAny_bind (wpAny_pure ?_) | skip
  refine wpAny_bind (wpAny_sequenceKey ht.typeIs (by decide) ?_)
  refine wpAny_bind (wpAny_callSpecial?_slot (name := Str.ofString "__getitem__") ht.typeIs PyProof.Rows.slot_tuple_getitem
    (wpAny_call_entry PyProof.Rows.slot_tuple_getitem ht.typeIs entry_tuple_getitem ?_ (args_tuple_getitem _ _)))
  show wpAny _ _ (Builtin.Tuple.tupleItemsOf (.ref t) >>= _) _ _ s
  refine wpAny_bind (tupleItemsOf_ ht ?_)
  refine wpAny_bind (wpAny_typeOf hTs ?_)
  rw [if_pos (by decide)]
  refine wpAny_bind (sliceApplied_gen hs pl pu ?_)
  have hno : ¬ ((((sIx items.size 0 lo : Nat) : Int) == 0 && (1 : Int) == 1 && (sIx items.size items.size hi - sIx items.size 0 lo) == items.size) = true) := by
    intro q
    rw [Bool.and_eq_true, Bool.and_eq_true] at q
    have q1 : ((sIx items.size 0 lo : Nat) : Int) = 0 := eq_of_beq q.1.1
    have q2 : sIx items.size items.size hi - sIx items.size 0 lo = items.size := eq_of_beq q.2
    exact hw ⟨by omega, by omega⟩
  show wpAny _ _ (if (((sIx items.size 0 lo : Nat) : Int) == 0 && (1 : Int) == 1 && (sIx items.size items.size hi - sIx items.size 0 lo) == items.size) = true then _ else _) _ _ s
  rw [if_neg hno, pick_gen]
  first
    | exact wpAny_bind (m := Builtin.Tuple.tupleExact _) (wpAny_newObj_type (wpAny_pure ⟨_, rfl, wpAny_pure h⟩) htake)
    | exact wpAny_bind (m := Builtin.Tuple.tupleExact _) (wpAny_newObj_type (wpAny_bind (wpAny_pure (wpAny_pure ⟨_, rfl, wpAny_pure h⟩))) htake)
    | exact wpAny_bind (wpAny_bind (m := Builtin.Tuple.tupleExact _) (wpAny_newObj_type (wpAny_pure (wpAny_pure ⟨_, rfl, wpAny_pure h⟩)) htake))
    | exact wpAny_bind (wpAny_bind (m := Builtin.Tuple.tupleExact _) (wpAny_newObj_type (wpAny_pure ⟨_, rfl, wpAny_pure h⟩) htake))
end
end HT

namespace L2
open PySem PySem.Spec PyProof.Rows

noncomputable abbrev TO := St → Hp → (Option Int → Hp → Prop) → Prop
noncomputable def PO (X : Cx) (e : Option Expr) (t : TO) : Prop :=
  ∀ (pins : List (Addr × Obj)) (s : Shared) (σ : St) (H : Hp) (Q : Option Int → Hp → Prop), Inv X pins σ H s → t σ H Q →
    wpAny (model X.prog X.w) X.A (evalPart e X.env) (fun u s' => ∃ o H', Inv X pins σ H' s' ∧ IsPart u o ∧ Q o H') X.xe s
noncomputable def tNoPart : TO := fun _ H Q => Q none H
noncomputable def tPart (t : TE) : TO := fun σ H Q => t σ H fun x H1 => ∃ i, x = .int i ∧ Q (some i) H1

theorem intsAre_of {ns : List Int} : ∀ {us : List Value}, Vals (ns.map V.int) us → IntsAre us ns := by
  induction ns with
  | nil => intro us r; rw [List.map_nil] at r; cases r; exact .nil
  | cons n ns ih =>
    intro us r
    rw [List.map_cons] at r
    cases r with
    | cons r1 r2 =>
      obtain ⟨t, e⟩ := r1
      subst e
      exact .cons n t (ih r2)

section
variable {X : Cx} {e : Expr} {te : TE} {lo hi : Option Expr} {tl th : TO} {pos p2 : Pos}

theorem po_none : PO X none tNoPart := by
  intro pins s σ H Q I h
  rw [evalPart_none]
  exact wpAny_pure ⟨none, H, I, .none, h⟩
theorem po_some (h : PE X e te) : PO X (some e) (tPart te) := by
  intro pins s σ H Q I hw
  rw [evalPart_some]
  refine thn (h pins s σ H _ I hw) fun u s1 zz => ?_
  obtain ⟨x, H1, I1, r1, q1⟩ := zz
  obtain ⟨i, rfl, q⟩ := q1
  obtain ⟨t, rfl⟩ := r1
  exact ⟨some i, H1, I1, .int i t, q⟩

noncomputable def SlR (X : Cx) (r : V → Option Int → Option Int → Hp → VK → Prop) : Prop :=
  ∀ (pins : List (Addr × Obj)) (s : Shared) (σ : St) (H : Hp) (x : V) (v vl vu : Value) (lo hi : Option Int) (sl : Addr) (Q : VK), Inv X pins σ H s → RelV x v → s.heap.IsSliceOf sl vl vu .none → IsPart vl lo → IsPart vu hi → r x lo hi H Q →
    ∃ T id, typeLookup (.type T) "__getitem__" = pure (some (.builtin id)) ∧ s.TypeIs v T ∧ wpAny (model X.prog X.w) X.A (getItem v (.ref sl)) (EP X pins σ Q) X.xe s
noncomputable def tSl (r : V → Option Int → Option Int → Hp → VK → Prop) (te : TE) (tl th : TO) : TE := fun σ H Q => te σ H fun x H1 => tl σ H1 fun l H2 => th σ H2 fun u H3 => r x l u H3 Q
theorem pe_slice {r : V → Option Int → Option Int → Hp → VK → Prop} (hr : SlR X r) (he : PE X e te) (hl : PO X lo tl) (hu : PO X hi th) : PE X (.Subscript e (.Slice lo hi none p2) pos) (tSl r te tl th) := by
  intro pins s σ H Q I h
  refine Subscript_ (thn (he pins s σ H _ I h) fun v s1 zz => ?_)
  obtain ⟨x, H1, I1, r1, q1⟩ := zz
  refine wpAny_Slice (thn (hl pins s1 σ H1 _ I1 q1) fun vl s2 ⟨l, H2, I2, pl, q2⟩ => thn (hu pins s2 σ H2 _ I2 q2) fun vu s3 zz => ?_)
  obtain ⟨u, H3, I3, pu, q3⟩ := zz
  rw [evalPart_none]
  refine wpAny_pure ?_
  have I4 : Inv X pins σ H3 { s3 with heap := s3.heap.push { cls := .type "slice", data := .fields #[vl, vu, .none] } } := I3.kept (t' := s3.toks) fun b ob q => Heap.get?_push_of_some _ q
  obtain ⟨T, id, hT, ht, hg⟩ := hr pins { s3 with heap := s3.heap.push { cls := .type "slice", data := .fields #[vl, vu, .none] } } σ H3 x v vl vu l u s3.heap.objs.size Q I4 r1 (Heap.IsSliceOf.new ..) pl pu q3
  show wpAny (model X.prog X.w) X.A (subscriptTail e (.Slice lo hi none p2) v (.ref s3.heap.objs.size)) (EP X pins σ Q) X.xe { s3 with heap := s3.heap.push { cls := .type "slice", data := .fields #[vl, vu, .none] } }
  exact tail_any (ops := [.ref s3.heap.objs.size, v]) ht hT hg (by with_unfolding_all rfl)

noncomputable def cutV (xs : List V) (lo hi : Option Int) : List V := (xs.drop (HT.sIx xs.length 0 lo)).take (HT.sIx xs.length xs.length hi - HT.sIx xs.length 0 lo)
theorem cutV_length (xs : List V) (lo hi : Option Int) : (cutV xs lo hi).length ≤ xs.length := by
  unfold cutV
  rw [List.length_take, List.length_drop]
  omega
noncomputable def rSlT (K : PySem.W.Frag) : V → Option Int → Option Int → Hp → VK → Prop := fun x lo hi H Q => ∃ a xs, x = .ref a ∧ SqT K H a xs ∧
  ¬ (HT.sIx xs.length 0 lo = 0 ∧ HT.sIx xs.length xs.length hi = xs.length) ∧ ∀ p, H p = none → Q (.ref p) (upd H p (.tup (cutV xs lo hi)))
theorem sl_tup : SlR X (rSlT X.K) := by
  intro pins s σ H x v vl vu lo hi sl Q I rx hs pl pu h
  obtain ⟨a, xs, rfl, hx, hw, q⟩ := h
  cases rx
  obtain ⟨its, r, ht, hz⟩ := I.tuple hx
  have hlen : its.toArray.size = xs.length := by rw [List.size_toArray]; exact r.length.symm
  refine ⟨"tuple", _, PyProof.Rows.slot_tuple_getitem.lookup, ht.typeIs, ?_⟩
  refine HT.getItem_tuple_cut ht hs pl pu (by rw [hlen]; exact hw) ?_ (by rw [hlen]; exact hz)
  rw [hlen]
  refine ⟨.ref s.heap.objs.size, _, I.laid (t' := s.toks) (o := .tup (cutV xs lo hi)) (fun b ob q => Heap.get?_push_of_some _ q) (Nat.le_refl _) ?_, rfl, q _ (I.hok.fresh (Nat.le_refl _))⟩
  exact ⟨Nat.le_trans (cutV_length xs lo hi) hz, _, (r.drop (HT.sIx xs.length 0 lo)).take (HT.sIx xs.length xs.length hi - HT.sIx xs.length 0 lo), IsTup.new _ _⟩

noncomputable def rCatT (K : PySem.W.Frag) : R2 := fun x y H Q => ∃ a b xs ys, x = .ref a ∧ y = .ref b ∧ SqT K H a xs ∧ SqT K H b ys ∧ xs ≠ [] ∧ xs.length + ys.length ≤ sizeLine ∧
  (ys = [] → Q (.ref a) H) ∧ (ys ≠ [] → ∀ p, H p = none → Q (.ref p) (upd H p (.tup (xs ++ ys))))
theorem Vals.nil_iff {xs : List V} {us : List Value} (r : Vals xs us) : us = [] ↔ xs = [] := by
  cases r with
  | nil => simp
  | cons _ _ => simp
theorem op_catT : OpR X (binaryOp .Add) (rCatT X.K) := by
  intro pins s σ H x y v u Q I rx ry h
  obtain ⟨a, b, xs, ys, rfl, rfl, ha, hb, hx, hz, q1, q2⟩ := h
  cases rx
  cases ry
  obtain ⟨its, r1, p1, _⟩ := I.tuple ha
  obtain ⟨its2, r2, p2, _⟩ := I.tuple hb
  refine HT.cat_tup p1 p2 (fun z => hx (r1.nil_iff.mp z)) (fun z => ⟨.ref a, H, I, rfl, q1 (r2.nil_iff.mp z)⟩) (fun z => ?_) (by rw [← r1.length, ← r2.length]; exact hz)
  refine ⟨.ref s.heap.objs.size, _, I.laid (t' := s.toks) (o := .tup (xs ++ ys)) (fun b ob q => Heap.get?_push_of_some _ q) (Nat.le_refl _) ?_, rfl, q2 (fun w => z (r2.nil_iff.mpr w)) _ (I.hok.fresh (Nat.le_refl _))⟩
  exact ⟨by rw [List.length_append]; exact hz, _, r1.append r2, IsTup.new _ _⟩
end
end L2

namespace L2
open PySem PySem.Spec PyProof.Rows

noncomputable def ixN (n : Nat) (i : Int) : Option Nat := if 0 ≤ i then (if i < n then some i.toNat else none) else if -(n : Int) ≤ i then some (i + n).toNat else none
noncomputable def atI {α : Type} (xs : List α) (i : Int) : Option α := (ixN xs.length i).bind fun j => xs[j]?
theorem ixN_seq {n : Nat} {i : Int} {j : Nat} (h : ixN n i = some j) : seqIndex? i n = some j ∧ j < n ∧ -(n : Int) ≤ i ∧ i < n := by
  unfold ixN at h
  by_cases h0 : 0 ≤ i
  · rw [if_pos h0] at h
    by_cases h1 : i < n
    · rw [if_pos h1] at h
      have e : i.toNat = j := Option.some.inj h
      exact ⟨by rw [seqIndex_of h0 h1, e], by omega, by omega, h1⟩
    · rw [if_neg h1] at h; cases h
  · rw [if_neg h0] at h
    by_cases h1 : -(n : Int) ≤ i
    · rw [if_pos h1] at h
      have e : (i + n).toNat = j := Option.some.inj h
      exact ⟨by rw [seqIndex_neg (by omega) h1, e], by omega, h1, by omega⟩
    · rw [if_neg h1] at h; cases h
theorem atI_get {α : Type} {xs : List α} {i : Int} {v : α} (h : atI xs i = some v) : ∃ j, seqIndex? i xs.length = some j ∧ xs[j]? = some v ∧ j < xs.length ∧ -(xs.length : Int) ≤ i ∧ i < xs.length := by
  unfold atI at h
  cases e : ixN xs.length i with
  | none => rw [e] at h; cases h
  | some j =>
    rw [e] at h
    obtain ⟨h1, h2, h3, h4⟩ := ixN_seq e
    exact ⟨j, h1, h, h2, h3, h4⟩
theorem atI_nat {α : Type} {xs : List α} {j : Nat} {v : α} (h : xs[j]? = some v) : atI xs (j : Int) = some v := by
  have hj : j < xs.length := (List.getElem?_eq_some_iff.mp h).1
  have e : ixN xs.length (j : Int) = some j := by
    unfold ixN
    rw [if_pos (by omega), if_pos (by omega)]; simp
  unfold atI; rw [e]; exact h
theorem atI_last {α : Type} (xs : List α) (v : α) : atI (xs ++ [v]) (-1) = some v := by
  have hl : (xs ++ [v]).length = xs.length + 1 := by simp
  have e : ixN (xs ++ [v]).length (-1) = some xs.length := by
    unfold ixN
    rw [hl, if_neg (by decide), if_pos (by omega)]
    congr 1
    omega
  unfold atI
  rw [e]
  show (xs ++ [v])[xs.length]? = some v
  simp

noncomputable def PlainIx (b : Expr) : Prop := ∀ o i, subscripted b false o i = operate [o, i] (getItem o i)
noncomputable def IxR (X : Cx) (r : R2) : Prop :=
  ∀ (value slice : Expr) (pins : List (Addr × Obj)) (s : Shared) (σ : St) (H : Hp) (x y : V) (v u : Value) (Q : VK), Inv X pins σ H s → RelV x v → RelV y u → r x y H Q →
    subscripted slice false v u = operate [v, u] (getItem v u) → wpAny (model X.prog X.w) X.A (subscriptTail value slice v u) (EP X pins σ Q) X.xe s
noncomputable def MtR (X : Cx) (id : String) (r : V → List V → Hp → VK → Prop) : Prop :=
  ∀ (pins : List (Addr × Obj)) (s : Shared) (σ : St) (H : Hp) (x : V) (xs : List V) (v : Value) (us : List Value) (Q : VK), Inv X pins σ H s → RelV x v → Vals xs us → r x xs H Q →
    wpAny (model X.prog X.w) X.A (call (.builtin id) (v :: us)) (EP X pins σ Q) X.xe s
section
variable {X : Cx} {a b : Expr} {ta tb : TE} {pos : Pos}
theorem pe_ix {r : R2} (hr : IxR X r) (ha : PE X a ta) (hb : PE X b tb) (hs : PlainIx b) : PE X (.Subscript a b pos) (tOp r ta tb) := by
  intro pins s σ H Q I h
  exact Subscript_ (binT ha hb I h fun v u s2 x y H2 I2 rx ry q => hr a b pins s2 σ H2 x y v u Q I2 rx ry q (hs _ _))

noncomputable def rIxL (K : PySem.W.Frag) : R2 := fun x y H Q => ∃ p xs i v, x = .ref p ∧ y = .int i ∧ SqL K H p xs ∧ atI xs i = some v ∧ Q v H
noncomputable def rIxT (K : PySem.W.Frag) : R2 := fun x y H Q => ∃ p xs i v, x = .ref p ∧ y = .int i ∧ SqT K H p xs ∧ atI xs i = some v ∧ Q v H
theorem ix_list : IxR X (rIxL X.K) := by
  intro value slice pins s σ H x y v u Q I rx ry h hs
  obtain ⟨p, xs, i, z, rfl, rfl, hq, he, q⟩ := h
  cases rx
  obtain ⟨t, rfl⟩ := ry
  obtain ⟨its, r, pl, hz⟩ := I.list hq
  obtain ⟨j, h1, h2, h3, h4, h5⟩ := atI_get he
  obtain ⟨w, ew, rw'⟩ := r.get h2
  have hl := r.length
  have hn := line63
  have fin : EP X pins σ Q w s := ⟨z, H, I, rw', q⟩
  by_cases h0 : 0 ≤ i
  · have hj : i.toNat = j := by
      rw [seqIndex_of h0 h5] at h1
      exact Option.some.inj h1
    exact item_listR pl.isList h0 (by omega) (by rw [hj]; simpa using ew) fin hs
  · have hj : (i + (its.toArray.size : Int)).toNat = j := by
      rw [seqIndex_neg (by omega) h4] at h1
      rw [List.size_toArray, ← hl]
      exact Option.some.inj h1
    exact subscriptTail_builtinR (x := w) pl.isList.typeIs slot_list_getitem.lookup
      (wpAny_getItem_list_neg (Q := fun r s' => r = w ∧ EP X pins σ Q r s') pl.isList (by omega) (by rw [List.size_toArray] <;> omega) (by omega) (by rw [hj]; simpa using ew) ⟨rfl, fin⟩) hs
theorem ix_tup : IxR X (rIxT X.K) := by
  intro value slice pins s σ H x y v u Q I rx ry h hs
  obtain ⟨p, xs, i, z, rfl, rfl, hq, he, q⟩ := h
  cases rx
  obtain ⟨t, rfl⟩ := ry
  obtain ⟨its, r, pl, hz⟩ := I.tuple hq
  obtain ⟨j, h1, h2, h3, h4, h5⟩ := atI_get he
  obtain ⟨w, ew, rw'⟩ := r.get h2
  have hl := r.length
  have hn := line63
  have fin : EP X pins σ Q w s := ⟨z, H, I, rw', q⟩
  exact subscriptTail_builtinR (x := w) pl.typeIs slot_tuple_getitem.lookup
    (getItem_tuple (j := j) (Q := fun r s' => r = w ∧ EP X pins σ Q r s') pl (by omega) (by omega) (by rw [List.size_toArray, ← hl]; exact h1) (by simpa using ew) ⟨rfl, fin⟩) hs

theorem mapSeq_set (its : List Value) (n j : Nat) (u : Value) : Obj.mapSeq (·.setIfInBounds j u) { cls := .type "list", data := .seq its.toArray n } = { cls := .type "list", data := .seq (its.set j u).toArray n } := by
  simp [Obj.mapSeq]
theorem Inv.lst {pins : List (Addr × Obj)} {σ : St} {H : Hp} {s : Shared} {p : Addr} {xs : List V} (I : Inv X pins σ H s) (h : H p = some (.lst xs)) :
    ∃ (its : List Value) (n : Nat), Vals xs its ∧ s.heap.get? p = some { cls := .type "list", data := .seq its.toArray n } ∧ xs.length ≤ sizeLine := by
  obtain ⟨z, its, n, r, e⟩ := I.hok p _ h
  exact ⟨its, n, r, e, z⟩
theorem Inv.lstUpd {pins : List (Addr × Obj)} {σ : St} {H : Hp} {s : Shared} {p : Addr} {xs ys : List V} {its its' : List Value} {n n' : Nat} {f : Obj → Obj} (I : Inv X pins σ H s) (h : H p = some (.lst xs))
    (ho : s.heap.get? p = some { cls := .type "list", data := .seq its.toArray n }) (hf : f { cls := .type "list", data := .seq its.toArray n } = { cls := .type "list", data := .seq its'.toArray n' }) (r : Vals ys its') (hz : ys.length ≤ sizeLine) (t : Nat) :
    Inv X pins σ (upd H p (.lst ys)) { s with heap := s.heap.update p f, toks := t } := by
  have e : (s.heap.update p f).get? p = some { cls := .type "list", data := .seq its'.toArray n' } := by
    rw [Heap.get?_update_self f ho (by rw [hf] <;> rfl), hf]
  refine I.write (x := p) (e := p) (by rw [h]; trivial) (.inl rfl) (fun b u hb q => (Heap.get?_update_other _ _ (Ne.symm hb)).trans q) ⟨_, e⟩ ?_
  exact ⟨hz, its', n', r, e⟩
noncomputable def rSetL : V → V → V → Hp → (Hp → Prop) → Prop := fun o i v H Q => ∃ p xs k j, o = .ref p ∧ i = .int k ∧ H p = some (.lst xs) ∧ ixN xs.length k = some j ∧ Q (upd H p (.lst (xs.set j v)))
theorem set_list : PSet X rSetL := by
  intro pins s σ H o i v ov iv u Q I ro ri rv h
  obtain ⟨p, xs, k, j, rfl, rfl, hp, hj, q⟩ := h
  cases ro
  obtain ⟨t, rfl⟩ := ri
  obtain ⟨its, n, r, ho, hz⟩ := I.lst hp
  obtain ⟨h1, h2, h3, h4⟩ := ixN_seq hj
  have hl := r.length
  have hn := line63
  have I' : Inv X pins σ (upd H p (.lst (xs.set j v))) { s with heap := s.heap.update p (Obj.mapSeq (·.setIfInBounds j u)) } :=
    I.lstUpd hp ho (mapSeq_set its n j u) (r.set rv j) (by rw [List.length_set]; exact hz) s.toks
  by_cases h0 : 0 ≤ k
  · have hk : k.toNat = j := by
      rw [seqIndex_of h0 h4] at h1
      exact Option.some.inj h1
    exact PySem.W.ki_setAt ho h0 (by omega) (by rw [List.size_toArray, ← hl]; exact h4) (by rw [hk]; exact ⟨_, I', q⟩)
  · have hk : (k + (its.toArray.size : Int)).toNat = j := by
      rw [seqIndex_neg (by omega) h3] at h1
      rw [List.size_toArray, ← hl]
      exact Option.some.inj h1
    exact PySem.W.ki_setBack ho (by omega) (by rw [List.size_toArray, ← hl]; exact h3) (by omega) (by rw [hk]; exact ⟨_, I', q⟩)

theorem slice_bounds (lo hi : Option Int) (n : Nat) : (sliceBounds lo hi none n).1 = ((HT.sIx n 0 lo : Nat) : Int) ∧ (sliceBounds lo hi none n).2.1 = ((HT.sIx n n hi : Nat) : Int) ∧ (sliceBounds lo hi none n).2.2 = 1 := by
  refine ⟨?_, ?_, rfl⟩
  · cases lo with
    | none => simp [sliceBounds, HT.sIx]
    | some i =>
      simp only [sliceBounds, HT.sIx, Option.getD_none, show (1 : Int) > 0 by decide, if_true]
      by_cases h : i < 0
      · simp only [h, if_true] <;> omega
      · simp only [h, if_false] <;> omega
  · cases hi with
    | none => simp [sliceBounds, HT.sIx]
    | some i =>
      simp only [sliceBounds, HT.sIx, Option.getD_none, show (1 : Int) > 0 by decide, if_true]
      by_cases h : i < 0
      · simp only [h, if_true] <;> omega
      · simp only [h, if_false] <;> omega
theorem slicePick_cut (its : List Value) (lo hi : Option Int) : slicePick its.toArray lo hi none = ((its.drop (HT.sIx its.length 0 lo)).take (HT.sIx its.length its.length hi - HT.sIx its.length 0 lo)).toArray := by
  obtain ⟨h1, h2, h3⟩ := slice_bounds lo hi its.toArray.size
  unfold slicePick
  rw [h1, h2, h3]
  simp only [sliceRange_one, pick_run, List.size_toArray] <;> rfl
noncomputable def rSlL (K : PySem.W.Frag) : V → Option Int → Option Int → Hp → VK → Prop := fun x lo hi H Q => ∃ a xs, x = .ref a ∧ SqL K H a xs ∧ ∀ p, H p = none → Q (.ref p) (upd H p (.lst (cutV xs lo hi)))
theorem sl_list : SlR X (rSlL X.K) := by
  intro pins s σ H x v vl vu lo hi sl Q I rx hs pl pu h
  obtain ⟨a, xs, rfl, hx, q⟩ := h
  cases rx
  obtain ⟨its, r, ht, hz⟩ := I.list hx
  have hlen := r.length
  refine ⟨"list", _, slot_list_getitem.lookup, ht.isList.typeIs, ?_⟩
  refine wpAny_getItem_list_slice ht.isList hs pl pu .none (by simp) ?_ (by rw [List.size_toArray] <;> omega)
  rw [slicePick_cut, ← hlen]
  refine ⟨.ref s.heap.objs.size, _, I.laid (t' := s.toks) (o := .lst (cutV xs lo hi)) (fun b ob q => Heap.get?_push_of_some _ q) (Nat.le_refl _) ?_, rfl, q _ (I.hok.fresh (Nat.le_refl _))⟩
  exact ⟨Nat.le_trans (cutV_length xs lo hi) hz, _, 0, (r.drop (HT.sIx xs.length 0 lo)).take (HT.sIx xs.length xs.length hi - HT.sIx xs.length 0 lo), Heap.get?_push_size _ rfl⟩

noncomputable def flatV : V → Bool
  | .non => true
  | .bl _ => true
  | .int _ => true
  | .str _ => true
  | _ => false
noncomputable def eqV : V → V → Bool
  | .non, .non => true
  | .bl a, .bl b => a == b
  | .bl a, .int b => (if a then 1 else 0) == b
  | .int a, .bl b => a == (if b then 1 else 0)
  | .int a, .int b => a == b
  | .str a, .str b => a == b
  | _, _ => false
theorem eqAt_V {A : Around} {s : Shared} {y x : V} {u v : Value} (ry : RelV y u) (rx : RelV x v) (fy : flatV y = true) (fx : flatV x = true) : SeqAt.EqAt A s u v (eqV y x) := by
  cases y with
  | non =>
    cases ry
    cases x with
    | non => cases rx; exact SeqAt.EqAt.same _
    | bl b => cases rx; exact SeqAt.EqAt.none_bool b
    | int b => obtain ⟨t, rfl⟩ := rx; exact SeqAt.EqAt.none_int b t
    | str b => obtain ⟨t, rfl⟩ := rx; exact SeqAt.EqAt.none_str b t
    | _ => exact absurd (show false = true from fx) Bool.false_ne_true
  | bl a =>
    cases ry
    cases x with
    | non => cases rx; exact SeqAt.EqAt.bool_none a
    | bl b => cases rx; exact SeqAt.EqAt.bool_bool a b
    | int b => obtain ⟨t, rfl⟩ := rx; exact SeqAt.EqAt.bool_int a b t
    | str b => obtain ⟨t, rfl⟩ := rx; exact SeqAt.EqAt.bool_str a b t
    | _ => exact absurd (show false = true from fx) Bool.false_ne_true
  | int a =>
    obtain ⟨t', rfl⟩ := ry
    cases x with
    | non => cases rx; exact SeqAt.EqAt.int_none a t'
    | bl b => cases rx; exact SeqAt.EqAt.int_bool a t' b
    | int b => obtain ⟨t, rfl⟩ := rx; exact SeqAt.EqAt.int_int a t' b t
    | str b => obtain ⟨t, rfl⟩ := rx; exact SeqAt.EqAt.int_str a t' b t
    | _ => exact absurd (show false = true from fx) Bool.false_ne_true
  | str a =>
    obtain ⟨t', rfl⟩ := ry
    cases x with
    | non => cases rx; exact SeqAt.EqAt.str_none a t'
    | bl b => cases rx; exact SeqAt.EqAt.str_bool a t' b
    | int b => obtain ⟨t, rfl⟩ := rx; exact SeqAt.EqAt.str_int a t' b t
    | str b => obtain ⟨t, rfl⟩ := rx; exact SeqAt.EqAt.str_str a t' b t
    | _ => exact absurd (show false = true from fx) Bool.false_ne_true
  | _ => exact absurd (show false = true from fy) Bool.false_ne_true
noncomputable def eqU (x : V) (u : Value) : Bool := match u with
  | .none => eqV .non x
  | .bool b => eqV (.bl b) x
  | .int i _ => eqV (.int i) x
  | .str z _ => eqV (.str z) x
  | _ => false
theorem eqU_of {x y : V} {u : Value} (r : RelV y u) (f : flatV y = true) : eqU x u = eqV y x := by
  cases y with
  | non => cases r; rfl
  | bl b => cases r; rfl
  | int i => obtain ⟨t, rfl⟩ := r; rfl
  | str z => obtain ⟨t, rfl⟩ := r; rfl
  | _ => exact absurd (show false = true from f) Bool.false_ne_true
theorem any_eqU {x : V} : ∀ {xs : List V} {us : List Value}, Vals xs us → xs.all flatV = true → us.any (eqU x) = xs.any fun y => eqV y x
  | _, _, .nil, _ => rfl
  | y :: xs, u :: us, .cons r t, f => by
    rw [List.all_cons, Bool.and_eq_true] at f
    rw [List.any_cons, List.any_cons, eqU_of r f.1, any_eqU t f.2]
theorem mem_eqAt {A : Around} {s : Shared} {x : V} {v : Value} (rx : RelV x v) (fx : flatV x = true) : ∀ {xs : List V} {us : List Value}, Vals xs us → xs.all flatV = true → ∀ u ∈ us, SeqAt.EqAt A s u v (eqU x u)
  | _, _, .nil, _ => fun u hu => by cases hu
  | y :: xs, u :: us, .cons r t, f => fun u' hu => by
    rw [List.all_cons, Bool.and_eq_true] at f
    rcases List.mem_cons.mp hu with rfl | hu
    · rw [eqU_of r f.1]; exact eqAt_V r rx f.1 fx
    · exact mem_eqAt rx fx t f.2 u' hu
noncomputable def inV (x : V) (xs : List V) : Bool := xs.any fun y => eqV y x
noncomputable def rIn (K : PySem.W.Frag) (neg : Bool) : R2 := fun x y H Q => ∃ p xs, y = .ref p ∧ (SqL K H p xs ∨ SqT K H p xs) ∧ flatV x = true ∧ xs.all flatV = true ∧ Q (.bl (if neg then !inV x xs else inV x xs)) H
theorem op_in_seq : OpR X (compareOp .In) (rIn X.K false) := by
  intro pins s σ H x y v u Q I rx ry h
  obtain ⟨p, xs, rfl, hq, fx, fs, q⟩ := h
  cases ry
  rcases hq with hq | hq
  · obtain ⟨its, r, pl, hz⟩ := I.list hq
    refine SeqAt.in_listAt (eqU x) pl.isList (fun w hw => mem_eqAt rx fx r fs w (by simpa using hw)) ⟨.bl _, H, I, rfl, ?_⟩
    rw [show its.toArray.any (eqU x) = its.any (eqU x) by simp, any_eqU r fs]
    exact q
  · obtain ⟨its, r, pl, hz⟩ := I.tuple hq
    refine SeqAt.in_tupleAt (eqU x) pl (fun w hw => mem_eqAt rx fx r fs w (by simpa using hw)) ⟨.bl _, H, I, rfl, ?_⟩
    rw [show its.toArray.any (eqU x) = its.any (eqU x) by simp, any_eqU r fs]
    exact q
theorem op_notIn_seq : OpR X (compareOp .NotIn) (rIn X.K true) := by
  intro pins s σ H x y v u Q I rx ry h
  obtain ⟨p, xs, rfl, hq, fx, fs, q⟩ := h
  cases ry
  rcases hq with hq | hq
  · obtain ⟨its, r, pl, hz⟩ := I.list hq
    refine SeqAt.notIn_listAt (eqU x) pl.isList (fun w hw => mem_eqAt rx fx r fs w (by simpa using hw)) ⟨.bl _, H, I, rfl, ?_⟩
    rw [show its.toArray.any (eqU x) = its.any (eqU x) by simp, any_eqU r fs]
    exact q
  · obtain ⟨its, r, pl, hz⟩ := I.tuple hq
    refine SeqAt.notIn_tupleAt (eqU x) pl (fun w hw => mem_eqAt rx fx r fs w (by simpa using hw)) ⟨.bl _, H, I, rfl, ?_⟩
    rw [show its.toArray.any (eqU x) = its.any (eqU x) by simp, any_eqU r fs]
    exact q

theorem call_len_seq : CallR X (.builtin "len") (fun xs H Q => ∃ p ys, xs = [.ref p] ∧ (SqL X.K H p ys ∨ SqT X.K H p ys) ∧ Q (.int ys.length) H) := by
  intro pins s σ H xs us Q I r h
  obtain ⟨p, ys, rfl, hq, q⟩ := h
  obtain ⟨u, rfl, rx⟩ := vals1 r
  cases rx
  have hn := line63
  rcases hq with hq | hq
  · obtain ⟨its, r', pl, hz⟩ := I.list hq
    have hlen := r'.length
    exact Calls.call_len_list pl.isList (by simp only [List.size_toArray] <;> omega) ⟨.int ys.length, H, I.tok _, ⟨s.toks + 1, by rw [List.size_toArray, hlen]⟩, q⟩
  · obtain ⟨its, r', pl, hz⟩ := I.tuple hq
    have hlen := r'.length
    exact len_tuple pl (by simp only [List.size_toArray] <;> omega) ⟨.int ys.length, H, I.tok _, ⟨s.toks + 1, by rw [List.size_toArray, hlen]⟩, q⟩
theorem call_list_of : CallR X (.type "list") (fun xs H Q => ∃ p ys, xs = [.ref p] ∧ (SqL X.K H p ys ∨ SqT X.K H p ys) ∧ ∀ l, H l = none → Q (.ref l) (upd H l (.lst ys))) := by
  intro pins s σ H xs us Q I r h
  obtain ⟨p, ys, rfl, hq, q⟩ := h
  obtain ⟨u, rfl, rx⟩ := vals1 r
  cases rx
  have fin : ∀ (its : List Value), Vals ys its → ys.length ≤ sizeLine → ∀ (h' : Heap) (c' : Nat), (∀ b o', s.heap.get? b = some o' → h'.get? b = some o') →
      h'.get? s.heap.objs.size = some { cls := .type "list", dict := none, data := .seq its.toArray c', slots := #[] } → EP X pins σ Q (.ref s.heap.objs.size) { s with heap := h' } := fun its r' hz h' c' kp e =>
    ⟨.ref s.heap.objs.size, _, I.laid (t' := s.toks) kp (Nat.le_refl _) (show ObjOk X.prog X.w _ h' _ (.lst ys) from ⟨hz, its, c', r', e⟩), rfl, q _ (I.hok.fresh (Nat.le_refl _))⟩
  rcases hq with hq | hq
  · obtain ⟨its, r', pl, hz⟩ := I.list hq
    have hlen := r'.length
    obtain ⟨o, ho, hc, n, hd⟩ := pl.isList
    exact call_list_seq p (.inl rfl) ho hc hd (fun h' c' kp e => fin its r' hz h' c' kp e) (by simp only [List.size_toArray] <;> omega)
  · obtain ⟨its, r', pl, hz⟩ := I.tuple hq
    have hlen := r'.length
    obtain ⟨o, ho, hc, n, hd⟩ := pl
    exact call_list_seq p (.inr rfl) ho hc hd (fun h' c' kp e => fin its r' hz h' c' kp e) (by simp only [List.size_toArray] <;> omega)
theorem call_tuple_of : CallR X (.type "tuple") (fun xs H Q => ∃ p ys, xs = [.ref p] ∧ ((SqL X.K H p ys ∧ ∀ l, H l = none → Q (.ref l) (upd H l (.tup ys))) ∨ (SqT X.K H p ys ∧ Q (.ref p) H))) := by
  intro pins s σ H xs us Q I r h
  obtain ⟨p, ys, rfl, h⟩ := h
  obtain ⟨u, rfl, rx⟩ := vals1 r
  cases rx
  rcases h with ⟨hq, q⟩ | ⟨hq, q⟩
  · obtain ⟨its, r', pl, hz⟩ := I.list hq
    have hlen := r'.length
    refine call_tuple_list pl.isList (fun h' kp => ?_) (by simp only [List.size_toArray] <;> omega)
    have I1 : Inv X pins σ H { s with heap := h' } := I.kept (t' := s.toks) kp
    have I2 : Inv X pins σ (upd H h'.objs.size (.tup ys)) { s with heap := h'.push { cls := .type "tuple", data := .seq its.toArray } } :=
      I1.laid (t' := s.toks) (fun b o e => Heap.get?_push_of_some _ e) (Nat.le_refl _) (show ObjOk X.prog X.w _ _ _ (.tup ys) from ⟨hz, its, r', IsTup.new _ _⟩)
    exact ⟨.ref h'.objs.size, _, I2, rfl, q _ (I1.hok.fresh (Nat.le_refl _))⟩
  · obtain ⟨its, r', pl, hz⟩ := I.tuple hq
    exact call_tuple_same pl ⟨.ref p, H, I, rfl, q⟩

noncomputable def tyV (K : PySem.W.Frag) (T : String) (x : V) (H : Hp) : Prop := match x with
  | .str _ => T = "str"
  | .int _ => T = "int"
  | .ref p => (T = "list" ∧ ∃ xs, SqL K H p xs) ∨ (T = "tuple" ∧ ∃ o, K.lookup p = some o ∧ o.cls = .type "tuple" ∧ o.dict = none) ∨
      (T = "dict" ∧ ((∃ kvs, H p = some (.dK kvs)) ∨ ∃ kvs, H p = some (.dT kvs))) ∨ (T = "set" ∧ ∃ S n, H p = some (.set S n))
  | _ => False
theorem tyV_is {pins : List (Addr × Obj)} {σ : St} {H : Hp} {s : Shared} {T : String} {x : V} {v : Value} (I : Inv X pins σ H s) (r : RelV x v) (ty : tyV X.K T x H) :
    s.TypeIs v T ∧ ∀ a, v = .ref a → ∃ ob, s.heap.get? a = some ob ∧ ob.dict = none := by
  cases x with
  | str z =>
    obtain ⟨t, rfl⟩ := r
    cases (show T = "str" from ty)
    exact ⟨typeIs_str s z t, fun _ e => nomatch e⟩
  | int i =>
    obtain ⟨t, rfl⟩ := r
    cases (show T = "int" from ty)
    exact ⟨typeIs_int s i t, fun _ e => nomatch e⟩
  | ref p =>
    cases r
    rcases ty with ⟨rfl, xs, hq⟩ | ⟨rfl, o, hk, hc, hd⟩ | ⟨rfl, hk⟩ | ⟨rfl, S, n, hk⟩
    · obtain ⟨its, _, pl, _⟩ := I.list hq
      refine ⟨pl.isList.typeIs, fun a e => ?_⟩
      cases e
      obtain ⟨o, n, e, c, hd, _⟩ := pl
      exact ⟨o, e, hd⟩
    · refine ⟨⟨o, I.kIn p o hk, hc⟩, fun a e => ?_⟩
      cases e
      exact ⟨o, I.kIn _ o hk, hd⟩
    · have z : ∃ o, s.heap.get? p = some o ∧ o.ExactDict := by
        rcases hk with ⟨kvs, hk⟩ | ⟨kvs, hk⟩
        · obtain ⟨_, _, _, _, o, _, _, e, ex, _⟩ := I.hok p _ hk
          exact ⟨o, e, ex⟩
        · obtain ⟨_, _, _, _, o, _, _, e, ex, _⟩ := I.hok p _ hk
          exact ⟨o, e, ex⟩
      obtain ⟨o, e, ex⟩ := z
      refine ⟨⟨o, e, ex.1⟩, fun a e2 => ?_⟩
      cases e2
      exact ⟨o, e, ex.2.1⟩
    · obtain ⟨o, _, _, _, e, ex, _⟩ := I.hok p _ hk
      refine ⟨⟨o, e, ex.1⟩, fun a e2 => ?_⟩
      cases e2
      exact ⟨o, e, ex.2.1⟩
  | _ => exact False.elim ty
noncomputable def tBM (K : PySem.W.Frag) (T : String) (r : V → List V → Hp → VK → Prop) (to : TE) (t : TA) : TE := fun σ H Q => to σ H fun x H1 => tyV K T x H1 ∧ t σ H1 fun xs H2 => r x xs H2 Q
variable {o e : Expr} {es : List Expr} {to : TE} {t : TA} {name : Str} {apos cpos : Pos} {T id : String} {r : V → List V → Hp → VK → Prop}
theorem pe_bm (pa : PlainAttrs T) (slot : Slot T name id) (hty : typeOf (.builtin id) = pure (.type "method_descriptor")) (hm : MtR X id r) (ho : PE X o to) (ha : PA X (e :: es) t)
    (hbase : attributeBase o name X.env (eval o X.env) = eval o X.env := by rfl)
    (hfew : ((backTo cpos (starEach (e :: es) X.env)).all (fun x => !x.1) && (backToKw cpos (keywordEach [] X.env)).all (fun x => x.1.isSome)
      && decide ((e :: es).length + ([] : List Keyword).length + (if ([] : List Keyword).isEmpty then 0 else 1) < 30)) = true := by rfl)
    (hline : (apos.endLine == cpos.line) = true := by rfl) (hs : starEach (e :: es) X.env = (false, eval e X.env) :: starEach es X.env := by rfl) (hplain : (backTo cpos (starEach es X.env)).any (·.1) = false := by rfl) :
    PE X (.Call (.Attribute o name apos) (e :: es) [] cpos) (tBM X.K T r to t) := by
  intro pins s σ H Q I h
  refine wpAny_Call_method_late hbase hfew hline rfl (thn (ho pins s σ H _ I h) fun v s1 zz => ?_)
  obtain ⟨x, H1, I1, r1, ty, q1⟩ := zz
  obtain ⟨h1, h2⟩ := tyV_is I1 r1 ty
  refine ⟨T, id, pa, slot, hty, h1, h2, ?_⟩
  have hA := ha cpos pins s1 σ H1 _ I1 q1
  rw [hs] at hA ⊢
  refine Calls.callWith_builtin (by show (false || (backTo cpos (starEach es X.env)).any (·.1)) = false; rw [hplain] <;> rfl) (Calls.evalArgs_plain ?_)
  exact thn hA fun us s2 ⟨vs, H2, I2, r2, q2⟩ => hm pins s2 σ H2 x vs v us Q I2 r1 r2 q2
/- xs.append(e), list.index on a module's tuple .. are MtR facts of 06m -/
end
end L2

namespace L2
open PySem PySem.Spec PyProof.Rows

noncomputable def MtM (X : Cx) (id : String) (r : V → List V → Hp → VK → Prop) : Prop :=
  ∀ (pins : List (Addr × Obj)) (s : Shared) (σ : St) (H : Hp) (x : V) (xs : List V) (v : Value) (us : List Value) (Q : VK), Inv X pins σ H s → RelV x v → Vals xs us → r x xs H Q →
    wpAny (model X.prog X.w) X.A (call (.builtin id) (v :: us)) (EP X pins σ Q) X.xe s

theorem Vals.one : ∀ {x : V} {us : List Value}, Vals [x] us → ∃ u, us = [u] ∧ RelV x u
  | _, _, .cons r .nil => ⟨_, rfl, r⟩
theorem Vals.rep {xs : List V} {us : List Value} (h : Vals xs us) : ∀ k : Nat, Vals (List.replicate k xs).flatten (List.replicate k us).flatten
  | 0 => .nil
  | k + 1 => by
    rw [List.replicate_succ, List.replicate_succ, List.flatten_cons, List.flatten_cons]
    exact Vals.append h (Vals.rep h k)
theorem foldl_rep (its : List Value) : ∀ (k : Nat) (acc : List Value),
    List.foldl (fun x1 x2 => x1 ++ x2) acc.toArray (List.replicate k its.toArray) = (acc ++ (List.replicate k its).flatten).toArray
  | 0, acc => by simp
  | k + 1, acc => by
    have e : acc.toArray ++ its.toArray = (acc ++ its).toArray := by simp
    have e2 : (acc ++ its) ++ (List.replicate k its).flatten = acc ++ (List.replicate (k + 1) its).flatten := by
      rw [List.replicate_succ, List.flatten_cons, List.append_assoc]
    rw [← e2, ← foldl_rep its k (acc ++ its), ← e, List.replicate_succ, List.foldl_cons]

section
variable {X : Cx} {pins : List (Addr × Obj)} {σ : St} {H : Hp} {s : Shared} {l b : Addr} {xs ys zs : List V}

theorem Inv.lset {its its' : List Value} {n : Nat} {f : Array Value → Array Value} {t' : Nat} (I : Inv X pins σ H s) (hH : H l = some (.lst xs))
    (e : s.heap.get? l = some { cls := .type "list", data := .seq its.toArray n }) (hf : f its.toArray = its'.toArray) (hv : Vals ys its') (hz : ys.length ≤ sizeLine) :
    Inv X pins σ (upd H l (.lst ys)) { s with heap := s.heap.update l (Obj.mapSeq f), toks := t' } := by
  have q := PySem.IsL.update e f
  rw [hf] at q
  refine I.write (x := l) (e := l) (by rw [hH]; exact trivial) (.inl rfl) (fun b' u hb hu => (Heap.get?_update_other s.heap (Obj.mapSeq f) (Ne.symm hb)).trans hu) ⟨_, q⟩ ?_
  exact ⟨hz, its', _, hv, q⟩
theorem Inv.lnew {its : List Value} {t' : Nat} (I : Inv X pins σ H s) (hv : Vals ys its) (hz : ys.length ≤ sizeLine) :
    Inv X pins σ (upd H s.heap.objs.size (.lst ys)) { s with heap := s.heap.push { cls := .type "list", data := .seq its.toArray }, toks := t' } :=
  I.laid (fun _ _ q => Heap.get?_push_of_some _ q) (Nat.le_refl _) ⟨hz, its, 0, hv, Heap.get?_push_size _ rfl⟩
theorem Inv.fresh (I : Inv X pins σ H s) : H s.heap.objs.size = none := I.hok.fresh (Nat.le_refl _)
theorem Inv.lstM (I : Inv X pins σ H s) (hH : H l = some (.lst xs)) : xs.length ≤ sizeLine ∧ ∃ (its : List Value) (n : Nat), Vals xs its ∧ xs.length = its.length ∧ s.heap.get? l = some { cls := .type "list", data := .seq its.toArray n } := by
  obtain ⟨z, its, n, r, e⟩ := I.hok l _ hH
  exact ⟨z, its, n, r, r.length, e⟩

theorem notLongL {n : Nat} (h : n ≤ sizeLine) : Builtin.List.listTooLong n = false := by
  unfold Builtin.List.listTooLong
  exact decide_eq_false (by omega)
end

section
variable {X : Cx}

noncomputable def rAppend : V → List V → Hp → VK → Prop := fun x vs H Q => ∃ l xs y, x = .ref l ∧ vs = [y] ∧ H l = some (.lst xs) ∧ xs.length < sizeLine ∧ Q .non (upd H l (.lst (xs ++ [y])))
theorem mt_append : MtM X "list.append" rAppend := by
  intro pins s σ H x vs v us Q I rx rv h
  obtain ⟨l, xs, y, rfl, rfl, hH, hz, q⟩ := h
  cases rx
  obtain ⟨u, rfl, ru⟩ := rv.one
  obtain ⟨z, its, n, r, hl, e⟩ := I.lstM hH
  refine call_meets F.slot_list_append ⟨_, e, rfl⟩ F.entry_list_append (F.args_list_append_2 _ _) (PySem.list_append l its.toArray n u (by rw [List.size_toArray]; omega)) ⟨e, ?_⟩
  refine ⟨.non, _, I.lset (its' := its ++ [u]) hH e (by simp) (r.append (.cons ru .nil)) ?_, rfl, q⟩
  rw [List.length_append, List.length_singleton]
  omega






noncomputable def rCat : R2 := fun x y H Q => ∃ l b xs zs, x = .ref l ∧ y = .ref b ∧ H l = some (.lst xs) ∧ H b = some (.lst zs) ∧ xs.length + zs.length ≤ sizeLine ∧ ∀ p, H p = none → Q (.ref p) (upd H p (.lst (xs ++ zs)))
theorem op_cat : OpR X (binaryOp .Add) rCat := by
  intro pins s σ H x y v u Q I rx ry h
  obtain ⟨l, b, xs, zs, rfl, rfl, hH, hB, hz, q⟩ := h
  cases rx
  cases ry
  obtain ⟨z, its, n, r, hl, e⟩ := I.lstM hH
  obtain ⟨z2, its2, n2, r2, hl2, e2⟩ := I.lstM hB
  refine PySem.P.add_list e e2 ?_ (by rw [List.size_toArray, List.size_toArray]; omega)
  have ea : its.toArray ++ its2.toArray = (its ++ its2).toArray := by simp
  rw [ea]
  exact ⟨.ref _, _, I.lnew (t' := s.toks) (r.append r2) (by rw [List.length_append]; omega), rfl, q _ I.fresh⟩
noncomputable def rRep : R2 := fun x y H Q => ∃ l k xs, x = .ref l ∧ y = .int k ∧ H l = some (.lst xs) ∧ -(2 ^ 63) ≤ k ∧ k < 2 ^ 63 ∧ xs.length * k.toNat ≤ sizeLine ∧
  ∀ p, H p = none → Q (.ref p) (upd H p (.lst (List.replicate k.toNat xs).flatten))
theorem len_rep {α : Type} (xs : List α) (k : Nat) : (List.replicate k xs).flatten.length = k * xs.length := by
  induction k with
  | zero => simp
  | succ k ih => rw [List.replicate_succ, List.flatten_cons, List.length_append, ih, Nat.succ_mul, Nat.add_comm]
theorem op_rep : OpR X (binaryOp .Mult) rRep := by
  intro pins s σ H x y v u Q I rx ry h
  obtain ⟨l, k, xs, rfl, rfl, hH, h1, h2, hz, q⟩ := h
  cases rx
  obtain ⟨t, rfl⟩ := ry
  obtain ⟨z, its, n, r, hl, e⟩ := I.lstM hH
  have hlen : its.toArray.size * k.toNat ≤ sizeLine := by rw [List.size_toArray, ← hl]; exact hz
  have hcap : ¬ its.toArray.size * k.toNat > (2 ^ 63 - 1) / 8 := by
    have : (sizeLine : Nat) ≤ (2 ^ 63 - 1) / 8 := by decide
    omega
  have hfit : ¬ (!Builtin.List.listFitsIndex k) = true := by
    rw [fitsIndex_both h1 h2]
    exact Bool.false_ne_true
  have hlong : ¬ Builtin.List.listTooLong (its.toArray.size * k.toNat) = true := by
    rw [notLongL hlen]
    exact Bool.false_ne_true
  have hnew : List.foldl (fun x1 x2 => x1 ++ x2) #[] (List.replicate (if its.toArray.isEmpty = true then 0 else k.toNat) its.toArray) = (List.replicate k.toNat its).flatten.toArray := by
    have f0 : ∀ m : Nat, List.foldl (fun x1 x2 => x1 ++ x2) #[] (List.replicate m its.toArray) = (List.replicate m its).flatten.toArray := fun m => by
      have := foldl_rep its m []
      rw [List.nil_append] at this
      exact this
    rw [f0]
    cases its with
    | nil => simp
    | cons a r' => rw [if_neg (by simp)]
  refine wpAny_binaryOp_repeat_ref (T := "list") (U := "int") (by decide) ⟨_, e, rfl⟩ (fun s' => typeIs_int s' k t) noFill_list_mul F.fills_int_mul F.slot_int_rmul repeat_list F.slot_int_index.lookup
    (call_meets F.slot_int_rmul (typeIs_int s k t) F.entry_int_rmul (F.args_int_rmul_2 _ _) (int___rmul___int_list k t l its.toArray n)
      ⟨e, rfl, ⟨_, e, rfl⟩, call_meets F.slot_list_mul ⟨_, e, rfl⟩ F.entry_list_mul (F.args_list_mul_2 _ _) (AutoListH.list___mul___list_int_3 l its.toArray n k t hfit hcap hlong) ⟨e, ?_⟩⟩)
  rw [hnew]
  exact ⟨.ref _, _, I.lnew (t' := s.toks) (r.rep k.toNat) (by rw [len_rep, Nat.mul_comm]; exact hz), rfl, q _ I.fresh⟩

end

section
variable {prog : Program} {w : World} {A : Around} {E : Value → Shared → Prop} {s : Shared}
set_option maxRecDepth 100000 in
end

section
variable {X : Cx}
end
end L2

namespace L2
open PySem PySem.Spec PyProof.Rows

section
variable {κ : Type} [DecidableEq κ]
noncomputable def valV (kvs : List (κ × V)) (k : κ) : Option V := (kvs.find? fun kv => decide (kv.1 = k)).map (·.2)
noncomputable def putK (kvs : List (κ × V)) (k : κ) (v : V) : List (κ × V) :=
  if (kvs.any fun kv => decide (kv.1 = k)) = true then kvs.map (fun kv => if kv.1 = k then (kv.1, v) else kv) else kvs ++ [(k, v)]
noncomputable def dropK (kvs : List (κ × V)) (k : κ) : List (κ × V) := kvs.filter fun kv => decide (kv.1 ≠ k)

theorem valV_pos {p : κ × V} {r : List (κ × V)} {k : κ} (e : p.1 = k) : valV (p :: r) k = some p.2 := by simp [valV, List.find?_cons, e]
theorem valV_neg {p : κ × V} {r : List (κ × V)} {k : κ} (e : ¬ p.1 = k) : valV (p :: r) k = valV r k := by simp [valV, List.find?_cons, e]
theorem valV_any (k : κ) : ∀ kvs : List (κ × V), (kvs.any fun kv => decide (kv.1 = k)) = (valV kvs k).isSome
  | [] => rfl
  | p :: r => by
    rw [List.any_cons]
    by_cases e : p.1 = k
    · simp only [valV_pos e, decide_eq_true e, Bool.true_or, Option.isSome_some]
    · rw [valV_neg e, decide_eq_false e, Bool.false_or]; exact valV_any k r
theorem valV_map (k j : κ) (y : V) : ∀ kvs : List (κ × V), valV (kvs.map fun kv => if kv.1 = k then (kv.1, y) else kv) j = (valV kvs j).map fun x => if j = k then y else x
  | [] => rfl
  | p :: r => by
    have ih := valV_map k j y r
    rw [List.map_cons]
    by_cases h : p.1 = k
    · rw [if_pos h]
      by_cases e : p.1 = j
      · rw [valV_pos (p := (p.1, y)) e, valV_pos e, Option.map_some, if_pos (e.symm.trans h)]
      · rw [valV_neg (p := (p.1, y)) e, valV_neg e, ih]
    · rw [if_neg h]
      by_cases e : p.1 = j
      · rw [valV_pos (p := p) e, valV_pos e, Option.map_some, if_neg (fun z => h (e.trans z))]
      · rw [valV_neg (p := p) e, valV_neg e, ih]
theorem valV_snoc (k j : κ) (y : V) : ∀ kvs : List (κ × V), valV kvs k = none → valV (kvs ++ [(k, y)]) j = if j = k then some y else valV kvs j
  | [], _ => by
    by_cases e : k = j
    · rw [if_pos e.symm]; exact valV_pos (p := (k, y)) e
    · rw [if_neg (fun z => e z.symm)]; exact valV_neg (p := (k, y)) e
  | p :: r, hn => by
    rw [List.cons_append]
    have hk : ¬ p.1 = k := fun z => by rw [valV_pos z] at hn; cases hn
    rw [valV_neg hk] at hn
    have ih := valV_snoc k j y r hn
    by_cases e : p.1 = j
    · rw [valV_pos e, valV_pos e, if_neg (fun z => hk (e.trans z))]
    · rw [valV_neg e, valV_neg e, ih]
theorem valV_put (kvs : List (κ × V)) (k j : κ) (y : V) : valV (putK kvs k y) j = if j = k then some y else valV kvs j := by
  unfold putK
  by_cases a : (kvs.any fun kv => decide (kv.1 = k)) = true
  · rw [if_pos a, valV_map]
    rw [valV_any] at a
    by_cases e : j = k
    · obtain ⟨x, hx⟩ := Option.isSome_iff_exists.mp a
      rw [if_pos e, e, hx, Option.map_some, if_pos rfl]
    · rw [if_neg e]
      cases valV kvs j with
      | none => rfl
      | some x => rw [Option.map_some, if_neg e]
  · rw [if_neg a]
    refine valV_snoc k j y kvs ?_
    rw [valV_any] at a
    cases q : valV kvs k with
    | none => rfl
    | some x => rw [q] at a; exact (a rfl).elim
theorem length_putK (kvs : List (κ × V)) (k : κ) (v : V) : (putK kvs k v).length ≤ kvs.length + 1 := by
  unfold putK
  split
  · rw [List.length_map]; omega
  · rw [List.length_append, List.length_cons, List.length_nil]; omega

theorem RelO.isSome_eq {o : Option V} {u : Option Value} (r : RelO o u) : o.isSome = u.isSome := by
  cases o with
  | none => cases u with
    | none => rfl
    | some _ => exact (show False from r).elim
  | some _ => cases u with
    | none => exact (show False from r).elim
    | some _ => rfl
theorem RelO.getD {o : Option V} {u : Option Value} {d : V} {d' : Value} (r : RelO o u) (rd : RelV d d') : RelV (o.getD d) (u.getD d') := by
  cases o with
  | none => cases u with
    | none => exact rd
    | some _ => exact (show False from r).elim
  | some _ => cases u with
    | none => exact (show False from r).elim
    | some _ => exact r

theorem KV.val {kvs : List (κ × V)} {vs : List (κ × Value)} (r : KV kvs vs) (k : κ) : RelO (valV kvs k) (valueAt vs k) := by
  unfold KV at r
  induction r with
  | nil => exact True.intro
  | @cons p q ps qs h t ih =>
    obtain ⟨h1, h2⟩ := h
    by_cases e : p.1 = k
    · have e' : q.1 = k := h1.symm.trans e
      have b : valueAt (q :: qs) k = some q.2 := by simp [valueAt, List.find?_cons, e']
      rw [valV_pos e, b]; exact h2
    · have e' : ¬ q.1 = k := fun z => e (h1.trans z)
      have b : valueAt (q :: qs) k = valueAt qs k := by simp [valueAt, List.find?_cons, e']
      rw [valV_neg e, b]; exact ih
theorem KV.any {kvs : List (κ × V)} {vs : List (κ × Value)} (r : KV kvs vs) (k : κ) : (kvs.any fun kv => decide (kv.1 = k)) = vs.any fun kv => decide (kv.1 = k) := by
  unfold KV at r
  induction r with
  | nil => rfl
  | cons h t ih => rw [List.any_cons, List.any_cons, ih, h.1]
theorem KV.repl {kvs : List (κ × V)} {vs : List (κ × Value)} (r : KV kvs vs) (k : κ) {y : V} {u : Value} (ry : RelV y u) :
    KV (kvs.map fun kv => if kv.1 = k then (kv.1, y) else kv) (vs.map fun kv => if kv.1 = k then (kv.1, u) else kv) := by
  unfold KV at r ⊢
  induction r with
  | nil => exact .nil
  | @cons p q ps qs h t ih =>
    rw [List.map_cons, List.map_cons]
    refine .cons ?_ ih
    obtain ⟨h1, h2⟩ := h
    by_cases e : p.1 = k
    · rw [if_pos e, if_pos (h1.symm.trans e)]; exact ⟨h1, ry⟩
    · rw [if_neg e, if_neg (fun z => e (h1.trans z))]; exact ⟨h1, h2⟩
theorem KV.put {kvs : List (κ × V)} {vs : List (κ × Value)} (r : KV kvs vs) (k : κ) {y : V} {u : Value} (ry : RelV y u) : KV (putK kvs k y) (stored vs k u) := by
  unfold putK stored
  rw [r.any k]
  by_cases e : (vs.any fun kv => decide (kv.1 = k)) = true
  · rw [if_pos e, if_pos e]; exact r.repl k ry
  · rw [if_neg e, if_neg e]; exact Paired.snoc r ⟨rfl, ry⟩
theorem KV.drop {kvs : List (κ × V)} {vs : List (κ × Value)} (r : KV kvs vs) (k : κ) : KV (dropK kvs k) (without vs k) := by
  unfold KV at r ⊢
  unfold dropK without
  induction r with
  | nil => exact .nil
  | @cons p q ps qs h t ih =>
    obtain ⟨h1, h2⟩ := h
    rw [List.filter_cons, List.filter_cons]
    by_cases e : p.1 = k
    · have a : ¬ decide (p.1 ≠ k) = true := by simp [e]
      have b : ¬ decide (q.1 ≠ k) = true := by simp [h1.symm.trans e]
      rw [if_neg a, if_neg b]; exact ih
    · have e' : ¬ q.1 = k := fun z => e (h1.trans z)
      have a : decide (p.1 ≠ k) = true := by simp [e]
      have b : decide (q.1 ≠ k) = true := by simp [e']
      rw [if_pos a, if_pos b]; exact .cons ⟨h1, h2⟩ ih
theorem KV.length {kvs : List (κ × V)} {vs : List (κ × Value)} (r : KV kvs vs) : kvs.length = vs.length := Paired.length r
theorem dropK_le (kvs : List (κ × V)) (k : κ) : (dropK kvs k).length ≤ kvs.length := List.length_filter_le _ _
end


theorem kV_is {P : Program} {w : World} {k : Key} {u : Value} (r : RelV (kV k) u) : (mixKind P w).is k u = true := by
  cases k with
  | inl i => obtain ⟨t, e⟩ := (show ∃ t, u = Value.int i t from r); subst e; exact mixKind_int P w i t
  | inr x => obtain ⟨t, e⟩ := (show ∃ t, u = Value.str x t from r); subst e; exact mixKind_str P w x t
theorem items_are {P : Program} {w : World} : ∀ {ks : List Key} {us : List Value}, Vals (ks.map kV) us → ItemsAre (mixKind P w) ks us
  | [], _, r => by rw [List.map_nil] at r; cases r; exact .nil
  | k :: ks, _, r => by
    rw [List.map_cons] at r
    cases r with
    | cons h t => exact .cons (kV_is h) (items_are t)

noncomputable abbrev KT (H : Hp) : List (List Key × V) → List (List Key × Addr × Value) → Prop := Paired fun p q => p.1 = q.1 ∧ H q.2.1 = some (.tup (p.1.map kV)) ∧ RelV p.2 q.2.2
theorem KT.val {H : Hp} {kvs : List (List Key × V)} {xs : List (List Key × Addr × Value)} (r : KT H kvs xs) (k : List Key) : RelO (valV kvs k) ((atKey xs k).map (·.2)) := by
  induction r with
  | nil => exact True.intro
  | @cons p q ps qs h t ih =>
    obtain ⟨h1, _, h2⟩ := h
    by_cases e : p.1 = k
    · have e' : q.1 = k := h1.symm.trans e
      have b : atKey (q :: qs) k = some q.2 := by simp [atKey, List.find?_cons, e']
      rw [valV_pos e, b]; exact h2
    · have e' : ¬ q.1 = k := fun z => e (h1.trans z)
      have b : atKey (q :: qs) k = atKey qs k := by simp [atKey, List.find?_cons, e']
      rw [valV_neg e, b]; exact ih
theorem KT.repl {H : Hp} {kvs : List (List Key × V)} {xs : List (List Key × Addr × Value)} (r : KT H kvs xs) (k : List Key) {y : V} {u : Value} (ry : RelV y u) :
    KT H (kvs.map fun kv => if kv.1 = k then (kv.1, y) else kv) (xs.map (putAt k u)) := by
  induction r with
  | nil => exact .nil
  | @cons p q ps qs h t ih =>
    rw [List.map_cons, List.map_cons]
    refine .cons ?_ ih
    obtain ⟨h1, h2, h3⟩ := h
    unfold putAt
    by_cases e : p.1 = k
    · rw [if_pos e, if_pos (h1.symm.trans e)]; exact ⟨h1, h2, ry⟩
    · rw [if_neg e, if_neg (fun z => e (h1.trans z))]; exact ⟨h1, h2, h3⟩
theorem KT.put {H : Hp} {kvs : List (List Key × V)} {xs : List (List Key × Addr × Value)} (r : KT H kvs xs) (k : List Key) {b : Addr} {y : V} {u : Value} (hb : H b = some (.tup (k.map kV))) (ry : RelV y u) :
    KT H (putK kvs k y) (storedH xs k b u) := by
  have e : (kvs.any fun kv => decide (kv.1 = k)) = (atKey xs k).isSome := by
    rw [valV_any, (r.val k).isSome_eq, Option.isSome_map]
  unfold putK storedH
  rw [e]
  by_cases q : (atKey xs k).isSome = true
  · rw [if_pos q, if_pos q]; exact r.repl k ry
  · rw [if_neg q, if_neg q]; exact Paired.snoc r ⟨rfl, hb, ry⟩
theorem KT.keeps {H H' : Hp} {kvs : List (List Key × V)} {xs : List (List Key × Addr × Value)} (r : KT H kvs xs) (ht : ∀ b ys, H b = some (.tup ys) → H' b = some (.tup ys)) : KT H' kvs xs :=
  Paired.mapP r fun _ _ z => ⟨z.1, ht _ _ z.2.1, z.2.2⟩

section
variable {P : Program} {w : World} {H : Hp} {h : Heap} {a : Addr}
theorem rd_of {u : HO} (ok : HOk P w H h) (e : Rd H a u) : ObjOk P w H h a u := e.ok ok
theorem dk_rd {kvs : List (Key × V)} (ok : HOk P w H h) (e : Rd H a (.dK kvs)) : kvs.length ≤ sizeLine ∧ (a == sysModules) = false ∧ ∃ vs, KV kvs vs ∧ h.DictOf (mixKind P w) a vs :=
  show ObjOk P w H h a (.dK kvs) from rd_of ok e
theorem dk_of {kvs : List (Key × V)} (ok : HOk P w H h) (e : H a = some (.dK kvs)) : kvs.length ≤ sizeLine ∧ (a == sysModules) = false ∧ ∃ vs, KV kvs vs ∧ h.DictOf (mixKind P w) a vs := dk_rd ok (.inl e)
theorem key_of {ks : List Key} (ok : HOk P w H h) (e : H a = some (.tup (ks.map kV))) : (tupleKind (mixKind P w)).is h ks a := by
  obtain ⟨_, its, r, o, h1, h2, n, h3⟩ := (show ObjOk P w H h a (.tup (ks.map kV)) from ok a _ e)
  exact ⟨o, its.toArray, n, h1, h2, h3, by simpa using items_are r⟩
theorem dt_rd {kvs : List (List Key × V)} (ok : HOk P w H h) (e : Rd H a (.dT kvs)) : kvs.length ≤ sizeLine ∧ (a == sysModules) = false ∧
    ∃ xs, KT H kvs xs ∧ h.DictOfH (tupleKind (mixKind P w)) a xs := by
  obtain ⟨z, y, xs, r, o, es, ep, h1, h2, h3, h4, h5⟩ := (show ObjOk P w H h a (.dT kvs) from rd_of ok e)
  refine ⟨z, y, xs, r, o, es, ep, h1, h2, h3, h4, fun x hx => ?_, h5⟩
  have all : ∀ {l : List (List Key × V)} {m : List (List Key × Addr × Value)}, KT H l m → ∀ x ∈ m, (tupleKind (mixKind P w)).is h x.1 x.2.1 := by
    intro l m q
    induction q with
    | nil => intro x hx; exact nomatch hx
    | @cons p q ps qs hq t ih =>
      intro x hx
      rcases List.mem_cons.mp hx with e | hx
      · subst e
        exact key_of ok (by rw [← hq.1]; exact hq.2.1)
      · exact ih x hx
  exact all r x hx
theorem dt_of {kvs : List (List Key × V)} (ok : HOk P w H h) (e : H a = some (.dT kvs)) : kvs.length ≤ sizeLine ∧ (a == sysModules) = false ∧
    ∃ xs, KT H kvs xs ∧ h.DictOfH (tupleKind (mixKind P w)) a xs := dt_rd ok (.inl e)
end

noncomputable def DGet (H : Hp) (a : Addr) (y : V) (r : Option V) : Prop :=
  (∃ kvs k, Rd H a (.dK kvs) ∧ y = kV k ∧ r = valV kvs k) ∨ ∃ kvs k b, Rd H a (.dT kvs) ∧ y = .ref b ∧ H b = some (.tup (k.map kV)) ∧ r = valV kvs k
noncomputable def DPut (H : Hp) (a : Addr) (y v : V) (H' : Hp) : Prop :=
  (∃ kvs k, H a = some (.dK kvs) ∧ y = kV k ∧ kvs.length < sizeLine ∧ H' = upd H a (.dK (putK kvs k v))) ∨
  ∃ kvs k b, H a = some (.dT kvs) ∧ y = .ref b ∧ H b = some (.tup (k.map kV)) ∧ kvs.length < sizeLine ∧ H' = upd H a (.dT (putK kvs k v))
theorem DGet.k {H : Hp} {a : Addr} {kvs : List (Key × V)} {k : Key} (e : H a = some (.dK kvs)) : DGet H a (kV k) (valV kvs k) := .inl ⟨kvs, k, .inl e, rfl, rfl⟩
theorem DPut.k {H : Hp} {a : Addr} {kvs : List (Key × V)} {k : Key} {v : V} (e : H a = some (.dK kvs)) (hl : kvs.length < sizeLine) : DPut H a (kV k) v (upd H a (.dK (putK kvs k v))) := .inl ⟨kvs, k, e, rfl, hl, rfl⟩


section
variable {X : Cx} {pins : List (Addr × Obj)} {σ : St} {H : Hp} {s : Shared} {a : Addr} {y v : V} {u r : Value} {o : Option V} {A : Around} {E : Value → Shared → Prop}

theorem Inv.big (I : Inv X pins σ H s) : sysModules < s.heap.objs.size := by
  have h : mainGlobals < s.heap.objs.size := (I.mod.glob.keeps I.bk).lt
  exact Nat.lt_trans (by decide) h

theorem d_getItem {Q : Value → Shared → Prop} (hu : A.units + 1 < cLine) (I : Inv X pins σ H s) (g : DGet H a y (some v)) (ry : RelV y u) (h : ∀ w' s', Inv X pins σ H s' → RelV v w' → Q w' s') :
    wpAny (model X.prog X.w) A (getItem (.ref a) u) Q E s := by
  rcases g with ⟨kvs, k, e, ey, l⟩ | ⟨kvs, k, b, e, ey, eb, l⟩
  · subst ey
    obtain ⟨z, hd, vs, rel, dd⟩ := dk_rd I.hok e
    obtain ⟨w', hw, rw'⟩ := RelO.some_of (v := v) (o := valueAt vs k) (by rw [l]; exact rel.val k)
    exact wpAny_getItem_of (kV_is ry) dd.mapOf hw (h w' _ (I.tok _) rw')
  · subst ey
    cases (show u = Value.ref b from ry)
    obtain ⟨z, hd, xs, rel, dd⟩ := dt_rd I.hok e
    obtain ⟨w', hw, rw'⟩ := RelO.some_of (v := v) (o := (atKey xs k).map (·.2)) (by rw [l]; exact rel.val k)
    obtain ⟨p, hp, hp2⟩ := Option.map_eq_some_iff.mp hw
    refine wpAny_getItem_heap (tupleKind_room_in1 hu) (key_of I.hok eb) dd hp ?_
    rw [hp2]
    exact h w' _ (I.tok _) rw'
theorem d_in {Q : Value → Shared → Prop} (hu : A.units + 1 < cLine) (I : Inv X pins σ H s) (g : DGet H a y o) (ry : RelV y u) (h : ∀ s', Inv X pins σ H s' → Q (.bool o.isSome) s') :
    wpAny (model X.prog X.w) A (compareOp .In u (.ref a)) Q E s := by
  rcases g with ⟨kvs, k, e, ey, l⟩ | ⟨kvs, k, b, e, ey, eb, l⟩
  · subst ey
    obtain ⟨z, hd, vs, rel, dd⟩ := dk_rd I.hok e
    refine wpAny_in_of (kV_is ry) hd dd.mapOf ?_
    rw [← (rel.val k).isSome_eq, ← l]
    exact h _ (I.tok _)
  · subst ey
    cases (show u = Value.ref b from ry)
    obtain ⟨z, hd, xs, rel, dd⟩ := dt_rd I.hok e
    refine wpAny_in_heap (tupleKind_room_in1 hu) (key_of I.hok eb) hd dd ?_
    have q := (rel.val k).isSome_eq
    rw [Option.isSome_map] at q
    rw [← q, ← l]
    exact h _ (I.tok _)
theorem d_notIn {Q : Value → Shared → Prop} (hu : A.units + 1 < cLine) (I : Inv X pins σ H s) (g : DGet H a y o) (ry : RelV y u) (h : ∀ s', Inv X pins σ H s' → Q (.bool (!o.isSome)) s') :
    wpAny (model X.prog X.w) A (compareOp .NotIn u (.ref a)) Q E s := by
  rcases g with ⟨kvs, k, e, ey, l⟩ | ⟨kvs, k, b, e, ey, eb, l⟩
  · subst ey
    obtain ⟨z, hd, vs, rel, dd⟩ := dk_rd I.hok e
    refine wpAny_notIn_of (kV_is ry) hd dd.mapOf ?_
    rw [← (rel.val k).isSome_eq, ← l]
    exact h _ (I.tok _)
  · subst ey
    cases (show u = Value.ref b from ry)
    obtain ⟨z, hd, xs, rel, dd⟩ := dt_rd I.hok e
    refine wpAny_notIn_heap (tupleKind_room_in1 hu) (key_of I.hok eb) hd dd ?_
    have q := (rel.val k).isSome_eq
    rw [Option.isSome_map] at q
    rw [← q, ← l]
    exact h _ (I.tok _)
theorem d_write {h' : Heap} {t' : Nat} {ob : HO} (I : Inv X pins σ H s) (mu : Mut (H a)) (hs : Heap.SameBut a s.heap h') (he : ∃ q, h'.get? a = some q) (new : ObjOk X.prog X.w (upd H a ob) h' a ob) :
    Inv X pins σ (upd H a ob) { s with heap := h', toks := t' } :=
  I.write (x := a) (e := a) mu (.inl rfl) (fun b q hb z => (hs.2 b hb).trans z) he new
theorem dk_new {P : Program} {w : World} {H' : Hp} {h' : Heap} {kvs : List (Key × V)} {vs : List (Key × Value)} (z : kvs.length ≤ sizeLine) (hd : (a == sysModules) = false) (rel : KV kvs vs) (dd : h'.DictOf (mixKind P w) a vs) :
    ObjOk P w H' h' a (.dK kvs) := ⟨z, hd, vs, rel, dd⟩
theorem d_setItem {H' : Hp} {Q : Unit → Shared → Prop} (hu : A.units + 1 < cLine) (I : Inv X pins σ H s) (g : DPut H a y v H') (ry : RelV y u) (rv : RelV v r) (h : ∀ s', Inv X pins σ H' s' → Q () s') :
    wpAny (model X.prog X.w) A (setItem (.ref a) u r) Q E s := by
  rcases g with ⟨kvs, k, e, ey, l, eH⟩ | ⟨kvs, k, b, e, ey, eb, l, eH⟩
  · subst ey eH
    obtain ⟨z, hd, vs, rel, dd⟩ := dk_of I.hok e
    have hz : vs.length ≤ sizeLine := by rw [← rel.length]; exact z
    have hl : (putK kvs k v).length ≤ sizeLine := by have := length_putK kvs k v; omega
    refine wpAny_setItem_pairs (hsz := hz) (kV_is ry) dd fun h' dd' hs => h _ ?_
    have he : ∃ q, h'.get? a = some q := let ⟨q, _, _, hq, _⟩ := dd'; ⟨q, hq⟩
    exact d_write I (by rw [e]; exact True.intro) hs he (dk_new hl hd (rel.put k rv) dd')
  · subst ey eH
    cases (show u = Value.ref b from ry)
    obtain ⟨z, hd, xs, rel, dd⟩ := dt_of I.hok e
    have hz : xs.length ≤ sizeLine := by rw [← Paired.length rel]; exact z
    have hl : (putK kvs k v).length ≤ sizeLine := by have := length_putK kvs k v; omega
    refine wpAny_setItem_heap (hsz := hz) (tupleKind_room_in1 hu) (key_of I.hok eb) dd fun h' dd' hs => h _ ?_
    obtain ⟨q, es, ep, hq, h2, h3, h4, _, h5⟩ := dd'
    refine d_write I (by rw [e]; exact True.intro) hs ⟨q, hq⟩ ⟨hl, hd, _, (rel.put k eb rv).keeps fun c ys ec => ?_, q, es, ep, hq, h2, h3, h4, h5⟩
    rw [upd_ne (ne_of ec e (fun z => nomatch z))]
    exact ec
end

section
variable {X : Cx} {pins : List (Addr × Obj)} {σ : St} {H : Hp} {s : Shared} {a : Addr} {kvs : List (Key × V)} {k : Key} {u : Value} {A : Around} {E : Value → Shared → Prop}
theorem d_pop {v : V} {more : List Value} {Q : Value → Shared → Prop} (I : Inv X pins σ H s) (e : H a = some (.dK kvs)) (ry : RelV (kV k) u) (l : valV kvs k = some v) (hm : more = [] ∨ ∃ x, more = [x])
    (h : ∀ w' s', Inv X pins σ (upd H a (.dK (dropK kvs k))) s' → RelV v w' → Q w' s') : wpAny (model X.prog X.w) A (call (.builtin "dict.pop") (.ref a :: u :: more)) Q E s := by
  obtain ⟨z, hd, vs, rel, dd⟩ := dk_of I.hok e
  obtain ⟨w', hw, rw'⟩ := RelO.some_of (v := v) (o := valueAt vs k) (by rw [← l]; exact rel.val k)
  have hp : (keyPart u).isSome = true := by
    cases k with
    | inl i => obtain ⟨t, q⟩ := (show ∃ t, u = Value.int i t from ry); subst q; rfl
    | inr x => obtain ⟨t, q⟩ := (show ∃ t, u = Value.str x t from ry); subst q; rfl
  have ha : argsOk "dict.pop" ⟨.ref a :: u :: more, []⟩ := by
    rcases hm with q | ⟨x, q⟩
    · subst q; exact PySem.F.args_dict_pop_2 _ _
    · subst q; exact PySem.F.args_dict_pop_3 _ _ _
  refine call_meetsIn PySem.F.slot_dict_pop dd.typeIs PySem.F.entry_dict_pop ha (meets_dict_pop_there (mixKind X.prog X.w) a (kV_is ry) more hm hp)
    ⟨vs, w', dd, by rw [← rel.length]; exact z, hw, fun h' dd' hs => h w' _ ?_ rw'⟩
  have he : ∃ q, h'.get? a = some q := let ⟨q, _, _, hq, _⟩ := dd'; ⟨q, hq⟩
  exact d_write I (by rw [e]; exact True.intro) hs he (dk_new (Nat.le_trans (dropK_le kvs k) z) hd (rel.drop k) dd')
theorem d_popD {r : Value} {Q : Value → Shared → Prop} (I : Inv X pins σ H s) (e : H a = some (.dK kvs)) (ry : RelV (kV k) u) (l : valV kvs k = none) (h : ∀ s', Inv X pins σ H s' → Q r s') :
    wpAny (model X.prog X.w) A (call (.builtin "dict.pop") [.ref a, u, r]) Q E s := by
  obtain ⟨z, hd, vs, rel, dd⟩ := dk_of I.hok e
  have hn : valueAt vs k = none := RelO.none_of (by rw [← l]; exact rel.val k)
  have hp : (keyPart u).isSome = true := by
    cases k with
    | inl i => obtain ⟨t, q⟩ := (show ∃ t, u = Value.int i t from ry); subst q; rfl
    | inr x => obtain ⟨t, q⟩ := (show ∃ t, u = Value.str x t from ry); subst q; rfl
  exact call_meetsIn PySem.F.slot_dict_pop dd.typeIs PySem.F.entry_dict_pop (PySem.F.args_dict_pop_3 _ _ _) (meets_dict_pop_default (mixKind X.prog X.w) a (kV_is ry) hd hp r) ⟨vs, dd, hn, h _ (I.tok _)⟩
theorem d_len {Q : Value → Shared → Prop} (I : Inv X pins σ H s) (e : Rd H a (.dK kvs)) (h : ∀ t s', Inv X pins σ H s' → Q (.int kvs.length t) s') : wpAny (model X.prog X.w) A (call (.builtin "len") [.ref a]) Q E s := by
  obtain ⟨z, hd, vs, rel, dd⟩ := dk_rd I.hok e
  refine call_len_dict hd dd (by rw [← rel.length]; rw [sizeLine_eq] at z; omega) ?_
  rw [← rel.length]
  exact h _ _ (I.tok _)
end


noncomputable def NoSl (i : Expr) : Prop := ∀ ov iv, subscripted i false ov iv = operate [ov, iv] (getItem ov iv)
theorem subD_of {prog : Program} {w : World} {A : Around} {E : Value → Shared → Prop} {s : Shared} {env : Env} {value slice : Expr} {pos : Pos} {T id : String} {Q : Value → Shared → Prop}
    (hl : typeLookup (.type T) "__getitem__" = pure (some (.builtin id))) (hs : NoSl slice)
    (h : wpAny (model prog w) A (eval value env) (fun o s₁ => wpAny (model prog w) A (eval slice env) (fun i s₂ => s₂.TypeIs o T ∧ wpAny (model prog w) A (getItem o i) Q E s₂) E s₁) E s) :
    wpAny (model prog w) A (eval (.Subscript value slice pos) env) Q E s := by
  refine Subscript_ (wpAny_mono h (fun o s₁ h₁ => wpAny_mono h₁ (fun i s₂ h₂ => ?_) fun _ _ x => x) fun _ _ x => x)
  obtain ⟨hT, h₂⟩ := h₂
  unfold subscriptTail
  refine wpAny_bind ?_
  rw [getitemInPython_of_ne hT.not_modules]
  refine wpAny_bind (wpAny_specialOf hT hl ?_)
  have fin : wpAny (model prog w) A (subscripted slice false o i) (fun r s₃ => wpAny (model prog w) A (letTemporaryGo value o r >>= fun _ => pure r) Q E s₃) E s₂ := by
    rw [hs o i]
    exact wpAny_operating (wpAny_mono h₂ (fun r s₃ h₃ => wpAny_bind (wpAny_letTemporaryGo (wpAny_pure h₃))) fun _ _ x => x)
  first
    | exact wpAny_pure (wpAny_bind fin)
    | exact wpAny_bind (wpAny_pure (wpAny_bind fin))
    | exact wpAny_bind fin

theorem dict_typeIs {X : Cx} {pins : List (Addr × Obj)} {σ : St} {H : Hp} {s : Shared} {a : Addr} {y : V} {o : Option V} (I : Inv X pins σ H s) (g : DGet H a y o) : s.TypeIs (.ref a) "dict" := by
  rcases g with ⟨kvs, k, e, _, _⟩ | ⟨kvs, k, b, e, _, _, _⟩
  · obtain ⟨_, _, vs, _, dd⟩ := dk_rd I.hok e
    exact dd.typeIs
  · obtain ⟨_, _, xs, _, dd⟩ := dt_rd I.hok e
    exact dd.typeIs

noncomputable def tDGet (td ty : TE) : TE := fun σ H Q => td σ H fun x H1 => ty σ H1 fun y H2 => ∃ a v, x = .ref a ∧ DGet H2 a y (some v) ∧ Q v H2
noncomputable def tDIn (ty td : TE) : TE := fun σ H Q => ty σ H fun y H1 => td σ H1 fun x H2 => ∃ a o, x = .ref a ∧ DGet H2 a y o ∧ Q (.bl o.isSome) H2
noncomputable def tDNotIn (ty td : TE) : TE := fun σ H Q => ty σ H fun y H1 => td σ H1 fun x H2 => ∃ a o, x = .ref a ∧ DGet H2 a y o ∧ Q (.bl (!o.isSome)) H2
noncomputable def sDPut (td ty tv : TE) : TS := fun D σ H => tv σ H fun v H1 => td σ H1 fun x H2 => ty σ H2 fun y H3 => ∃ a H4, x = .ref a ∧ DPut H3 a y v H4 ∧ D.nx σ H4

section
variable {X : Cx} {o i e value : Expr} {pos pos' tpos : Pos} {td ty tv : TE}
theorem pe_dget (hu : X.A.units + 1 < cLine) (ho : PE X o td) (hi : PE X i ty) (hs : NoSl i) : PE X (.Subscript o i pos) (tDGet td ty) := by
  intro pins s σ H Q I h
  refine subD_of PySem.F.slot_dict_getitem.lookup hs (thn (ho pins s σ H _ I h) fun u s1 ⟨x, H1, I1, rx, q1⟩ => thn (hi pins s1 σ H1 _ I1 q1) fun iv s2 zz => ?_)
  obtain ⟨y, H2, I2, ry, a, v, ex, g, q2⟩ := zz
  subst ex
  obtain rfl : u = Value.ref a := rx
  exact ⟨dict_typeIs I2 g, d_getItem hu I2 g ry fun w' s3 I3 rw' => ⟨v, H2, I3, rw', q2⟩⟩
theorem pc_din (hu : X.A.units + 1 < cLine) (hi : PE X i ty) (ho : PE X o td) : PC X .In i o (tDIn ty td) := by
  intro pins s σ H Q I h
  refine thn (hi pins s σ H _ I h) fun iv s1 ⟨y, H1, I1, ry, q1⟩ => thn (ho pins s1 σ H1 _ I1 q1) fun u s2 zz => ?_
  obtain ⟨x, H2, I2, rx, a, ov, ex, g, q2⟩ := zz
  subst ex
  obtain rfl : u = Value.ref a := rx
  exact d_in hu I2 g ry fun s3 I3 => ⟨.bl ov.isSome, H2, I3, rfl, q2⟩
theorem pc_dnotin (hu : X.A.units + 1 < cLine) (hi : PE X i ty) (ho : PE X o td) : PC X .NotIn i o (tDNotIn ty td) := by
  intro pins s σ H Q I h
  refine thn (hi pins s σ H _ I h) fun iv s1 ⟨y, H1, I1, ry, q1⟩ => thn (ho pins s1 σ H1 _ I1 q1) fun u s2 zz => ?_
  obtain ⟨x, H2, I2, rx, a, ov, ex, g, q2⟩ := zz
  subst ex
  obtain rfl : u = Value.ref a := rx
  exact d_notIn hu I2 g ry fun s3 I3 => ⟨.bl (!ov.isSome), H2, I3, rfl, q2⟩
theorem ps_dput (hu : X.A.units + 1 < cLine) (ho : PE X o td) (hi : PE X i ty) (hv : PE X value tv) (hs : swapsWith value (some (.Subscript o i pos')) pos.line X.env = pure false) :
    PS X (.Assign [.Subscript o i pos'] value pos) (sDPut td ty tv) := by
  intro pins s σ H D I h
  refine wpAny_Assign_Subscript (thn (hv pins s σ H _ I h) fun r s1 ⟨v, H1, I1, rv, q1⟩ => thn (ho pins s1 σ H1 _ I1 q1) fun u s2 ⟨x, H2, I2, rx, q2⟩ => thn (hi pins s2 σ H2 _ I2 q2) fun iv s3 ⟨y, H3, I3, ry, a, H4, ex, g, q3⟩ => ?_) hs
  subst ex
  obtain rfl : u = Value.ref a := rx
  exact d_setItem hu I3 g ry rv fun s4 I4 => ⟨σ, H4, I4, q3⟩
end


theorem dk_empty {P : Program} {w : World} {H : Hp} (h : Heap) (hb : sysModules < h.objs.size) : ObjOk P w H (h.push { cls := .type "dict", data := .dict #[] }) h.objs.size (.dK []) :=
  ⟨Nat.zero_le _, beq_eq_false_iff_ne.mpr (Ne.symm (Nat.ne_of_lt hb)), [], .nil, Heap.DictOf.new h⟩
noncomputable def tDNewK : TE := fun _ H Q => ∀ p, H p = none → Q (.ref p) (upd H p (.dK []))
section
variable {X : Cx} {pos : Pos}
theorem pe_dnewK : PE X (.Dict [] [] pos) tDNewK := fun pins s σ H Q I h =>
  wpAny_Dict_empty ⟨.ref s.heap.objs.size, _, I.laid (a := s.heap.objs.size) (o := .dK []) (t' := s.toks) (fun _ _ q => Heap.get?_push_of_some _ q) (Nat.le_refl _) (dk_empty s.heap I.big), rfl, h _ (I.hok.fresh (Nat.le_refl _))⟩
end




structure M1 (X : Cx) (o : Expr) (m : Str) (apos : Pos) (e : Expr) (cpos : Pos) : Prop where
  base : attributeBase o m X.env (eval o X.env) = eval o X.env
  few : ((backTo cpos (starEach [e] X.env)).all (fun x => !x.1) && (backToKw cpos (keywordEach [] X.env)).all (fun x => x.1.isSome)
    && decide (([e] : List Expr).length + ([] : List Keyword).length + (if ([] : List Keyword).isEmpty then 0 else 1) < 30)) = true
  line : (apos.endLine == cpos.line) = true
  trees : backTo cpos (starEach [e] X.env) = [(false, eval e X.env)]
structure M2 (X : Cx) (o : Expr) (m : Str) (apos : Pos) (e f : Expr) (cpos : Pos) : Prop where
  base : attributeBase o m X.env (eval o X.env) = eval o X.env
  few : ((backTo cpos (starEach [e, f] X.env)).all (fun x => !x.1) && (backToKw cpos (keywordEach [] X.env)).all (fun x => x.1.isSome)
    && decide (([e, f] : List Expr).length + ([] : List Keyword).length + (if ([] : List Keyword).isEmpty then 0 else 1) < 30)) = true
  line : (apos.endLine == cpos.line) = true
  trees : backTo cpos (starEach [e, f] X.env) = [(false, eval e X.env), (false, eval f X.env)]

noncomputable def IsD (H : Hp) (a : Addr) : Prop := (∃ kvs, Rd H a (.dK kvs)) ∨ ∃ kvs, Rd H a (.dT kvs)
theorem isD_at {X : Cx} {pins : List (Addr × Obj)} {σ : St} {H : Hp} {s : Shared} {a : Addr} (I : Inv X pins σ H s) (d : IsD H a) :
    s.TypeIs (.ref a) "dict" ∧ (∀ b, Value.ref a = .ref b → ∃ ob, s.heap.get? b = some ob ∧ ob.dict = none) ∧ (a == sysModules) = false := by
  rcases d with ⟨kvs, e⟩ | ⟨kvs, e⟩
  · obtain ⟨_, hd, vs, _, dd⟩ := dk_rd I.hok e
    refine ⟨dd.typeIs, fun b q => ?_, hd⟩
    cases q
    obtain ⟨ob, _, _, h1, h2, _⟩ := dd
    exact ⟨ob, h1, h2.2.1⟩
  · obtain ⟨_, hd, xs, _, dd⟩ := dt_rd I.hok e
    refine ⟨dd.typeIs, fun b q => ?_, hd⟩
    cases q
    obtain ⟨ob, _, _, h1, h2, _⟩ := dd
    exact ⟨ob, h1, h2.2.1⟩

section
variable {X : Cx} {pins : List (Addr × Obj)} {σ : St} {H : Hp} {s : Shared} {a : Addr} {y d : V} {u r : Value} {o : Option V} {A : Around} {E : Value → Shared → Prop}
theorem d_get1 {Q : Value → Shared → Prop} (hu : A.units + 1 < cLine) (I : Inv X pins σ H s) (g : DGet H a y o) (ry : RelV y u) (h : ∀ w' s', Inv X pins σ H s' → RelV (o.getD .non) w' → Q w' s') :
    wpAny (model X.prog X.w) A (call (.builtin "dict.get") [.ref a, u]) Q E s := by
  rcases g with ⟨kvs, k, e, ey, l⟩ | ⟨kvs, k, b, e, ey, eb, l⟩
  · subst ey
    obtain ⟨z, hd, vs, rel, dd⟩ := dk_rd I.hok e
    refine call_meetsIn PySem.F.slot_dict_get dd.typeIs PySem.F.entry_dict_get (PySem.F.args_dict_get_2 _ _) (meets_dict_get (mixKind X.prog X.w) a (kV_is ry) hd) ⟨_, dd.mapOf, h _ _ (I.tok _) ?_⟩
    rw [l]
    exact (rel.val k).getD rfl
  · subst ey
    cases (show u = Value.ref b from ry)
    obtain ⟨z, hd, xs, rel, dd⟩ := dt_rd I.hok e
    refine call_meetsIn PySem.F.slot_dict_get dd.typeIs PySem.F.entry_dict_get (PySem.F.args_dict_get_2 _ _) (meetsH_dict_get (tupleKind (mixKind X.prog X.w)) a b hd) ⟨tupleKind_room_in1 hu, k, xs, key_of I.hok eb, dd, h _ _ (I.tok _) ?_⟩
    rw [l]
    exact (rel.val k).getD rfl
end

noncomputable def tDGet1 (td ty : TE) : TE := fun σ H Q => td σ H fun x H1 => ∃ a, x = .ref a ∧ IsD H1 a ∧ ty σ H1 fun y H2 => ∃ o, DGet H2 a y o ∧ Q (o.getD .non) H2
noncomputable def tDPop1 (td ty : TE) : TE := fun σ H Q => td σ H fun x H1 => ∃ a, x = .ref a ∧ IsD H1 a ∧ ty σ H1 fun y H2 => ∃ kvs k v, H2 a = some (.dK kvs) ∧ y = kV k ∧ valV kvs k = some v ∧ Q v (upd H2 a (.dK (dropK kvs k)))
noncomputable def tDPop2 (td ty tx : TE) : TE := fun σ H Q => td σ H fun x H1 => ∃ a, x = .ref a ∧ IsD H1 a ∧ ty σ H1 fun y H2 => tx σ H2 fun z H3 => ∃ kvs k, H3 a = some (.dK kvs) ∧ y = kV k ∧
  (∀ v, valV kvs k = some v → Q v (upd H3 a (.dK (dropK kvs k)))) ∧ (valV kvs k = none → Q z H3)
section
variable {X : Cx} {o e f : Expr} {apos cpos : Pos} {td ty tx : TE}
theorem pe_dget1 (hu : X.A.units + 1 < cLine) (ho : PE X o td) (he : PE X e ty) (m : M1 X o "get" apos e cpos) : PE X (.Call (.Attribute o "get" apos) [e] [] cpos) (tDGet1 td ty) := by
  intro pins s σ H Q I h
  refine wpAny_Call_method m.base m.few m.line PySem.F.plainAttrs_dict PySem.F.slot_dict_get PySem.F.type_dict_get (thn (ho pins s σ H _ I h) fun u s1 zz => ?_)
  obtain ⟨x, H1, I1, rx, a, ex, d, q1⟩ := zz
  subst ex
  obtain rfl : u = Value.ref a := rx
  obtain ⟨t1, t2, _⟩ := isD_at I1 d
  refine ⟨t1, t2, ?_⟩
  rw [m.trees]
  refine Calls.callWith_builtin rfl (Calls.evalArgs_plain (Calls.spliced_cons (thn (he pins s1 σ H1 _ I1 q1) fun iv s2 ⟨y, H2, I2, ry, ov, g, q2⟩ => Calls.spliced_nil ?_)))
  exact d_get1 hu I2 g ry fun w' s3 I3 rw' => ⟨_, H2, I3, rw', q2⟩
theorem pe_dpop1 (ho : PE X o td) (he : PE X e ty) (m : M1 X o "pop" apos e cpos) : PE X (.Call (.Attribute o "pop" apos) [e] [] cpos) (tDPop1 td ty) := by
  intro pins s σ H Q I h
  refine wpAny_Call_method m.base m.few m.line PySem.F.plainAttrs_dict PySem.F.slot_dict_pop PySem.F.type_dict_pop (thn (ho pins s σ H _ I h) fun u s1 zz => ?_)
  obtain ⟨x, H1, I1, rx, a, ex, d, q1⟩ := zz
  subst ex
  obtain rfl : u = Value.ref a := rx
  obtain ⟨t1, t2, _⟩ := isD_at I1 d
  refine ⟨t1, t2, ?_⟩
  rw [m.trees]
  refine Calls.callWith_builtin rfl (Calls.evalArgs_plain (Calls.spliced_cons (thn (he pins s1 σ H1 _ I1 q1) fun iv s2 ⟨y, H2, I2, ry, kvs, k, v, ea, ey, l, q2⟩ => Calls.spliced_nil ?_)))
  subst ey
  exact d_pop I2 ea ry l (.inl rfl) fun w' s3 I3 rw' => ⟨v, _, I3, rw', q2⟩
theorem pe_dpop2 (ho : PE X o td) (he : PE X e ty) (hf : PE X f tx) (m : M2 X o "pop" apos e f cpos) : PE X (.Call (.Attribute o "pop" apos) [e, f] [] cpos) (tDPop2 td ty tx) := by
  intro pins s σ H Q I h
  refine wpAny_Call_method m.base m.few m.line PySem.F.plainAttrs_dict PySem.F.slot_dict_pop PySem.F.type_dict_pop (thn (ho pins s σ H _ I h) fun u s1 zz => ?_)
  obtain ⟨x, H1, I1, rx, a, ex, d, q1⟩ := zz
  subst ex
  obtain rfl : u = Value.ref a := rx
  obtain ⟨t1, t2, _⟩ := isD_at I1 d
  refine ⟨t1, t2, ?_⟩
  rw [m.trees]
  refine Calls.callWith_builtin rfl (Calls.evalArgs_plain (Calls.spliced_cons (thn (he pins s1 σ H1 _ I1 q1) fun iv s2 ⟨y, H2, I2, ry, q2⟩ =>
    Calls.spliced_cons (thn (hf pins s2 σ H2 _ I2 q2) fun fv s3 ⟨z, H3, I3, rz, kvs, k, ea, ey, q3, q4⟩ => Calls.spliced_nil ?_))))
  subst ey
  cases l : valV kvs k with
  | some v => exact d_pop I3 ea ry l (.inr ⟨fv, rfl⟩) fun w' s4 I4 rw' => ⟨v, _, I4, rw', q3 v l⟩
  | none => exact d_popD I3 ea ry l fun s4 I4 => ⟨z, H3, I4, rz, q4 l⟩
end

section
variable {X : Cx} {pins : List (Addr × Obj)} {σ : St} {H : Hp} {s : Shared} {a : Addr} {kvs : List (Key × V)} {A : Around} {E : Value → Shared → Prop}
theorem d_copyOf {Q : Value → Shared → Prop} (I : Inv X pins σ H s) (e : Rd H a (.dK kvs)) (h : ∀ p s', H p = none → Inv X pins σ (upd H p (.dK kvs)) s' → Q (.ref p) s') : wpAny (model X.prog X.w) A (call (.type "dict") [.ref a]) Q E s := by
  obtain ⟨z, hd, vs, rel, dd⟩ := dk_rd I.hok e
  refine kt_call_dict hd dd (by rw [← rel.length]; exact z) fun h' dd' hs => ?_
  refine h _ _ (I.hok.fresh (Nat.le_refl _)) (I.laid (a := s.heap.objs.size) (o := .dK kvs) (t' := s.toks) (fun b q hq => ?_) (Nat.le_refl _) (dk_new z (beq_eq_false_iff_ne.mpr (Ne.symm (Nat.ne_of_lt I.big))) rel dd'))
  exact (hs.2 b (Nat.ne_of_lt (Heap.lt_size hq))).trans (Heap.get?_push_of_some _ hq)
end


section
variable {X : Cx} {pins : List (Addr × Obj)} {σ : St} {H : Hp} {s : Shared} {a : Addr} {y : V} {u : Value} {A : Around} {E : Value → Shared → Prop}
end
end L2

namespace Att
open PySem PySem.W PySem.Calls PyProof.Rows

theorem ints_of_wellAll {P : Params} {h : Heap} : ∀ (ns : List Int) (vs : List Value), WellAll P h vs (ns.map WData.int) → IntsAre vs ns := by
  intro ns
  induction ns with
  | nil =>
    intro vs w
    rw [List.map_nil] at w
    cases w
    exact .nil
  | cons n ns ih =>
    intro vs w
    rw [List.map_cons] at w
    cases w with
    | cons a b =>
      cases a
      exact .cons _ _ (ih _ b)

theorem script_of {l : OpenLaw} {n : Nat} (hn : l.most = some n) {P : Params} {h : Heap} {args : List WData} {vals : List Value}
    (hpre : l.row.toRowW.claim.pre args = true) (hwl : WellAll P h vals args) :
    ∃ a vs ns, vals = [Value.ref a] ∧ args = [WData.list (ns.map WData.int)] ∧ h.get? a = some { cls := .type "list", data := .seq vs.toArray } ∧ IntsAre vs ns ∧ ns.length ≤ n := by
  have hsh : WShape.hasAll [] args [.list .int] = true := (pre_splitW hpre).1
  have hc : l.pre.holds [] { args := args } = true := (pre_splitW hpre).2
  obtain ⟨d, r, rfl, h1, h2⟩ := hasAllW_cons hsh
  obtain rfl := hasAllW_nil h2
  obtain ⟨xs, rfl, h3⟩ := hasW_list h1
  obtain ⟨ns, rfl⟩ := items_int h3
  have hlen : ns.length ≤ n := by
    unfold OpenLaw.pre at hc
    have h4 : (WTm.not (.lt (.lit (.int (n : Int))) (.len (.arg 0)))).holds [] { args := [.list (ns.map .int)] } = true := by
      have h4 := (holds_andW hc).1
      rw [hn] at h4
      exact h4
    have h5 := condW_of h4 (w_not (w_lt w_lit (w_len_list (w_arg rfl))))
    rw [List.length_map] at h5
    refine Nat.le_of_not_lt fun q => ?_
    have q' : (n : Int) < ((ns.length : Nat) : Int) := by omega
    first
      | (rw [decide_eq_true q'] at h5; exact absurd h5 (by decide))
      | (simp at h5; omega)
  cases hwl with
  | cons w1 w2 =>
    cases w2
    cases w1 with
    | list ho hall => exact ⟨_, _, ns, rfl, rfl, ho, ints_of_wellAll ns _ hall, hlen⟩

theorem post_true (l : OpenLaw) (args : List WData) : l.row.toRowW.claim.post args (.bool true) args = true :=
  postW_of (r := l.row.toRowW) (X := (true == true))
    (show WShape.has [] (.bool true) .bool = true by first | rfl | decide | simp [WShape.has, WShape.arms, WShape.armsAll])
    (show (WTm.eq .res (.lit (.bool true))).value [] { args := args, res := some (.bool true), after := args } = some (.bool (true == true)) from w_eq_bool (w_res rfl) w_lit) rfl


theorem attach_call {l : OpenLaw} {n : Nat} {q : Program} {loose : List Str} {XP : (Str → Option Value) → Heap → Prop} {YP : World → Heap → Prop} {d : DefRec}
    (hn : l.most = some n) (hdf : d.params.defaults = [])
    (call : ∀ (w : World) (s₀ s₁ : Shared) (mg mb : Str → Option Value) (fa : Addr) (o : Obj) (pm cd doc : Value) (a : Addr) (vs : List Value) (ns : List Int),
      Ground q loose [] XP w s₀ mg mb s₁.heap → YP w s₁.heap →
      s₁.heap.get? fa = some o → o.data = .func (docDef d.name d.params d.body d.scope pm cd doc) → s₁.heap.CodeRec cd d.name → mg d.name = some (.ref fa) →
      s₁.heap.get? a = some { cls := .type "list", data := .seq vs.toArray } → IntsAre vs ns → ns.length ≤ n → s₁.gens = #[] →
      codeAny (model l.prog w) callerA (.call (.ref fa) ⟨[.ref a], []⟩) (fun r s' => r = .ok (.ret (.bool true)) ∧ OldK s₁.heap s'.heap ∧ s'.os = s₁.os ∧ AllBare s'.gens) s₁) :
    WalkO q loose XP YP l.row.toRowW d [] (fun f vs => PySem.call f vs) := by
  intro w s₀ s₁ mg mb G Y fa o pm cd doc dV kV ho hd hcd hD hmg hg args vals as hpre hlay hrd hwl hlo
  obtain rfl : dV = .none := Dflts.none hD hdf
  obtain rfl : kV = .none := Dflts.noKw hD
  obtain ⟨a, vs, ns, rfl, rfl, hobj, hints, hlen⟩ := script_of hn hpre hwl
  refine enter_call (codeAny_mono (call w s₀ s₁ mg mb fa o pm cd doc a vs ns G Y ho (fd_plain hd) hcd hmg hobj hints hlen hg) fun r s' hq => ?_)
  obtain ⟨rfl, h2, h3, h4⟩ := hq
  exact ⟨.inl ⟨.bool true, .bool true, [], rfl, fun _ => rfl, .bool true, post_true l _, fun _ => ⟨List.Pairwise.nil, fun _ hm => (nomatch hm)⟩⟩, h2, h3, h4⟩


section
variable {prog : Program} {w : World} {A : Around} {E : Value → Shared → Prop} {s : Shared} {K : Frag}






end
end Att

namespace L2
open PySem PySem.Spec PyProof.Rows

theorem vals_ints : ∀ {vs : List Value} {ns : List Int}, IntsAre vs ns → Vals (ns.map V.int) vs
  | _, _, .nil => .nil
  | _, _, .cons n t h => .cons ⟨t, rfl⟩ (vals_ints h)

noncomputable def Only (H : Hp) : Prop := ∀ b, H b = none ∨ ∃ o xs, H b = some (.frz o (.lst xs))

theorem law_call {P : Program} {w : World} {K : PySem.W.Frag} {mg mb : Str → Option Value} {CX : CXT} {k : Nat} {fa a : Addr} {fd : FuncData} {x : Str} {sp : Sp} {s₁ : Shared} {vs : List Value} {ns : List Int}
    (KX : K.In s₁.heap) (hns : s₁.heap.Ns mainGlobals mg) (hb : s₁.heap.Ns builtinsNs mb) (hbb : ∀ x : Str, x ≠ "__name__" → mb x = bootBuiltins x) (hlim : s₁.heap.NoLimit) (hg : s₁.gens = #[])
    (ha : s₁.heap.get? a = some { cls := .type "list", data := .seq vs.toArray }) (hi : IntsAre vs ns) (hl : ns.length ≤ sizeLine) (hr : Room k callerA)
    (F : ∀ base : Heap, K.In base → base.Ns mainGlobals mg → FnOk P w K mg base CX k fa fd [x] sp) (hbind : ∀ (s : Shared) (u : Value), BindsTo s fd ⟨[u], []⟩ [(x, u)])
    (hsp : ∀ H : Hp, Only H → SqL K H a (ns.map V.int) → sp [.ref a] H (fun v _ => v = .bl true) fun _ _ _ => False)
    (hCX : ∀ H e s', CX [] H s₁ (fun _ _ _ => False) e s' → False) :
    codeAny (model P w) callerA (.call (.ref fa) ⟨[.ref a], []⟩) (fun r s' => r = .ok (.ret (.bool true)) ∧ OldK s₁.heap s'.heap ∧ s'.os = s₁.os ∧ AllBare s'.gens) s₁ := by
  have rv := vals_ints hi
  have lenV := hi.length
  -- from an abstract heap in which nothing but the script may be tracked
  have core : ∀ H : Hp, Only H → SqL K H a (ns.map V.int) → HOk P w H s₁.heap → (∀ b, H b ≠ none → b = a) → (H a ≠ none → K.lookup a = none) →
      codeAny (model P w) callerA (.call (.ref fa) ⟨[.ref a], []⟩) (fun r s' => r = .ok (.ret (.bool true)) ∧ OldK s₁.heap s'.heap ∧ s'.os = s₁.os ∧ AllBare s'.gens) s₁ := by
    intro H hO hS hok hA hK
    have base_of : ∀ {b : Addr} {o : Obj}, s₁.heap.get? b = some o → H b = none → (hidT s₁.heap H).get? b = some o := fun e n => hidT_get e n
    have noA : ∀ {b : Addr} {o : Obj} {es : Array DictEntry} {ep : Nat}, s₁.heap.get? b = some o → o.data = .dict es ep → H b = none := fun {b o es ep} e d => by
      cases q : H b with
      | none => rfl
      | some u =>
        have e' : b = a := hA b (by rw [q]; simp)
        subst e'
        rw [ha] at e; cases e
        have d' : Data.seq vs.toArray _ = Data.dict es ep := d
        cases d'
    have nsK : ∀ {b : Addr} {m : Str → Option Value}, s₁.heap.Ns b m → (hidT s₁.heap H).Ns b m := fun {b m} ⟨o, es, ep, e, d, r⟩ => ⟨o, es, ep, base_of e (noA e d), d, r⟩
    have hKb : K.In (hidT s₁.heap H) := fun b o e => base_of (KX b o e) (by
      cases q : H b with
      | none => rfl
      | some u =>
        have e' : b = a := hA b (by rw [q]; simp)
        subst e'
        rw [hK (by rw [q]; simp)] at e; cases e)
    have hM : Mod K mg (hidT s₁.heap H) := ⟨hKb, nsK hns, ⟨mb, nsK hb, hbb⟩, let ⟨mc, h1, h2⟩ := hlim; ⟨mc, nsK h1, h2⟩⟩
    have e0 : Env0 P w K mg (hidT s₁.heap H) callerA [] s₁ H := ⟨rfl, hM, fun b o e => of_hidT e, Nat.le_of_eq (hidT_size _ _), trivial, fun b hb => absurd (show b ∈ ([] : List Addr) from hb) (by simp), hok, .of_eq hg⟩
    refine codeAny_mono ((F _ hKb (nsK hns)).run callerA [] s₁ H ⟨[.ref a], []⟩ [.ref a] [.ref a] _ _ hr e0 (hbind s₁ (.ref a)) (.cons rfl .nil) (hsp H hO hS)) fun r s' h => ?_
    cases r with
    | error e => exact (hCX H e s' h).elim
    | ok fl =>
      cases fl with
      | next => exact False.elim h
      | brk => exact False.elim h
      | cont => exact False.elim h
      | ret u =>
        obtain ⟨v, H', os, bare, un, hok', r', q⟩ := h
        have q' : v = .bl true := q
        subst q'
        obtain rfl : u = Value.bool true := r'
        refine ⟨rfl, OldK.of_keep fun b o e => ?_, os, bare⟩
        cases q : H b with
        | none => exact un.keep b o e q (by intro z; exact absurd (show b ∈ ([] : List Addr) from z) (by simp)) (by simp)
        | some u =>
          rcases hO b with z | ⟨ob, xs, z⟩
          · rw [q] at z; cases z
          · have z2 := un.frzs b ob _ z
            obtain ⟨e1, _⟩ := hok b _ z
            obtain ⟨e2, _⟩ := hok' b _ z2
            rw [e] at e1; cases e1
            exact e2
  cases hk : K.lookup a with
  | some o =>
    -- the script is one of the module's own objects
    have e := KX a o hk
    rw [ha] at e
    cases e
    refine core (fun _ => none) (fun _ => .inl rfl) (.inr ⟨_, vs.toArray, _, hk, rfl, rfl, rfl, by rw [List.size_toArray, lenV]; exact hl, by simpa using rv⟩) (fun b u z => by have z' : (none : Option HO) = some u := z; cases z') (fun b z => absurd rfl z) fun z => absurd rfl z
  | none =>
    refine core (fun b => if b = a then some (.frz { cls := .type "list", data := .seq vs.toArray } (.lst (ns.map V.int))) else none) (fun b => ?_) (.inl (.inr ⟨{ cls := .type "list", data := .seq vs.toArray }, if_pos rfl⟩)) (fun b u z => ?_) (fun b z => ?_) fun _ => hk
    · by_cases hb : b = a
      · exact .inr ⟨_, _, if_pos hb⟩
      · exact .inl (if_neg hb)
    · by_cases hb : b = a
      · have z' := (if_pos hb).symm.trans z
        cases z'
        subst hb
        exact ⟨ha, by rw [List.length_map]; exact hl, vs, _, rv, ha⟩
      · have z' := (if_neg hb).symm.trans z
        cases z'
    · by_cases hb : b = a
      · exact hb
      · exact absurd (if_neg hb) z
end L2

namespace L2
open PySem PySem.Spec PyProof.Rows


theorem walk_of {l : PySem.W.OpenLaw} {n k : Nat} {q : Program} {loose : List Str} {XP : (Str → Option Value) → Heap → Prop} {YP : World → Heap → Prop} {d : DefRec} {K : Params → PySem.W.Frag} {CX : World → CXT} {sp : World → Sp} {x : Str}
    (hn : l.most = some n) (hn2 : n ≤ sizeLine) (hdf : d.params.defaults = []) (hr : Room k callerA)
    (hY : ∀ (w : World) (h : Heap), YP w h → (K w.params).In h)
    (F : ∀ (w : World) (mg : Str → Option Value) (fa : Addr) (h : Heap), (K w.params).In h → h.Ns mainGlobals mg → mg d.name = some (.ref fa) →
      ∃ fd : FuncData, (∀ (s : Shared) (u : Value), BindsTo s fd ⟨[u], []⟩ [(x, u)]) ∧
        ∀ base : Heap, (K w.params).In base → base.Ns mainGlobals mg → FnOk l.prog w (K w.params) mg base (CX w) k fa fd [x] (sp w))
    (hsp : ∀ (w : World) (H : Hp) (a : Addr) (ns : List Int), ns.length ≤ n → Only H → SqL (K w.params) H a (ns.map V.int) → sp w [.ref a] H (fun v _ => v = .bl true) fun _ _ _ => False)
    (hCX : ∀ (w : World) (H : Hp) (s : Shared) (e : Value) (s' : Shared), CX w [] H s (fun _ _ _ => False) e s' → False) :
    PySem.W.WalkO q loose XP YP l.row.toRowW d [] (fun f vs => PySem.call f vs) := by
  refine Att.attach_call hn hdf fun w s₀ s₁ mg mb fa o pm cd doc a vs ns G Y ho hd hcd hmg hobj hints hlen hg => ?_
  have KX := hY w _ Y
  obtain ⟨fd, hb, hF⟩ := F w mg fa _ KX G.T.g hmg
  exact law_call KX G.T.g G.T.b G.T.builtins G.T.nolimit hg hobj hints (Nat.le_trans hlen hn2) hr hF hb (fun H hO hS => hsp w H a ns hlen hO hS) fun H e s' => hCX w H s₁ e s'
end L2

/- THE LAST THEOREM (shape; LID, My.* are yours):
   My.Adr: a structure of the addresses that your layer names (classes, functions); My.Txt K t: a structure (Prop) of the equations over K;
   My.txt_mk : {K} {implicit addresses ..} (e1 : nsIn K mainGlobals "law" = some (some (.ref f))) (e2 : K.lookup f = some ⟨oc, od, .func (fnOf "law" "law" params body scope dV kV doc pm an cdv ct), sl⟩) (e3 : codeIn K cdv "law" = true) .. : ∃ t, My.Txt K t

set_option maxRecDepth 100000 in
set_option maxHeartbeats 0 in
theorem PySem.Challenge.cw_LID_holds : PySem.Challenge.rw_LID.Holds := by
  w_on; o_law; k_head; (case hw => w_witness2)
  k_fill
  refine L2.walk_of (l := PySem.Challenge.rw_LID) (n := 63) (k := 40) (x := "script") (CX := fun w => ..) (sp := fun _ => My.sp_law) rfl (by decide) rfl ⟨rfl, by decide, by decide⟩ (fun w h Y => PySem.W.kIn_of Y) ?F ?S ?C
  case F =>
    intro w mg fa h KX G hmg
    have T : ∃ t, My.Txt (L2.KOf KX) t := by
      dsimp only [L2.KOf]                          -- K must stand as «<heap const> w.params» for k_is
      refine' My.txt_mk ?e1 ?e2 ?e3 ..
      (case e1 => PySem.W.k_is)                    -- in the order: a name -> its address -> its object -> its parts
      (case e2 => PySem.W.k_is)
      ..
    obtain ⟨t, T⟩ := T
    have e0 := hmg.symm.trans (PySem.W.mg_of KX G T.law)
    cases e0                                       -- fa is the law's own address
    exact ⟨_, fun s u => .of_eq rfl, fun base kb nb => My.law_fn T kb nb⟩     -- if «.of_eq rfl» comes too early: refine' ⟨_, ?b, fun base kb nb => My.law_fn T kb nb⟩; exact fun s u => .of_eq rfl
  case S => exact fun w H a ns hl hO hS => ..
  case C => exact ..
(the tactic k_is has no namespace: write k_is) -/

namespace L2
open PySem PySem.Spec PyProof.Rows

noncomputable def inClass (s : Stmt) (j : Nat) : Stmt := match s with
  | .ClassDef _ _ _ body _ _ _ _ _ _ _ => body.getD j (.Pass ⟨0, 0, 0, 0⟩)
  | _ => .Pass ⟨0, 0, 0, 0⟩
noncomputable def defArgs (s : Stmt) : Arguments := match s with
  | .FunctionDef _ a _ _ _ _ _ _ _ _ => a
  | _ => { posonlyargs := [], args := [], vararg := none, kwonlyargs := [], kw_defaults := [], kwarg := none, defaults := [] }
noncomputable def defBody (s : Stmt) : List Stmt := match s with
  | .FunctionDef _ _ b _ _ _ _ _ _ _ => b
  | _ => []
noncomputable def defScope (s : Stmt) : Scope := match s with
  | .FunctionDef _ _ _ _ _ _ sc _ _ _ => sc
  | _ => { kind := .function, names := [], isGenerator := false, isCoroutine := false }

noncomputable abbrev CX0 : CXT := fun _ _ _ _ _ _ => False
noncomputable abbrev E0 : XK := fun _ _ _ => False
theorem pass0 {X : Cx} : Passes CX0 X E0 := fun _ _ _ _ _ _ _ h => h.elim

structure Fun (K : PySem.W.Frag) (x qual : Str) (st : Stmt) (f : Addr) (fd : FuncData) : Prop where
  ex : ∃ (oc : Value) (od : Option Addr) (kV doc pm : Value) (an : Option Addr) (cdv ct : Value) (osl : Array (Option Value)),
    fd = PySem.W.fnOf x qual (defArgs st) (defBody st) (defScope st) .none kV doc pm an cdv ct ∧ K.lookup f = some ⟨oc, od, .func fd, osl⟩ ∧ PySem.W.codeIn K cdv qual = true
  kp : PySem.W.keepIn K (.ref f) = true
section
variable {P : Program} {w : World} {K : PySem.W.Frag} {mg : Str → Option Value} {base : Heap}
theorem Fun.ok {x qual : Str} {st : Stmt} {f : Addr} {fd : FuncData} {N ps : List Str} {k : Nat} {sp : Sp} (F : Fun K x qual st f fd) (S : FnScope N ps (defScope st)) (len : ∀ vs H Q E, sp vs H Q E → vs.length = ps.length)
    (hbody : ∀ (cdv : Value) (A : Around) (outer : List Env) (s : Shared) (H : Hp) (vs : List V) (Q : VK) (E : XK), Room k (A.deeper (envOfC qual (defScope st) s.heap.objs.size f cdv)) → sp vs H Q E →
      ∃ t, PSs (cxOf CX0 P w K mg base N qual (defScope st) f cdv A outer s H E).nox (defBody st) t ∧ t { nx := fun _ H' => Q .non H', rt := Q } (start N vs) H) : FnOk P w K mg base CX0 (k + 1) f fd ps sp := by
  obtain ⟨oc, od, kV, doc, pm, an, cdv, ct, osl, rfl, lk, hcd⟩ := F.ex
  refine fn_of lk hcd S len fun A outer s H vs Q E hr hsp => ?_
  obtain ⟨t, h, q⟩ := hbody cdv A outer s H vs Q E hr hsp
  exact ⟨t, h.nox, q⟩
theorem Fun.binds {x qual : Str} {st : Stmt} {f : Addr} {fd : FuncData} {ps : List Str} (F : Fun K x qual st f fd)
    (h : ∀ (kV doc pm : Value) (an : Option Addr) (cdv ct : Value) (us : List Value), us.length = ps.length → bindArgs (PySem.W.fnOf x qual (defArgs st) (defBody st) (defScope st) .none kV doc pm an cdv ct) ⟨us, []⟩ = pure (ps.zip us)) : Binds K fd ps [] := by
  obtain ⟨oc, od, kV, doc, pm, an, cdv, ct, osl, rfl, lk, hcd⟩ := F.ex
  exact .all (h kV doc pm an cdv ct)
theorem fun_mk {x qual : Str} {st : Stmt} {f : Addr} {oc : Value} {od an : Option Addr} {osl : Array (Option Value)} {kV doc pm cdv ct : Value} (l : K.lookup f = some ⟨oc, od, .func (PySem.W.fnOf x qual (defArgs st) (defBody st) (defScope st) .none kV doc pm an cdv ct), osl⟩)
    (c : PySem.W.codeIn K cdv qual = true) (k : PySem.W.keepIn K (.ref f) = true) : Fun K x qual st f (PySem.W.fnOf x qual (defArgs st) (defBody st) (defScope st) .none kV doc pm an cdv ct) := ⟨⟨oc, od, kV, doc, pm, an, cdv, ct, osl, rfl, l, c⟩, k⟩
end
theorem hu_of {A : Around} {k : Nat} (hr : Room k A) : A.units + 1 < cLine := Nat.lt_of_le_of_lt (Nat.add_le_add_left (by decide : 1 ≤ 64) _) hr.units

section
variable {X : Cx}
theorem call_lenD : CallR X (.builtin "len") (fun xs H Q => ∃ a kvs, xs = [V.ref a] ∧ H a = some (.dK kvs) ∧ Q (.int kvs.length) H) := by
  intro pins s σ H xs us Q I r h
  obtain ⟨a, kvs, rfl, ha, q⟩ := h
  obtain ⟨u, rfl, ru⟩ := vals1 r
  cases ru
  exact d_len I (.inl ha) fun t s' I' => ⟨.int kvs.length, H, I', ⟨t, rfl⟩, q⟩
end

theorem iteF {A B : Prop} (h : B) : if false = true then A else B := by
  rw [if_neg Bool.false_ne_true]
  exact h
theorem iteT {A B : Prop} (h : A) : if true = true then A else B := by
  rw [if_pos rfl]
  exact h
theorem ite2 {c A B : Prop} [Decidable c] (h1 : c → A) (h2 : ¬ c → B) : if c then A else B := by
  by_cases h : c
  · rw [if_pos h]
    exact h1 h
  · rw [if_neg h]
    exact h2 h
theorem iteNS {c A B : Prop} [Decidable c] (hc : c) (h : B) : if (!decide c) = true then A else B := by
  rw [decide_eq_true hc]
  exact iteF h

noncomputable def Same (H H' : Hp) : Prop := ∀ b o, H b = some o → H' b = some o
theorem Same.refl (H : Hp) : Same H H := fun _ _ h => h
theorem Same.trans {H H1 H2 : Hp} (a : Same H H1) (b : Same H1 H2) : Same H H2 := fun c o h => b c o (a c o h)
theorem Same.free {H H' : Hp} (e : Same H H') {l : Addr} (h : H' l = Option.none) : H l = Option.none := by
  cases q : H l with
  | none => rfl
  | some o =>
    rw [e l o q] at h
    cases h
theorem Same.seq {K : PySem.W.Frag} {H H' : Hp} {a : Addr} {xs : List V} (e : Same H H') (h : SqL K H a xs) : SqL K H' a xs := by
  rcases h with (h | ⟨o, h⟩) | h
  · exact .inl (.inl (e _ _ h))
  · exact .inl (.inr ⟨o, e _ _ h⟩)
  · exact .inr h

section
variable {κ : Type} [DecidableEq κ]
theorem nd_snoc : ∀ {l : List κ} {k : κ}, l.Nodup → ¬ k ∈ l → (l ++ [k]).Nodup
  | [], k, _, _ => by simp
  | a :: r, k, h, hk => by
    obtain ⟨h1, h2⟩ := List.nodup_cons.mp h
    show (a :: (r ++ [k])).Nodup
    refine List.nodup_cons.mpr ⟨fun m => ?_, nd_snoc h2 fun m => hk (List.mem_cons.mpr (Or.inr m))⟩
    rcases List.mem_append.mp m with q | q
    · exact h1 q
    · exact hk (List.mem_cons.mpr (Or.inl (List.mem_singleton.mp q).symm))
theorem dropK_pos {p : κ × V} {r : List (κ × V)} {k : κ} (e : p.1 = k) : dropK (p :: r) k = dropK r k := by
  unfold dropK
  rw [List.filter_cons, if_neg (by simp [e])]
theorem dropK_neg {p : κ × V} {r : List (κ × V)} {k : κ} (e : ¬ p.1 = k) : dropK (p :: r) k = p :: dropK r k := by
  unfold dropK
  rw [List.filter_cons, if_pos (by simp [e])]
end
end L2


set_option Elab.async false
set_option linter.all false
set_option maxRecDepth 100000
namespace SW
open PySem PySem.Spec PyProof.Rows L2

theorem b_int : bootBuiltins "int" = some (.type "int") := by decide +kernel
theorem b_bool : bootBuiltins "bool" = some (.type "bool") := by decide +kernel
theorem b_tuple : bootBuiltins "tuple" = some (.type "tuple") := by decide +kernel
theorem b_isinstance : bootBuiltins "isinstance" = some (.builtin "isinstance") := by decide +kernel
theorem b_len : bootBuiltins "len" = some (.builtin "len") := by decide +kernel

structure Bx (p : Prop) : Prop where
  out : p
structure Fn (P : Program) (w : World) (K : PySem.W.Frag) (mg : Str → Option Value) (base : Heap) (x : Str) (k : Nat) (ps : List Str) (sp : Sp) : Prop where
  ex : ∃ (f : Addr) (fd : FuncData), FnOk P w K mg base CX0 k f fd ps sp ∧ mg x = some (.ref f) ∧ PySem.W.keepIn K (.ref f) = true ∧ Binds K fd ps []
structure Dfn (K : PySem.W.Frag) (mg : Str → Option Value) (x : Str) (st : Stmt) (ps : List Str) : Prop where
  ex : ∃ (f : Addr) (fd : FuncData), Fun K x x st f fd ∧ mg x = some (.ref f) ∧ Binds K fd ps []
theorem Dfn.fn {P : Program} {w : World} {K : PySem.W.Frag} {mg : Str → Option Value} {base : Heap} {x : Str} {st : Stmt} {N ps : List Str} {k : Nat} {sp : Sp} (d : Dfn K mg x st ps) (S : FnScope N ps (defScope st)) (len : ∀ vs H Q E, sp vs H Q E → vs.length = ps.length)
    (hbody : ∀ (f : Addr) (cdv : Value) (A : Around) (outer : List Env) (s : Shared) (H : Hp) (vs : List V) (Q : VK) (E : XK), Room k (A.deeper (envOfC x (defScope st) s.heap.objs.size f cdv)) → sp vs H Q E →
      ∃ t, Bx (PSs (cxOf CX0 P w K mg base N x (defScope st) f cdv A outer s H E).nox (defBody st) t) ∧ t { nx := fun _ H' => Q .non H', rt := Q } (start N vs) H) : Fn P w K mg base x (k + 1) ps sp := by
  obtain ⟨f, fd, F, hm, hb⟩ := d.ex
  exact ⟨f, fd, F.ok S len (fun cdv A outer s H vs Q E hr h => let ⟨t, h1, h2⟩ := hbody f cdv A outer s H vs Q E hr h; ⟨t, h1.out, h2⟩), hm, F.kp, hb⟩
theorem fun_bx {P : Program} {w : World} {K : PySem.W.Frag} {mg : Str → Option Value} {base : Heap} {x qual : Str} {st : Stmt} {f : Addr} {fd : FuncData} {N ps : List Str} {k : Nat} {sp : Sp} (F : Fun K x qual st f fd) (S : FnScope N ps (defScope st)) (len : ∀ vs H Q E, sp vs H Q E → vs.length = ps.length)
    (hbody : ∀ (cdv : Value) (A : Around) (outer : List Env) (s : Shared) (H : Hp) (vs : List V) (Q : VK) (E : XK), Room k (A.deeper (envOfC qual (defScope st) s.heap.objs.size f cdv)) → sp vs H Q E →
      ∃ t, Bx (PSs (cxOf CX0 P w K mg base N qual (defScope st) f cdv A outer s H E).nox (defBody st) t) ∧ t { nx := fun _ H' => Q .non H', rt := Q } (start N vs) H) : FnOk P w K mg base CX0 (k + 1) f fd ps sp :=
  F.ok S len (fun cdv A outer s H vs Q E hr h => let ⟨t, h1, h2⟩ := hbody cdv A outer s H vs Q E hr h; ⟨t, h1.out, h2⟩)

noncomputable def plainE : Expr → Bool
  | .Starred _ _ => false
  | _ => true
theorem star_of {e : Expr} {es : List Expr} {env : Env} (h : plainE e = true) : starEach (e :: es) env = (false, eval e env) :: starEach es env := by
  cases e <;> first | rfl | exact absurd h Bool.false_ne_true
theorem star_any {pos : Pos} {env : Env} : ∀ {es : List Expr}, es.all plainE = true → (backTo pos (starEach es env)).any (·.1) = false
  | [], _ => rfl
  | e :: es, h => by
    rw [List.all_cons, Bool.and_eq_true] at h
    rw [star_of h.1]
    show (false || (backTo pos (starEach es env)).any (·.1)) = false
    rw [star_any h.2]
    rfl
theorem star_all {pos : Pos} {env : Env} : ∀ {es : List Expr}, es.all plainE = true → (backTo pos (starEach es env)).all (fun x => !x.1) = true
  | [], _ => rfl
  | e :: es, h => by
    rw [List.all_cons, Bool.and_eq_true] at h
    rw [star_of h.1]
    show (true && (backTo pos (starEach es env)).all (fun x => !x.1)) = true
    rw [star_all h.2]
    rfl
section
variable {X : Cx} {x : Str} {p pos : Pos} {e : Expr} {es : List Expr} {t : TA} {te : TE} {k : Nat} {ps : List Str} {sp : Sp}
theorem pac (ha : PE X e te) (hr : PA X es t) (h : plainE e = true := by rfl) : PA X (e :: es) (tCons te t) := pa_cons ha hr (star_of h)
theorem pe_fn (F : Fn X.prog X.w X.K X.mg X.base x k ps sp) (hr : Room k X.A) (ha : PA X (e :: es) t) (hg : Gl X x := by rfl) (hdb : (x == ("__debug__" : Str)) = false := by decide) (h1 : plainE e = true := by rfl) (h2 : es.all plainE = true := by rfl) :
    PE X (.Call (.Name x p) (e :: es) [] pos) (tCall sp [] E0 t) := by
  obtain ⟨f, fd, G, hm, kp, b⟩ := F.ex
  exact pe_call G hr hg hm kp b .nil pass0 ha hdb (star_of h1) (star_any h2)
theorem pe_cB {id : String} {r : List V → Hp → VK → Prop} (hc : CallR X (.builtin id) r) (hm : X.mg x = none) (hv : bootBuiltins x = some (.builtin id)) (ha : PA X (e :: es) t) (hg : Gl X x := by rfl) (hn : x ≠ "__name__" := by decide) (hdb : (x == ("__debug__" : Str)) = false := by decide)
    (h1 : plainE e = true := by rfl) (h2 : es.all plainE = true := by rfl) : PE X (.Call (.Name x p) (e :: es) [] pos) (tCB r t) := pe_callB hc hg hm hv ha hn hdb (star_of h1) (star_any h2)
theorem pe_cT {T : String} {r : List V → Hp → VK → Prop} (hc : CallR X (.type T) r) (hm : X.mg x = none) (hv : bootBuiltins x = some (.type T)) (ha : PA X (e :: es) t) (hg : Gl X x := by rfl) (hn : x ≠ "__name__" := by decide) (hdb : (x == ("__debug__" : Str)) = false := by decide)
    (h1 : plainE e = true := by rfl) (h2 : es.all plainE = true := by rfl) : PE X (.Call (.Name x p) (e :: es) [] pos) (tCB r t) := pe_callTy hc hg hm hv ha hn hdb (star_of h1) (star_any h2)
theorem pe_m {T name id : _} {r : V → List V → Hp → VK → Prop} {o : Expr} {to : TE} {apos cpos : Pos} (pa : PlainAttrs T) (slot : Slot T name id) (hty : typeOf (.builtin id) = pure (.type "method_descriptor")) (hm : MtR X id r) (ho : PE X o to) (ha : PA X (e :: es) t)
    (hbase : attributeBase o name X.env (eval o X.env) = eval o X.env := by rfl) (hl : decide ((e :: es).length + ([] : List Keyword).length + (if ([] : List Keyword).isEmpty then 0 else 1) < 30) = true := by rfl)
    (hline : (apos.endLine == cpos.line) = true := by rfl) (h1 : plainE e = true := by rfl) (h2 : es.all plainE = true := by rfl) :
    PE X (.Call (.Attribute o name apos) (e :: es) [] cpos) (tBM X.K T r to t) := by
  refine pe_bm pa slot hty hm ho ha hbase ?_ hline (star_of h1) (star_any h2)
  have hA : (e :: es).all plainE = true := by rw [List.all_cons, h1, h2]; rfl
  rw [star_all hA, hl]
  rfl
theorem pi_r1 {tg a : Expr} {ta : TA} (hm : X.mg "range" = none) (ha : PA X [a] ta) (hg : Gl X "range" := by rfl) (h1 : plainE a = true := by rfl) : PI X tg (.Call (.Name "range" p) [a] [] pos) (iRng1 ta) :=
  pi_range1 hg hm ha (star_of h1)
theorem pe_gint {i : Int} (h : ∃ t, X.mg x = some (.int i t)) (hg : Gl X x := by rfl) (hd : (x == ("__debug__" : Str)) = false := by decide) : PE X (.Name x pos) (tC (.int i)) := by
  obtain ⟨t, h⟩ := h
  exact pe_glob hg h ⟨t, rfl⟩ hd
theorem pe_ty {n : String} (hm : X.mg x = none) (hv : bootBuiltins x = some (.type n)) (hg : Gl X x := by rfl) (hn : x ≠ "__name__" := by decide) (hd : (x == ("__debug__" : Str)) = false := by decide) : PE X (.Name x pos) (tC (.ty n)) :=
  pe_bltn hg hm hv (show Value.type n = Value.type n from rfl) hn hd
end

namespace B
section
variable {X : Cx} {x f : Str} {p pos : Pos} {e a b c o : Expr} {es : List Expr} {t : TA} {te ta tb tc to ti : TE} {k : Nat} {ps : List Str} {sp : Sp} {tg : Expr}
theorem int {i j pos} : Bx (PE X (.Constant (.int i) j pos) (tC (.int i))) := ⟨pe_int⟩
theorem bl {b j pos} : Bx (PE X (.Constant (.bool b) j pos) (tC (.bl b))) := ⟨pe_bl⟩
theorem non {j pos} : Bx (PE X (.Constant .none j pos) (tC .non)) := ⟨pe_non⟩
theorem str {x j pos} : Bx (PE X (.Constant (.str x) j pos) (tC (.str x))) := ⟨pe_str⟩
theorem v (i : Nat) {x : Str} {pos : Pos} (hN : X.N[i]? = some x := by rfl) (hv : Vis X.env.scope x := by first | exact Or.inl rfl | exact Or.inr (Or.inl rfl) | exact Or.inr (Or.inr rfl)) (hd : (x == ("__debug__" : Str)) = false := by decide)
    (hcd : (x == ("__classdict__" : Str)) = false := by decide) : Bx (PE X (.Name x pos) (tVar i)) := ⟨pe_var hN hv hd hcd⟩
theorem gint {i : Int} (h : ∃ t, X.mg x = some (.int i t)) (hg : Gl X x := by rfl) (hd : (x == ("__debug__" : Str)) = false := by decide) : Bx (PE X (.Name x pos) (tC (.int i))) := ⟨pe_gint h hg hd⟩
theorem ty {n : String} (hm : X.mg x = none) (hv : bootBuiltins x = some (.type n)) (hg : Gl X x := by rfl) (hn : x ≠ "__name__" := by decide) (hd : (x == ("__debug__" : Str)) = false := by decide) : Bx (PE X (.Name x pos) (tC (.ty n))) := ⟨pe_ty hm hv hg hn hd⟩
theorem op {op : Operator} {r : R2} (ho : OpR X (binaryOp op) r) (ha : Bx (PE X a ta)) (hb : Bx (PE X b tb)) : Bx (PE X (.BinOp a op b pos) (tOp r ta tb)) := ⟨pe_op ho ha.out hb.out⟩
theorem un {op : UnaryOp} {r : V → Hp → VK → Prop} (ho : UnR X (unaryOp op) r) (ha : Bx (PE X a ta)) : Bx (PE X (.UnaryOp op a pos) (tUn r ta)) := ⟨pe_un ho ha.out⟩
theorem not (ha : Bx (PE X a ta)) : Bx (PE X (.UnaryOp .Not a pos) (tNotV ta)) := ⟨pe_not ha.out⟩
theorem cmp {op : CmpOp} {r : R2} (ho : OpR X (compareOp op) r) (ha : Bx (PE X a ta)) (hb : Bx (PE X b tb)) (hm : behindInMarks op b = false := by exact nomark _) : Bx (PE X (.Compare a [op] [b] pos) (tOp r ta tb)) := ⟨pe_cmpR ho ha.out hb.out hm⟩
theorem chain {op op' : CmpOp} {r r' : R2} (ho : OpR X (compareOp op) r) (ho' : OpR X (compareOp op') r') (ha : Bx (PE X a ta)) (hb : Bx (PE X b tb)) (hc : Bx (PE X c tc)) (hm : lastMarks [op, op'] [b, c] = false := by with_unfolding_all rfl) :
    Bx (PE X (.Compare a [op, op'] [b, c] pos) (tChain r r' ta tb tc)) := ⟨pe_chain ho ho' ha.out hb.out hc.out hm⟩
theorem one {op} (h : Bx (PE X a ta)) : Bx (PE X (.BoolOp op [a] pos) ta) := ⟨pe_one h.out⟩
theorem and {rest : List Expr} (ha : Bx (PE X a ta)) (hb : Bx (PE X (.BoolOp .And (b :: rest) pos) tb)) : Bx (PE X (.BoolOp .And (a :: b :: rest) pos) (tAndV ta tb)) := ⟨pe_and ha.out hb.out⟩
theorem or {rest : List Expr} (ha : Bx (PE X a ta)) (hb : Bx (PE X (.BoolOp .Or (b :: rest) pos) tb)) : Bx (PE X (.BoolOp .Or (a :: b :: rest) pos) (tOrV ta tb)) := ⟨pe_or ha.out hb.out⟩
theorem nil : Bx (PA X [] tNil) := ⟨pa_nil⟩
theorem cons (ha : Bx (PE X e te)) (hr : Bx (PA X es t)) (h : plainE e = true := by rfl) : Bx (PA X (e :: es) (tCons te t)) := ⟨pac ha.out hr.out h⟩
theorem lst (h : Bx (PA X es t)) : Bx (PE X (.List es pos) (tLst t)) := ⟨pe_lst h.out⟩
theorem tup {x1} (h : Bx (PA X es t)) : Bx (PE X (.Tuple es x1 pos) (tTup t)) := ⟨pe_tup h.out⟩
theorem ix {r : R2} (hr : IxR X r) (ha : Bx (PE X a ta)) (hb : Bx (PE X b tb)) (hs : PlainIx b := by exact fun _ _ => rfl) : Bx (PE X (.Subscript a b pos) (tOp r ta tb)) := ⟨pe_ix hr ha.out hb.out hs⟩
theorem nopart : Bx (PO X none tNoPart) := ⟨po_none⟩
theorem part (h : Bx (PE X e te)) : Bx (PO X (some e) (tPart te)) := ⟨po_some h.out⟩
theorem slice {lo hi : Option Expr} {tl th : TO} {p2 : Pos} {r : V → Option Int → Option Int → Hp → VK → Prop} (hr : SlR X r) (he : Bx (PE X e te)) (hl : Bx (PO X lo tl)) (hu : Bx (PO X hi th)) : Bx (PE X (.Subscript e (.Slice lo hi none p2) pos) (tSl r te tl th)) := ⟨pe_slice hr he.out hl.out hu.out⟩
theorem fn (F : Fn X.prog X.w X.K X.mg X.base x k ps sp) (hr : Room k X.A) (ha : Bx (PA X (e :: es) t)) (hg : Gl X x := by rfl) (hdb : (x == ("__debug__" : Str)) = false := by decide) (h1 : plainE e = true := by rfl) (h2 : es.all plainE = true := by rfl) :
    Bx (PE X (.Call (.Name x p) (e :: es) [] pos) (tCall sp [] E0 t)) := ⟨pe_fn F hr ha.out hg hdb h1 h2⟩
theorem cB {id : String} {r : List V → Hp → VK → Prop} (hc : CallR X (.builtin id) r) (hm : X.mg x = none) (hv : bootBuiltins x = some (.builtin id)) (ha : Bx (PA X (e :: es) t)) (hg : Gl X x := by rfl) (hn : x ≠ "__name__" := by decide) (hdb : (x == ("__debug__" : Str)) = false := by decide)
    (h1 : plainE e = true := by rfl) (h2 : es.all plainE = true := by rfl) : Bx (PE X (.Call (.Name x p) (e :: es) [] pos) (tCB r t)) := ⟨pe_cB hc hm hv ha.out hg hn hdb h1 h2⟩
theorem cT {T : String} {r : List V → Hp → VK → Prop} (hc : CallR X (.type T) r) (hm : X.mg x = none) (hv : bootBuiltins x = some (.type T)) (ha : Bx (PA X (e :: es) t)) (hg : Gl X x := by rfl) (hn : x ≠ "__name__" := by decide) (hdb : (x == ("__debug__" : Str)) = false := by decide)
    (h1 : plainE e = true := by rfl) (h2 : es.all plainE = true := by rfl) : Bx (PE X (.Call (.Name x p) (e :: es) [] pos) (tCB r t)) := ⟨pe_cT hc hm hv ha.out hg hn hdb h1 h2⟩
theorem m {T name id : _} {r : V → List V → Hp → VK → Prop} {apos cpos : Pos} (pa : PlainAttrs T) (slot : Slot T name id) (hty : typeOf (.builtin id) = pure (.type "method_descriptor")) (hm : MtR X id r) (ho : Bx (PE X o to)) (ha : Bx (PA X (e :: es) t))
    (hbase : attributeBase o name X.env (eval o X.env) = eval o X.env := by rfl) (hl : decide ((e :: es).length + ([] : List Keyword).length + (if ([] : List Keyword).isEmpty then 0 else 1) < 30) = true := by rfl)
    (hline : (apos.endLine == cpos.line) = true := by rfl) (h1 : plainE e = true := by rfl) (h2 : es.all plainE = true := by rfl) :
    Bx (PE X (.Call (.Attribute o name apos) (e :: es) [] cpos) (tBM X.K T r to t)) := ⟨pe_m pa slot hty hm ho.out ha.out hbase hl hline h1 h2⟩
theorem tcmp {op : CmpOp} {r : R2} (ho : OpR X (compareOp op) r) (ha : Bx (PE X a ta)) (hb : Bx (PE X b tb)) (hm : behindInMarks op b = false := by exact nomark _) : Bx (PT X (.Compare a [op] [b] pos) (tTest (tOp r ta tb))) := ⟨pt_cmpR ho ha.out hb.out hm⟩
theorem tchain {op op' : CmpOp} {r r' : R2} (ho : OpR X (compareOp op) r) (ho' : OpR X (compareOp op') r') (ha : Bx (PE X a ta)) (hb : Bx (PE X b tb)) (hc : Bx (PE X c tc)) (hm : lastMarks [op, op'] [b, c] = false := by with_unfolding_all rfl) :
    Bx (PT X (.Compare a [op, op'] [b, c] pos) (tTest (tChain r r' ta tb tc))) := ⟨pt_chain ho ho' ha.out hb.out hc.out hm⟩
theorem tval (h : Bx (PE X e te)) (he : ∀ whole, isTrue e X.env whole = (do let v ← whole; standAt e.pos; holding [v] (truthy v)) := by intro _; rfl) : Bx (PT X e (tB te)) := ⟨pt_val h.out he⟩
theorem tnot {tA : TT} (ha : Bx (PT X a tA)) : Bx (PT X (.UnaryOp .Not a pos) (tNot tA)) := ⟨pt_not ha.out⟩
theorem wand1 {tA : TT} (ha : Bx (PT X a tA)) : Bx (PW X (.BoolOp .And [a] pos) tA) := ⟨pw_and1 ha.out⟩
theorem wor1 {tA : TT} (ha : Bx (PT X a tA)) : Bx (PW X (.BoolOp .Or [a] pos) tA) := ⟨pw_or1 ha.out⟩
theorem wand {tA tB' : TT} {rest : List Expr} (ha : Bx (PT X a tA)) (hb : Bx (PW X (.BoolOp .And (b :: rest) pos) tB')) : Bx (PW X (.BoolOp .And (a :: b :: rest) pos) (tAnd tA tB')) := ⟨pw_and ha.out hb.out⟩
theorem wor {tA tB' : TT} {rest : List Expr} (ha : Bx (PT X a tA)) (hb : Bx (PW X (.BoolOp .Or (b :: rest) pos) tB')) : Bx (PW X (.BoolOp .Or (a :: b :: rest) pos) (tOr tA tB')) := ⟨pw_or ha.out hb.out⟩
theorem tw {tA : TT} (h : Bx (PW X e tA)) : Bx (PT X e tA) := ⟨h.out.pt⟩
theorem gname {i : Nat} (hN : X.N.Nodup) (hi : X.N[i]? = some x := by rfl) (hx : Loc X.env.scope x := by first | exact Or.inl rfl | exact Or.inr rfl) (hf : X.fn x = true ∨ X.env.scope.names.lookup x = some .local := by first | exact .inl rfl | exact .inr rfl) : Bx (PG X (.Name x pos) (gName i)) := ⟨pg_name hN hi hx hf⟩
theorem gnil : Bx (PGs X [] gNil) := ⟨pgs_nil⟩
theorem gcons {g : TG} {u : TGs} (h1 : Bx (PG X e g)) (h2 : Bx (PGs X es u)) (hs : (assignEach (e :: es) X.env).map (·.2) = assign e X.env :: (assignEach es X.env).map (·.2) := by rfl) : Bx (PGs X (e :: es) (gCons g u)) := ⟨pgs_cons h1.out h2.out hs⟩
theorem gtup {kk n : Nat} {u : TGs} (h : Bx (PGs X es u)) (hc : X.calm = true := by rfl) (hn : (assignEach es X.env).length = n := by rfl) (hst : (assignEach es X.env).findIdx? (·.1) = none := by rfl) : Bx (PG X (.Tuple es kk pos) (gTup X.K n u)) := ⟨pg_tup hc h.out hn hst⟩
theorem gsub {s : TSet} {i : Expr} (ho : Bx (PE X o to)) (hi : Bx (PE X i ti)) (hs : PSet X s)
    (ha : ∀ v, assign (.Subscript o i pos) X.env v = (do
      let ov ← holding [v] (eval o X.env)
      let iv ← holding [v, ov] (eval i X.env)
      standAt pos
      holding [v, ov, iv] (setItem ov iv v)
      release [v, ov, iv] []) := by intro _; rfl) : Bx (PG X (.Subscript o i pos) (gSub to ti s)) := ⟨pg_sub ho.out hi.out hs ha⟩
theorem asg {g : TG} (he : Bx (PE X e te)) (hg : Bx (PG X tg g)) (hs : swapsWithSole [tg] e pos.line X.env = pure false := by rfl) (hw : swappedStores [tg] e X.env = pure none := by rfl)
    (h1 : (assignEach [tg] X.env).map (·.2) = [assign tg X.env] := by rfl) : Bx (PS X (.Assign [tg] e pos) (tAsg te g)) := ⟨ps_asg he.out hg.out hs hw h1⟩
theorem set (i : Nat) {pos' : Pos} (hN : X.N.Nodup) (he : Bx (PE X e te)) (hi : X.N[i]? = some x := by rfl) (hx : Loc X.env.scope x := by first | exact Or.inl rfl | exact Or.inr rfl) (hs : swapsWith e (some (.Name x pos')) pos.line X.env = pure false := by rfl)
    (hf : X.fn x = true ∨ X.env.scope.names.lookup x = some .local := by first | exact .inl rfl | exact .inr rfl) : Bx (PS X (.Assign [.Name x pos'] e pos) (tAsg te (gName i))) := ⟨ps_set hN hi hx he.out hs hf⟩
theorem expr (he : Bx (PE X e te)) (hs : swapsWith e none pos.line X.env = pure false := by rfl) : Bx (PS X (.Expr e pos) (tDrop te)) := ⟨ps_expr he.out hs⟩
theorem ret (he : Bx (PE X e te)) : Bx (PS X (.Return (some e) pos) (tRet te)) := ⟨ps_ret he.out⟩
theorem ifs {tcc : TT} {l r : List Stmt} {u w : TS} (hc : Bx (PT X c tcc)) (ha : Bx (PSs X l u)) (hb : Bx (PSs X r w)) : Bx (PS X (.If c l r pos) (tIfS tcc u w)) := ⟨ps_if hc.out ha.out hb.out⟩
theorem ilist {l : Expr} {tl : TE} (hl : Bx (PE X l tl)) : Bx (PI X tg l (iList X.K tl)) := ⟨pi_list hl.out⟩
theorem itup {l : Expr} {tl : TE} (hl : Bx (PE X l tl)) : Bx (PI X tg l (iTup X.K tl)) := ⟨pi_tup hl.out⟩
theorem irange {t : TA} (hm : X.mg "range" = none) (ha : Bx (PA X [a] t)) (hg : Gl X "range" := by rfl) (h1 : plainE a = true := by rfl) : Bx (PI X tg (.Call (.Name "range" p) [a] [] pos) (iRng1 t)) := ⟨pi_r1 hm ha.out hg h1⟩
theorem fors {iter : Expr} {l : List Stmt} {wi : TI} {g : TG} {u : TS} (hi : Bx (PI X tg iter wi)) (hg : Bx (PG X tg g)) (hb : Bx (PSs X l u)) (hp : PassesOwn (model X.prog X.w) X.A X.env X.xe := by exact PassesOwn.never) (hc : X.calm = true := by rfl)
    (hs : ∀ x, foldedSetIterable iter X.env x = pure x := by intro _; rfl) : Bx (PS X (.For tg iter l [] pos) (tFor wi g u)) := ⟨ps_for hp hc hi.out hg.out hb.out hs⟩
theorem snil : Bx (PSs X [] tNext) := ⟨pss_nil⟩
theorem scons {st : Stmt} {rest : List Stmt} {u w : TS} (h1 : Bx (PS X st u)) (h2 : Bx (PSs X rest w)) : Bx (PSs X (st :: rest) (tSeq u w)) := ⟨pss_cons h1.out h2.out⟩
theorem sone {st : Stmt} {u : TS} (h1 : Bx (PS X st u)) : Bx (PSs X [st] u) := ⟨pss_one h1.out⟩
end
end B
noncomputable def CDivL (_ j : Int) : Prop := 0 < j ∧ j < 18446744073709551616
theorem op_fdivL {X : Cx} : OpR X (binaryOp .FloorDiv) (rI CDivL fun i j => .int (i / j)) := opI fun i j _ _ _ _ _ hc q => by
  have h1 : (0 : Int) < j := hc.1
  have h2 : j < 18446744073709551616 := hc.2
  have h3 : j.natAbs.log2 < 64 := (Nat.log2_lt (by omega)).mpr (by omega)
  exact floordiv_int (by omega) (by rw [Int.fdiv_eq_ediv_of_nonneg i (by omega)]; exact q) (.inl (PyProof.noPylong_of_log2 (by omega)))
section
variable {D : Ends} {σ : L2.St} {H : Hp} {Q : VK} {v : V} {K : PySem.W.Frag}
theorem wAsg {te : TE} {g : TG} (h : te σ H fun x H1 => g x σ H1 D.nx) : tAsg te g D σ H := h
theorem wName {i : Nat} {Q : L2.St → Hp → Prop} (h : Q (σ.set i (some v)) H) : gName i v σ H Q := h
theorem wSub {to ti : TE} {t : TSet} {Q : L2.St → Hp → Prop} (h : to σ H fun o H1 => ti σ H1 fun i H2 => t o i v H2 fun H3 => Q σ H3) : gSub to ti t v σ H Q := h
theorem wSetL {p : Addr} {xs : List V} {i : Int} {j : Nat} {Q : Hp → Prop} (e : H p = some (.lst xs)) (hj : ixN xs.length i = some j) (h : Q (upd H p (.lst (xs.set j v)))) : rSetL (.ref p) (.int i) v H Q := ⟨p, xs, i, j, rfl, rfl, e, hj, h⟩
theorem wDrop {te : TE} (h : te σ H fun _ H1 => D.nx σ H1) : tDrop te D σ H := h
theorem wRet {te : TE} (h : te σ H D.rt) : tRet te D σ H := h
theorem wNext (h : D.nx σ H) : tNext D σ H := h
theorem wIfS {c : TT} {t u : TS} (h : c σ H fun b H1 => if b = true then t D σ H1 else u D σ H1) : tIfS c t u D σ H := h
theorem wVar {i : Nat} (e : σ[i]? = some (some v)) (h : Q v H) : tVar i σ H Q := ⟨v, e, h⟩
theorem wC (h : Q v H) : tC v σ H Q := h
theorem wOp {r : R2} {ta tb : TE} (h : ta σ H fun x H1 => tb σ H1 fun y H2 => r x y H2 Q) : tOp r ta tb σ H Q := h
theorem wUn {r : V → Hp → VK → Prop} {ta : TE} (h : ta σ H fun x H1 => r x H1 Q) : tUn r ta σ H Q := h
theorem wU {g : Int → V} {i : Int} (h : Q (g i) H) : rU g (.int i) H Q := ⟨i, rfl, h⟩
theorem wI0 {g : Int → Int → V} {i j : Int} (h : Q (g i j) H) : rI0 g (.int i) (.int j) H Q := ⟨i, j, rfl, rfl, h⟩
theorem wMod {g : Int → Int → V} {i j : Int} (c : 0 < j) (h : Q (g i j) H) : rI (fun _ j => 0 < j) g (.int i) (.int j) H Q := ⟨i, j, rfl, rfl, c, h⟩
theorem wDivL {g : Int → Int → V} {i j : Int} (c : 0 < j ∧ j < 18446744073709551616) (h : Q (g i j) H) : rI CDivL g (.int i) (.int j) H Q := ⟨i, j, rfl, rfl, c, h⟩
theorem wMul {g : Int → Int → V} {i j : Int} (c : (-18446744073709551616 < i ∧ i < 18446744073709551616) ∨ (-18446744073709551616 < j ∧ j < 18446744073709551616)) (h : Q (g i j) H) : rI CMul g (.int i) (.int j) H Q := ⟨i, j, rfl, rfl, c, h⟩
theorem wPow {g : Int → Int → V} {i j : Int} (c : 0 ≤ j ∧ j ≤ 1000000 ∧ i.natAbs < 2 ^ 64) (h : Q (g i j) H) : rI CPow g (.int i) (.int j) H Q := ⟨i, j, rfl, rfl, c, h⟩
theorem wEqI {i j : Int} (h : Q (.bl (decide (V.int i = V.int j))) H) : rEq (.int i) (.int j) H Q := ⟨rfl, h⟩
theorem wNeI {i j : Int} (h : Q (.bl (!decide (V.int i = V.int j))) H) : rNe (.int i) (.int j) H Q := ⟨rfl, h⟩
theorem wTest {te : TE} {Q : Bool → Hp → Prop} (h : te σ H fun x H' => ∃ k, x = .bl k ∧ Q k H') : tTest te σ H Q := h
theorem wB {te : TE} {Q : Bool → Hp → Prop} (h : te σ H fun x H' => ∃ k, x = .bl k ∧ Q k H') : tB te σ H Q := h
theorem wBl {b : Bool} {Q : Bool → Prop} (h : Q b) : ∃ k, V.bl b = .bl k ∧ Q k := ⟨b, rfl, h⟩
theorem wNot {t : TT} {Q : Bool → Hp → Prop} (h : t σ H fun c H1 => Q (!c) H1) : tNot t σ H Q := h
theorem wNotV {ta : TE} (h : ta σ H fun x H1 => ∃ c, x = .bl c ∧ Q (.bl (!c)) H1) : tNotV ta σ H Q := h
theorem wAndV {ta tb : TE} (h : ta σ H fun x H1 => ∃ c, x = .bl c ∧ if c = true then tb σ H1 Q else Q (.bl false) H1) : tAndV ta tb σ H Q := h
theorem wOrV {ta tb : TE} (h : ta σ H fun x H1 => ∃ c, x = .bl c ∧ if c = true then Q (.bl true) H1 else tb σ H1 Q) : tOrV ta tb σ H Q := h
theorem wIxL {p : Addr} {xs : List V} {i : Int} (e : H p = some (.lst xs)) (a : atI xs i = some v) (h : Q v H) : rIxL K (.ref p) (.int i) H Q := ⟨p, xs, i, v, rfl, rfl, SqL.of e, a, h⟩
theorem wIxT {p : Addr} {xs : List V} {i : Int} (e : H p = some (.tup xs)) (a : atI xs i = some v) (h : Q v H) : rIxT K (.ref p) (.int i) H Q := ⟨p, xs, i, v, rfl, rfl, SqT.of e, a, h⟩
theorem wNil {Q : List V → Hp → Prop} (h : Q [] H) : tNil σ H Q := h
theorem wCons {ta : TE} {tr : TA} {Q : List V → Hp → Prop} (h : ta σ H fun x H1 => tr σ H1 fun xs H2 => Q (x :: xs) H2) : tCons ta tr σ H Q := h
theorem wLst {t : TA} (h : t σ H fun xs H1 => xs.length ≤ sizeLine ∧ ∀ p, H1 p = none → Q (.ref p) (upd H1 p (.lst xs))) : tLst t σ H Q := h
theorem wTup {t : TA} (h : t σ H fun xs H1 => xs.length ≤ sizeLine ∧ ∀ p, H1 p = none → Q (.ref p) (upd H1 p (.tup xs))) : tTup t σ H Q := h
theorem wBM {T : String} {r : V → List V → Hp → VK → Prop} {to : TE} {t : TA} (h : to σ H fun x H1 => tyV K T x H1 ∧ t σ H1 fun xs H2 => r x xs H2 Q) : tBM K T r to t σ H Q := h
theorem wCall {sp : Sp} {E : XK} {t : TA} (h : t σ H fun vs H1 => sp (vs ++ []) H1 Q E) : tCall sp [] E t σ H Q := h
theorem wCB {r : List V → Hp → VK → Prop} {t : TA} (h : t σ H fun vs H1 => r vs H1 Q) : tCB r t σ H Q := h
end
end SW

namespace SW
open PySem PySem.NumText


set_option maxHeartbeats 4000000 in
section
variable {prog : Program} {w : World} {A : Around} {E : Value → Shared → Prop} {s : Shared} {Q : Value → Shared → Prop} {x : PySem.Str} {t u : Tok}
end
end SW

namespace SW
open PySem PySem.Spec PyProof.Rows L2
noncomputable def KeepBut (p : Addr) (H H' : Hp) : Prop := ∀ b o, b ≠ p → H b = some o → H' b = some o
theorem KeepBut.refl (p : Addr) (H : Hp) : KeepBut p H H := fun _ _ _ h => h
theorem KeepBut.trans {p : Addr} {H H1 H2 : Hp} (a : KeepBut p H H1) (b : KeepBut p H1 H2) : KeepBut p H H2 := fun c o n h => b c o n (a c o n h)
theorem KeepBut.new {p q : Addr} {o : HO} {H : Hp} (h : H q = none) : KeepBut p H (upd H q o) := fun b u _ e => by
  rw [upd_ne (ne_of_none e h)]; exact e
theorem KeepBut.at {p : Addr} {o : HO} {H : Hp} : KeepBut p H (upd H p o) := fun b u n e => by
  rw [upd_ne n]; exact e
theorem Same.new {q : Addr} {o : HO} {H : Hp} (h : H q = none) : Same H (upd H q o) := fun b u e => by
  rw [upd_ne (ne_of_none e h)]; exact e
theorem Same.but {p : Addr} {H H' : Hp} (h : Same H H') : KeepBut p H H' := fun b o _ e => h b o e
theorem atI_in {α : Type} {xs : List α} {i : Int} (h0 : 0 ≤ i) (h1 : i < xs.length) : ∃ v, atI xs i = some v ∧ v ∈ xs := by
  obtain ⟨j, rfl⟩ := Int.eq_ofNat_of_zero_le h0
  have hj : j < xs.length := by omega
  exact ⟨xs[j], atI_nat (by simp [hj]), List.getElem_mem hj⟩

section
variable {X : Cx}
theorem call_isi : CallR X (.builtin "isinstance") (fun xs H Q => ∃ x T t b, xs = [x, .ty T] ∧ TyOf X.K H x t ∧ PySem.W.kitOne X.K t (.type T) = some b ∧ Q (.bl b) H) := by
  intro pins s σ H xs us Q I r h
  obtain ⟨x, T, t, b, rfl, ty, e, q⟩ := h
  obtain ⟨u, v, rfl, ru, rv⟩ := vals2 r
  cases (show v = Value.type T from rv)
  exact isinst_ok I ru ty e fun tk => ⟨.bl b, H, I.tok tk, rfl, q⟩
end
theorem isi_int_int {K : PySem.W.Frag} : PySem.W.kitOne K (.type "int") (.type "int") = some true := rfl
theorem isi_int_bool {K : PySem.W.Frag} : PySem.W.kitOne K (.type "int") (.type "bool") = some false := by
  show PySem.W.kitOne [] (.type "int") (.type "bool") = some false
  decide +kernel
section
variable {D : Ends} {σ : L2.St} {H : Hp} {Q : VK} {v : V} {K : PySem.W.Frag}
theorem wFor {wi : TI} {g : TG} {tb : TS} (h : wi σ H fun J H1 => ∃ W : Nat → Nat → L2.St → Hp → Prop, (∃ m, W 0 m σ H1) ∧ ∀ i m σ H, W i m σ H →
  (J.stop i H ∧ D.nx σ H) ∨ (J.go i H ∧ ∃ N : L2.St → Hp → Prop, (∀ σ' H', N σ' H' → ∃ m', m' < m ∧ W (i + 1) m' σ' H') ∧ ∀ x H', J.yld i H x H' → g x σ H' fun σ2 H2 => tb { D with nx := N, ct := N, bk := D.nx } σ2 H2)) : tFor wi g tb D σ H := h
theorem wIList {tl : TE} {R : It → Hp → Prop} (h : tl σ H fun x H1 => ∃ a, x = .ref a ∧ (∃ xs, SqL K H1 a xs) ∧ R (Itl K a) H1) : iList K tl σ H R := h
theorem wRng1 {ta : TA} {R : It → Hp → Prop} (h : ta σ H fun vs H1 => ∃ j : Int, vs = [.int j] ∧ -(2 ^ 62) ≤ j ∧ j < 2 ^ 62 ∧ R (Itr 0 j.toNat) H1) : iRng1 ta σ H R := h
theorem cut_ints (ns : List Int) (lo hi : Option Int) : ∃ cs : List Int, cutV (ns.map V.int) lo hi = cs.map V.int ∧ cs.length ≤ ns.length := by
  unfold cutV
  rw [← List.map_drop, ← List.map_take]
  exact ⟨_, rfl, by rw [List.length_take, List.length_drop]; omega⟩
end
theorem iteY {c A B : Prop} [Decidable c] (hc : c) (h : A) : if decide c = true then A else B := by
  rw [decide_eq_true hc]
  exact iteT h
theorem getInt {cs : List Int} {i : Nat} {y : V} (h : (cs.map V.int)[i]? = some y) : ∃ c, y = V.int c := by
  rw [List.getElem?_map] at h
  cases e : cs[i]? with
  | none => rw [e] at h; cases h
  | some z => rw [e] at h; exact ⟨z, (Option.some.inj h).symm⟩
noncomputable def spLaw (K : PySem.W.Frag) : Sp := fun vs H Q _ => ∃ (a : Addr) (ns : List Int), vs = [.ref a] ∧ SqL K H a (ns.map V.int) ∧ ns.length ≤ 63 ∧ ∀ H', Q (.bl true) H'
section
variable {H : Hp} {Q : VK}
theorem wInt1 {k : Bool} {P : Int → Prop} (h : P (if k = true then 1 else 0)) : (∃ i, [V.bl k] = [V.int i] ∧ P i) ∨ ∃ k', [V.bl k] = [V.bl k'] ∧ P (if k' = true then 1 else 0) := .inr ⟨k, rfl, h⟩
end
section
variable {D : Ends} {σ : L2.St} {H : Hp} {Q : VK}
theorem wAnd {t u : TT} {Q : Bool → Hp → Prop} (h : t σ H fun c H1 => if c = true then u σ H1 Q else Q false H1) : tAnd t u σ H Q := h
theorem wOr {t u : TT} {Q : Bool → Hp → Prop} (h : t σ H fun c H1 => if c = true then Q true H1 else u σ H1 Q) : tOr t u σ H Q := h
theorem wChain {r r' : R2} {ta tb tc : TE} (h : ta σ H fun x H1 => tb σ H1 fun y H2 => r x y H2 fun z H3 => ∃ k, z = .bl k ∧ (if k = true then tc σ H3 fun w' H4 => r' y w' H4 Q else Q (.bl false) H3)) : tChain r r' ta tb tc σ H Q := h
end
theorem iteNo {c A B : Prop} [Decidable c] (hc : ¬ c) (h : B) : if decide c = true then A else B := by
  rw [decide_eq_false hc]
  exact iteF h
theorem iteNN {c A B : Prop} [Decidable c] (hc : ¬ c) (h : A) : if (!decide c) = true then A else B := by
  rw [decide_eq_false hc]
  exact iteT h
noncomputable def compCx (X : Cx) (scope : Scope) (cl : List (Str × Addr)) (N' : List Str) (s : Shared) (H : Hp) (fp : List Addr) (pins : List (Addr × Obj)) : Cx :=
  { X with N := N', s₀ := s, H₀ := H, env := compEnvC scope cl s.heap.objs.size X.env, outer := X.stack, stack := X.stack, ex := fp, fn := fun _ => false, pn := X.pn ++ pins, xe := fun _ _ => False }
structure CompScope (X : Cx) (scope : Scope) (cl : List (Str × Addr)) (x : Str) (js : List Nat) (N' : List Str) : Prop where
  clos : closureFor scope X.env = pure cl
  kind : scope.kind = .function
  nocell : ∀ y ∈ scope.names, y.2 ≠ .cell
  names : ∀ y ∈ scope.names, y.2 = .local → scope.names.lookup y.1 = some .local
  own : scope.names.lookup x = some .local
  sub : ∀ p ∈ cl, X.env.cells.lookup p.1 = some p.2
  has : ∀ y, ((relabel scope X.env).names.lookup y = some .cell ∨ (relabel scope X.env).names.lookup y = some .free) → ∃ c, cl.lookup y = some c
  nm : N' = x :: js.map fun j => X.N.getD j Str.empty
  see : ∀ (i j : Nat), js[i]? = some j → ∃ y, X.N[j]? = some y ∧ (X.env.kindOf y = some .cell ∨ X.env.kindOf y = some .free) ∧ ((relabel scope X.env).names.lookup y = some .cell ∨ (relabel scope X.env).names.lookup y = some .free)
noncomputable def seen (σ : L2.St) (js : List Nat) : L2.St := none :: js.map fun j => σ.getD j none
section
variable {X : Cx} {scope : Scope} {cl : List (Str × Addr)} {x : Str} {js : List Nat} {N' : List Str} {pins : List (Addr × Obj)} {σ : L2.St} {H : Hp} {s : Shared} {fp : List Addr}
theorem CompScope.sub' (S : CompScope X scope cl x js N') {y : Str} {c : Addr} (h : cl.lookup y = some c) : X.env.cells.lookup y = some c := S.sub (y, c) (PySem.mem_of_lookup h)
theorem comp_ok (S : CompScope X scope cl x js N') (I : Inv X pins σ H s) (hf : ∀ b ∈ fp, FpOk X pins H b) (ho : ∀ b ∈ fp, b < s.heap.objs.size) : (compCx X scope cl N' s H fp pins).Ok where
  mod := I.ok.mod
  kind := S.kind
  glob := I.ok.glob
  blt := I.ok.blt
  above := Nat.le_refl _
  inj := fun y z c h1 h2 => I.ok.inj y z c (S.sub' h1) (S.sub' h2)
  has := fun y h => S.has y h
  cab := fun y c h => absurd h Bool.false_ne_true
  hd := I.ok.hd
  frames := I.ok.frames
  stk := .inl rfl
  exf := fun b hb => ⟨Nat.ne_of_lt (ho b hb), fun y c h => (hf b hb).2.2.2.2.1 y c (S.sub' h)⟩
  bs := I.bs
  bsz := Nat.le_trans I.ok.bsz I.sz
  noex := fun b o e hb => by
    rcases (hf b hb).2.2.2.1 with z | z
    · exact I.ok.noex b o e z
    · exact absurd (Nat.lt_of_lt_of_le (Heap.lt_size (I.ok.bs b o e).1) z) (Nat.lt_irrefl _)
  exfs := fun b hb z => by
    rcases List.mem_cons.mp (I.stkSub b z) with e | e
    · exact (hf b hb).2.1 e
    · exact (hf b hb).2.2.1 e
  funs := I.stack
  frf := I.stkFree
theorem comp_inv (S : CompScope X scope cl x js N') (I : Inv X pins σ H s) (hf : ∀ b ∈ fp, FpOk X pins H b) (ho : ∀ b ∈ fp, b < s.heap.objs.size) {s4 : Shared} {m : Str → Option Value} (hos : s4.os = s.os) (hg : s4.gens = s.gens)
    (hn : s4.heap.Ns s.heap.objs.size m) (hk : ∀ b o, s.heap.get? b = some o → s4.heap.get? b = some o) : Inv (compCx X scope cl N' s H fp pins) [] (seen σ js) H s4 where
  ok := comp_ok S I hf ho
  os := hos
  bare := by rw [hg]; exact I.bare
  base := Un.kept hk
  loc := by
    obtain ⟨mX, _, hl⟩ := I.loc
    refine ⟨m, hn, fun i y v h1 h2 h3 => ?_⟩
    cases i with
    | zero =>
      unfold seen at h2
      simp at h2
    | succ i =>
      have h1' : N'[i + 1]? = some y := h1
      rw [S.nm, List.getElem?_cons_succ, List.getElem?_map] at h1'
      unfold seen at h2
      rw [List.getElem?_cons_succ, List.getElem?_map] at h2
      cases ej : js[i]? with
      | none => rw [ej] at h2; cases h2
      | some j =>
        rw [ej] at h1' h2
        obtain ⟨z, hz, k1, k2⟩ := S.see i j ej
        have ey : z = y := by
          have : X.N.getD j Str.empty = y := Option.some.inj h1'
          rw [List.getD_eq_getElem?_getD, hz] at this
          exact this
        subst ey
        have ev : σ[j]? = some (some v) := by
          have q : σ.getD j none = some v := Option.some.inj h2
          rw [List.getD_eq_getElem?_getD] at q
          cases e : σ[j]? with
          | none => rw [e] at q; cases q
          | some w' => rw [e] at q; exact congrArg some q
        have kx : X.env.scope.names.lookup z = some .cell ∨ X.env.scope.names.lookup z = some .free := k1
        obtain ⟨u, r, l⟩ := hl j z v hz ev (.inr kx)
        refine ⟨u, r, .inr ⟨k2, ?_⟩⟩
        obtain ⟨c, hc⟩ := S.has z k2
        rcases l with ⟨kl, _⟩ | ⟨_, c', e', cell⟩
        · rcases k1 with k1 | k1 <;> rw [k1] at kl <;> cases kl
        · have : c' = c := Option.some.inj (e'.symm.trans (S.sub' hc))
          subst this
          obtain ⟨o, q1, q2⟩ := cell
          exact ⟨c', hc, o, hk _ _ q1, q2⟩
  cell := fun y c h => by
    obtain ⟨v, o, q1, q2⟩ := I.cell y c (S.sub' h)
    exact ⟨v, o, hk _ _ q1, q2⟩
  free := I.hok.fresh (Nat.le_refl _)
  freeC := fun y c h => I.freeC y c (S.sub' h)
  pin := fun p hp => by
    have hp' : p ∈ X.pn ++ pins := by
      have q : p ∈ (X.pn ++ pins) ++ [] := hp
      rw [List.append_nil] at q
      exact q
    obtain ⟨e, n, ne, nf, d⟩ := I.pin p hp'
    refine ⟨hk _ _ e, n, Nat.ne_of_lt (Heap.lt_size e), fun z => ?_, d⟩
    rcases List.mem_cons.mp (I.stkSub p.1 z) with q | q
    · exact ne q
    · exact nf q
  hok := I.hok.kept hk
  len := by
    show (seen σ js).length = N'.length
    rw [S.nm]
    unfold seen
    simp
theorem comp_back {s' : Shared} {σ' : L2.St} {H' : Hp} {h' : Heap} (I : Inv X pins σ H s) (hf : ∀ b ∈ fp, FpOk X pins H b) (J : Inv (compCx X scope cl N' s H fp pins) [] σ' H' s') (hs : Heap.SameBut s.heap.objs.size s'.heap h') :
    Inv X pins σ H' { s' with heap := h' } := by
  have ne : ∀ b o, s.heap.get? b = some o → b ≠ s.heap.objs.size := fun b o e => Nat.ne_of_lt (Heap.lt_size e)
  have u0 : Un (frs X.stack) fp H H' s.heap s'.heap := J.base
  have u : Un (frs X.stack) fp H H' s.heap h' :=
    ⟨fun b o e n h1 h2 => (hs.2 b (ne b o e)).trans (u0.keep b o e n h1 h2), fun b o e n h1 h2 => let ⟨sl, q⟩ := u0.slot b o e n h1 h2; ⟨sl, (hs.2 b (ne b o e)).trans q⟩, u0.free,
      fun b o e h2 => let ⟨o', q⟩ := u0.there b o e h2; ⟨o', (hs.2 b (ne b o e)).trans q⟩, u0.tups, u0.frzs, u0.tbls⟩
  have hfree : H' s.heap.objs.size = none := J.free
  have hok : HOk X.prog X.w H' h' := fun b ob e => by
    refine (J.hok b ob e).stay (fun c w' hc q => (hs.2 c ?_).trans q) (fun _ q => q) fun _ _ q => q
    rintro rfl
    rcases hc with rfl | hc
    · rw [hfree] at e; cases e
    · rw [hfree] at hc; cases hc
  exact I.call' (s' := { s' with heap := h' }) J.os u hok J.bare fun b hb => ⟨(hf b hb).2.2.2.1, (hf b hb).2.1, (hf b hb).2.2.2.2.1, (hf b hb).2.2.2.2.2⟩
end
theorem comp_loop {prog : Program} {w : World} {A : Around} {R : Result → Shared → Prop} {s : Shared} {elt target iter : Expr} {ifs : List Expr} {scope : Scope} {pos : Pos} {it acc : Value} {env : Env} (I : Nat → Shared → Prop)
    (turn : ∀ n s, I n s → wpAny (model prog w) A (pyNext it) (fun r s₁ => match r with
      | none => R (.ok .next) s₁
      | some v => wpAny (model prog w) A (letOwnedTupleGo target it v) (fun _ s₁' => wpAny (model prog w) A (assign target env v) (fun _ s₂ =>
          wpAny (model prog w) A (forIn ifs true fun c r => if r = true then do let ok ← isTrue c env (eval c env); pure (ForInStep.yield ok) else pure (ForInStep.yield r)) (fun ok s₃ =>
            if ok = true then wpAny (model prog w) A (eval elt env) (fun x s₄ =>
              wpAny (model prog w) A (call (.builtin "list.append") [acc, x]) (fun _ s₅ => ∃ m, m < n ∧ I m s₅) (fun _ _ => False) s₄) (fun _ _ => False) s₃
            else ∃ m, m < n ∧ I m s₃) (fun _ _ => False) s₂) (fun _ _ => False) s₁') (fun _ _ => False) s₁) (fun _ _ => False) s)
    (n : Nat) (h : I n s) : codeAny (model prog w) A (.compLoop (.ListComp elt [⟨target, iter, ifs, 0⟩] scope pos) 0 it acc env) R s := by
  refine codeAny_loop rfl I (fun n s hI => ?_) n h
  show wpAny _ A ((compTurn (.ListComp elt [⟨target, iter, ifs, 0⟩] scope pos) 0 it acc env).onRaise (fun x => do noteFrame x env; theTreesLotGoes x)) _ _ s
  refine wpAny_noted ?_
  rw [compTurn_list]
  refine wpAny_bind (wpAny_standAt (wpAny_bind (wpAny_mono (turn n s hI) (fun r s₁ h₁ => ?_) fun _ _ h' => h'.elim)))
  cases r with
  | none => exact wpAny_pure h₁
  | some v =>
    refine wpAny_bind (wpAny_mono h₁ (fun _ s₁' h₁' => ?_) fun _ _ h' => h'.elim)
    refine wpAny_bind (wpAny_mono h₁' (fun _ s₂ h₂ => wpAny_bind (wpAny_mono h₂ (fun ok s₃ h₃ => ?_) fun _ _ h' => h'.elim)) fun _ _ h' => h'.elim)
    cases ok with
    | false => exact wpAny_pure ⟨rfl, h₃⟩
    | true =>
      exact wpAny_bind (wpAny_bind (wpAny_mono h₃ (fun x s₄ h₄ => wpAny_bind (wpAny_mono h₄ (fun _ s₅ h₅ => wpAny_pure (wpAny_pure ⟨rfl, h₅⟩)) fun _ _ h' => h'.elim)) fun _ _ h' => h'.elim))
noncomputable def PTs (X : Cx) (ifs : List Expr) (t : TT) : Prop :=
  ∀ (pins : List (Addr × Obj)) (s : Shared) (σ : L2.St) (H : Hp) (Q : Bool → Hp → Prop) (E : Value → Shared → Prop), (∀ e s', X.xe e s' → E e s') → Inv X pins σ H s → t σ H Q →
    wpAny (model X.prog X.w) X.A (forIn ifs true fun c r => if r = true then do let ok ← isTrue c X.env (eval c X.env); pure (ForInStep.yield ok) else pure (ForInStep.yield r)) (TP X pins σ Q) E s
theorem pts_nil {X : Cx} : PTs X [] (fun _ H Q => Q true H) := fun _ _ _ H _ _ _ I h => wpAny_tests_nil ⟨H, I, h⟩
theorem pts_one {X : Cx} {c : Expr} {tc : TT} (hc : PT X c tc) : PTs X [c] tc := fun pins s σ H Q E hE I h => wpAny_tests_one (wpAny_mono (hc pins s σ H Q I h) (fun _ _ q => q) hE)
noncomputable def tComp (js : List Nat) (wi : TI) (tt : TT) (te : TE) : TE := fun σ H Q => wi σ H fun J H1 => ∀ D, H1 D = none → ∃ W : Nat → Nat → L2.St → Hp → Prop, (∃ m, W 0 m (seen σ js) (upd H1 D (.lst []))) ∧
  ∀ i m σ' H', W i m σ' H' → (J.stop i H' ∧ Q (.ref D) H') ∨ (J.go i H' ∧ ∀ x H2, J.yld i H' x H2 → tt (σ'.set 0 (some x)) H2 fun ok H3 =>
    if ok = true then te (σ'.set 0 (some x)) H3 fun y H4 => ∃ ys, H4 D = some (.lst ys) ∧ ys.length < sizeLine ∧ ∃ m', m' < m ∧ W (i + 1) m' (σ'.set 0 (some x)) (upd H4 D (.lst (ys ++ [y])))
    else ∃ m', m' < m ∧ W (i + 1) m' (σ'.set 0 (some x)) H3)
section
variable {X : Cx} {scope : Scope} {cl : List (Str × Addr)} {x : Str} {js : List Nat} {N' : List Str} {elt iter : Expr} {ifs : List Expr} {px pos : Pos} {wi : TI} {tt : TT} {te : TE}
theorem comp_core {RR : Value → Addr → Result → Shared → Prop} {pins : List (Addr × Obj)} {σ : L2.St} {H2 : Hp} {s2 : Shared} {Q : VK} {it : Addr} {fp : List Addr} {tn : Nat → Heap → Prop} {J : It} (S : CompScope X scope cl x js N') (nd : N'.Nodup) (hc : X.calm = true)
    (ht : ∀ s H fp pins, PTs (compCx X scope cl N' s H fp pins) ifs tt) (he : ∀ s H fp pins, PE (compCx X scope cl N' s H fp pins) elt te)
    (I2 : Inv X pins σ H2 s2) (T : Turn X.prog X.w X.K (.Name x px) J fp it tn) (st2 : tn 0 s2.heap) (f2 : ∀ b ∈ fp, FpOk X pins H2 b)
    (k : ∀ D, H2 D = none → ∃ W : Nat → Nat → L2.St → Hp → Prop, (∃ m, W 0 m (seen σ js) (upd H2 D (.lst []))) ∧
      ∀ i m σ' H', W i m σ' H' → (J.stop i H' ∧ Q (.ref D) H') ∨ (J.go i H' ∧ ∀ x H2, J.yld i H' x H2 → tt (σ'.set 0 (some x)) H2 fun ok H3 =>
        if ok = true then te (σ'.set 0 (some x)) H3 fun y H4 => ∃ ys, H4 D = some (.lst ys) ∧ ys.length < sizeLine ∧ ∃ m', m' < m ∧ W (i + 1) m' (σ'.set 0 (some x)) (upd H4 D (.lst (ys ++ [y])))
        else ∃ m', m' < m ∧ W (i + 1) m' (σ'.set 0 (some x)) H3))
    (fin : ∀ (D C : Addr) (s6 : Shared) (H6 : Hp) (m : Str → Option Value), s6.heap.Ns C m → (∀ h', Heap.SameBut C s6.heap h' → Inv X pins σ H6 { s6 with heap := h' }) → H6 C = none → FpOk X pins H6 C → Q (.ref D) H6 → RR (.ref D) C (.ok .next) s6) :
    wpAny (model X.prog X.w) X.A (newList []) (fun acc s₃ => wpAny (model X.prog X.w) X.A (newFunctionEnv scope X.env.globals cl [] X.env.qual none .none (some X.env)) (fun cenv s₄ =>
      codeAny (model X.prog X.w) X.A (.compStart (.ListComp elt [⟨.Name x px, iter, ifs, 0⟩] scope pos) 0 (.ref it) acc { cenv with scope := relabel scope X.env }) (RR acc cenv.locals) s₄) X.xe s₃) X.xe s2 := by
  have hDn : H2 s2.heap.objs.size = none := I2.hok.fresh (Nat.le_refl _)
  obtain ⟨W, ⟨m0, w0⟩, turn⟩ := k s2.heap.objs.size hDn
  refine wpAny_newObj_type (wpAny_newFunctionEnv S.nocell (by intro y hy; simp at hy) (fun h4 hns4 hsb4 => ?_) S.kind) (by show 0 ≤ sizeLine; exact Nat.zero_le _)
  have I3 : Inv X pins σ (upd H2 s2.heap.objs.size (.lst [])) { s2 with heap := s2.heap.push { cls := .type "list", dict := none, data := .seq ([] : List Value).toArray } } :=
    I2.laid (t' := s2.toks) (fun b u e => Heap.get?_push_of_some _ e) (Nat.le_refl _) ⟨Nat.zero_le _, [], 0, .nil, Heap.get?_push_size _ rfl⟩
  have ltf : ∀ b ∈ fp, b < s2.heap.objs.size := fun b hb => let ⟨o, e, _⟩ := T.obj 0 _ st2 b hb; Heap.lt_size e
  have f3 : ∀ b ∈ fp, FpOk X pins (upd H2 s2.heap.objs.size (.lst [])) b := fun b hb => ⟨by rw [upd_ne (Nat.ne_of_lt (ltf b hb))]; exact (f2 b hb).1, (f2 b hb).2⟩
  generalize hH : upd H2 s2.heap.objs.size (.lst []) = H3 at *
  generalize hS3 : ({ s2 with heap := s2.heap.push { cls := .type "list", dict := none, data := .seq ([] : List Value).toArray } } : Shared) = s3 at *
  have o3 : ∀ b ∈ fp, b < s3.heap.objs.size := fun b hb => by
    rw [← hS3]
    show b < (s2.heap.push _).objs.size
    rw [Heap.size_push]
    exact Nat.lt_succ_of_lt (ltf b hb)
  have k4 : ∀ b o, s3.heap.get? b = some o → h4.get? b = some o := fun b o e => (hsb4.2 b (Nat.ne_of_lt (Heap.lt_size e))).trans (Heap.get?_push_of_some _ e)
  have st3 : tn 0 s3.heap := T.keep 0 _ _ st2 fun b hb o e => by rw [← hS3]; exact Heap.get?_push_of_some _ e
  have st4 : tn 0 h4 := T.keep 0 _ _ st3 fun b hb o e => k4 b o e
  have I4 : Inv (compCx X scope cl N' s3 H3 fp pins) [] (seen σ js) H3 { s3 with heap := h4, toks := s3.toks + ([] : List (Str × Value)).length } := comp_inv S I3 f3 o3 rfl rfl hns4 k4
  have ok := comp_ok S I3 f3 o3
  have fp5 : ∀ {H' : Hp}, (∀ b ∈ fp, H' b = none) → ∀ b ∈ fp, FpOk (compCx X scope cl N' s3 H3 fp pins) [] H' b := fun hn b hb =>
    ⟨hn b hb, Nat.ne_of_lt (o3 b hb), ok.exfs b hb, .inl hb, fun y c h => (f3 b hb).2.2.2.2.1 y c (S.sub' h), fun p hp => (f3 b hb).2.2.2.2.2 p (by
      have q : p ∈ (X.pn ++ pins) ++ [] := hp
      rw [List.append_nil] at q
      exact q)⟩
  have loop : codeAny (model X.prog X.w) X.A (.compLoop (.ListComp elt [⟨.Name x px, iter, ifs, 0⟩] scope pos) 0 (.ref it) (.ref s2.heap.objs.size) (compEnvC scope cl s3.heap.objs.size X.env))
      (RR (.ref s2.heap.objs.size) s3.heap.objs.size) { s3 with heap := h4, toks := s3.toks + ([] : List (Str × Value)).length } := by
    refine comp_loop (fun n s' => ∃ i σ' H', Inv (compCx X scope cl N' s3 H3 fp pins) [] σ' H' s' ∧ tn i s'.heap ∧ (∀ b ∈ fp, H' b = none) ∧ W i n σ' H') ?_ m0 ⟨0, _, _, I4, st4, fun b hb => (f3 b hb).1, w0⟩
    rintro n s5 ⟨i, σ5, H5, I5, st5, fr5, w5⟩
    rcases turn i n σ5 H5 w5 with ⟨stop, q⟩ | ⟨go, step⟩
    · refine wpAny_mono (T.done (compCx X scope cl N' s3 H3 fp pins) rfl rfl rfl hc i [] s5 σ5 H5 (fun _ _ => False) I5 (fp5 fr5) st5 stop) (fun r s6 ⟨hr, I6⟩ => ?_) (fun _ _ z => z.elim)
      subst hr
      obtain ⟨m, hm, _⟩ := I6.loc
      exact fin _ _ s6 H5 m hm (fun h' hs' => comp_back I3 f3 I6 hs') I6.free (I3.fpOk (Nat.le_refl _) I6.free) q
    · refine wpAny_mono (T.item (compCx X scope cl N' s3 H3 fp pins) rfl rfl rfl hc i [] s5 σ5 H5 (fun _ _ => False) I5 (fp5 fr5) st5 go) (fun r s6 ⟨u, hr, h6⟩ => ?_) (fun _ _ z => z.elim)
      subst hr
      refine wpAny_mono h6 (fun _ s6 ⟨y, H6, I6, r6, y6, st6, fr6⟩ => ?_) (fun _ _ z => z.elim)
      have I6' := I6.pinned (fp5 fr6) (T.obj _ _ st6)
      have again : ∀ {σ7 : L2.St} {H7 : Hp} {s7 : Shared} {m' : Nat}, Inv (compCx X scope cl N' s3 H3 fp pins) ([] ++ pinsAt fp s6.heap) σ7 H7 s7 → m' < n → W (i + 1) m' σ7 H7 →
          ∃ m, m < n ∧ ∃ i σ' H', Inv (compCx X scope cl N' s3 H3 fp pins) [] σ' H' s7 ∧ tn i s7.heap ∧ (∀ b ∈ fp, H' b = none) ∧ W i m σ' H' := fun {σ7 H7 s7 m'} I7 hm w7 => by
        refine ⟨m', hm, i + 1, σ7, H7, I7.unpinned, T.keep _ _ _ st6 fun b hb o e => (I7.pin (b, o) (List.mem_append_right _ (List.mem_append_right _ (mem_pinsAt hb e)))).1, fun b hb => ?_, w7⟩
        obtain ⟨o, e, d⟩ := T.obj _ _ st6 b hb
        exact (I7.pin (b, o) (List.mem_append_right _ (List.mem_append_right _ (mem_pinsAt hb e)))).2.1
      have step' := step y H6 y6
      refine wpAny_mono (pg_name (X := compCx X scope cl N' s3 H3 fp pins) (i := 0) (x := x) (pos := px) nd (by show N'[0]? = some x; rw [S.nm]; rfl) (.inl (lookup_relabel_local S.own)) (.inr (lookup_relabel_local S.own)) _ s6 σ5 H6 y u
        (fun σ' H' => σ' = σ5.set 0 (some y) ∧ H' = H6) I6' r6 ⟨rfl, rfl⟩) (fun _ s7 ⟨σ7, H7, I7, e7, eH⟩ => ?_) (fun _ _ z => z.elim)
      subst e7
      subst eH
      refine wpAny_mono (ht s3 H3 fp pins _ s7 _ H7 _ (fun _ _ => False) (fun _ _ z => z) I7 step') (fun okk s8 ⟨H8, I8, q8⟩ => ?_) (fun _ _ z => z.elim)
      cases okk with
      | false =>
        obtain ⟨m', hm, w8⟩ := q8
        exact again I8 hm w8
      | true =>
        refine wpAny_mono (he s3 H3 fp pins _ s8 _ H8 _ I8 q8) (fun ev s9 ⟨z, H9, I9, r9, ys, hys, hlen, m', hm, w9⟩ => ?_) (fun _ _ z => z.elim)
        refine wpAny_mono (mt_append (X := compCx X scope cl N' s3 H3 fp pins) _ s9 _ H9 (.ref s2.heap.objs.size) [z] (.ref s2.heap.objs.size) [ev] (fun _ H' => H' = upd H9 s2.heap.objs.size (.lst (ys ++ [z]))) I9 rfl (.cons r9 .nil)
          ⟨_, ys, z, rfl, rfl, hys, hlen, rfl⟩) (fun _ s10 ⟨_, H10, I10, _, e10⟩ => ?_) (fun _ _ z => z.elim)
        subst e10
        exact again I10 hm w9
  exact codeAny_compStart_list loop (T.self X.A 0 _ _ _ st4 loop)
theorem pe_comp (S : CompScope X scope cl x js N') (nd : N'.Nodup) (hc : X.calm = true) (hi : PI X (.Name x px) iter wi)
    (ht : ∀ s H fp pins, PTs (compCx X scope cl N' s H fp pins) ifs tt) (he : ∀ s H fp pins, PE (compCx X scope cl N' s H fp pins) elt te)
    (hs : ∀ x, foldedSetIterable iter X.env x = pure x := by intro _; rfl) : PE X (.ListComp elt [⟨.Name x px, iter, ifs, 0⟩] scope pos) (tComp js wi tt te) := by
  intro pins s σ H Q I h
  rw [eval_ListComp]
  refine wpAny_comprehension_free (use := none) rfl hs S.clos S.kind S.names (thn (hi pins s σ H _ I h) fun v s1 h1 => thn h1 fun itv s2 h2 => ?_)
  obtain ⟨it, fp, tn, J, H2, e, I2, T, st2, f2, k⟩ := h2
  subst e
  exact comp_core (RR := fun acc C => compPost (model X.prog X.w) X.A X.xe none (EP X pins σ Q) acc C) S nd hc ht he I2 T st2 f2 k fun D C s6 H6 m hm back _ _ q => ⟨m, hm, fun h' hs' => ⟨.ref D, H6, back h' hs', rfl, q⟩⟩
noncomputable def tCompSet (i : Nat) (t : TE) : TS := fun D σ H => t σ H fun v H1 => D.nx (σ.set i (some v)) H1
theorem ps_compSet {i : Nat} {y : Str} {py spos : Pos} (S : CompScope X scope cl x js N') (nd : N'.Nodup) (hc : X.calm = true) (hi : PI X (.Name x px) iter wi)
    (ht : ∀ s H fp pins, PTs (compCx X scope cl N' s H fp pins) ifs tt) (he : ∀ s H fp pins, PE (compCx X scope cl N' s H fp pins) elt te)
    (hN : X.N.Nodup) (hy : X.N[i]? = some y) (hl : Loc X.env.scope y) (hf : X.fn y = true ∨ X.env.scope.names.lookup y = some .local)
    (hsw : swapsWith (.ListComp elt [⟨.Name x px, iter, ifs, 0⟩] scope pos) (some (.Name y py)) spos.line X.env = pure true)
    (hs : ∀ x, foldedSetIterable iter X.env x = pure x := by intro _; rfl) : PS X (.Assign [.Name y py] (.ListComp elt [⟨.Name x px, iter, ifs, 0⟩] scope pos) spos) (tCompSet i (tComp js wi tt te)) := by
  intro pins s σ H D I h
  rw [exec_Assign_Name_used _ _ _ _ hsw]
  refine wpAny_bind (wpAny_standAt (wpAny_bind ?_))
  show wpAny _ X.A (do let _ ← comprehension (.ListComp elt [⟨.Name x px, iter, ifs, 0⟩] scope pos) scope X.env _ (newList []) false (eval iter X.env) (some (assign (.Name y py) X.env))) _ _ s
  refine wpAny_bind (wpAny_mono (wpAny_comprehension_free (use := some (assign (.Name y py) X.env)) (Q := fun _ s' => SP X pins D .next s') rfl hs S.clos S.kind S.names
    (thn (hi pins s σ H _ I h) fun v s1 h1 => thn h1 fun itv s2 h2 => ?_)) (fun _ s' hq => wpAny_pure (wpAny_pure hq)) fun _ _ e => e)
  obtain ⟨it, fp, tn, J, H2, e, I2, T, st2, f2, k⟩ := h2
  subst e
  refine comp_core (Q := fun v H1 => D.nx (σ.set i (some v)) H1) (RR := fun acc C => compPost (model X.prog X.w) X.A X.xe (some (assign (.Name y py) X.env)) (fun _ s' => SP X pins D .next s') acc C) S nd hc ht he I2 T st2 f2 k fun A C s6 H6 m hm back hC fC q => ?_
  have I6 : Inv X pins σ H6 s6 := back s6.heap (Heap.SameBut.refl ..)
  obtain ⟨oC, es, ep, hoC, hdC, hr⟩ := id hm
  have I7 : Inv X (pins ++ [(C, oC)]) σ H6 s6 := I6.pins_of fun p hp => by
    rcases List.mem_append.mp hp with z | z
    · exact I6.pin p (List.mem_append_right _ z)
    · rw [List.mem_singleton.mp z]
      exact ⟨hoC, hC, fC.2.1, fC.2.2.1, fun v e => by rw [hdC] at e; cases e⟩
  show wpAny _ X.A (assign (.Name y py) X.env (.ref A)) _ _ s6
  refine thn (pg_name hN hy hl hf _ s6 σ H6 (.ref A) (.ref A) (fun σ' H' => σ' = σ.set i (some (.ref A)) ∧ H' = H6) I7 rfl ⟨rfl, rfl⟩) fun _ s8 zz => ?_
  obtain ⟨σ8, H8, I8, e8, e9⟩ := zz
  subst e8
  subst e9
  have h8 : s8.heap.get? C = some oC := (I8.pin (C, oC) (List.mem_append_right _ (List.mem_append_right _ (List.mem_singleton.mpr rfl)))).1
  refine ⟨m, ⟨oC, es, ep, h8, hdC, hr⟩, fun h' hs' => ⟨_, H8, ?_, q⟩⟩
  have I9 : Inv X pins (σ.set i (some (.ref A))) H8 s8 := I8.pins_of fun p hp => I8.pin p (List.mem_append_right _ (List.mem_append_left _ hp))
  exact I9.turned (t' := s8.toks) (fun b o hb e => (hs'.2 b hb).trans e) hC fC.2.1 fC.2.2.2.1 fC.2.2.2.2.1 fC.2.2.2.2.2
end
noncomputable def SubCl (cells : List (Str × Addr)) : List (Str × Addr) → Prop
  | [] => True
  | p :: r => cells.lookup p.1 = some p.2 ∧ SubCl cells r
theorem SubCl.all {cells : List (Str × Addr)} : ∀ {cl : List (Str × Addr)}, SubCl cells cl → ∀ p ∈ cl, cells.lookup p.1 = some p.2
  | _ :: _, h, p, hp => by
    rcases List.mem_cons.mp hp with rfl | hp
    · exact h.1
    · exact SubCl.all h.2 p hp
noncomputable def isCF (k : Option NameKind) : Bool := k == some .cell || k == some .free
theorem isCF_of {k : Option NameKind} (h : isCF k = true) : k = some .cell ∨ k = some .free := by
  unfold isCF at h
  rw [Bool.or_eq_true] at h
  exact h.imp beq_iff_eq.mp beq_iff_eq.mp
theorem CompScope.of {X : Cx} {scope : Scope} {cl : List (Str × Addr)} {x : Str} {js : List Nat} {N' : List Str} (clos : closureFor scope X.env = pure cl) (kind : scope.kind = .function) (nocell : scope.names.all (fun y => y.2 != .cell) = true)
    (names : scope.names.all (fun y => y.2 != .local || scope.names.lookup y.1 == some .local) = true) (own : scope.names.lookup x = some .local) (sub : SubCl X.env.cells cl)
    (has : (relabel scope X.env).names.all (fun p => !isCF (some p.2) || (cl.lookup p.1).isSome) = true) (nm : N' = x :: js.map fun j => X.N.getD j Str.empty)
    (see : js.all (fun j => match X.N[j]? with | some y => isCF (X.env.kindOf y) && isCF ((relabel scope X.env).names.lookup y) | none => false) = true) : CompScope X scope cl x js N' where
  clos := clos
  kind := kind
  nocell := fun y hy => by
    have := List.all_eq_true.mp nocell y hy
    exact bne_iff_ne.mp this
  names := fun y hy e => by
    have := List.all_eq_true.mp names y hy
    rw [e] at this
    exact beq_iff_eq.mp (by simpa using this)
  own := own
  sub := sub.all
  has := fun y h => by
    have go : ∀ k, (relabel scope X.env).names.lookup y = some k → isCF (some k) = true → ∃ c, cl.lookup y = some c := fun k hk hc => by
      have := List.all_eq_true.mp has (y, k) (PySem.mem_of_lookup hk)
      simp only [hc, Bool.not_true, Bool.false_or] at this
      exact Option.isSome_iff_exists.mp this
    rcases h with h | h
    · exact go _ h rfl
    · exact go _ h rfl
  nm := nm
  see := fun i j e => by
    have := List.all_eq_true.mp see j (List.mem_of_getElem? e)
    cases ey : X.N[j]? with
    | none => rw [ey] at this; cases this
    | some y =>
      rw [ey] at this
      rw [Bool.and_eq_true] at this
      exact ⟨y, rfl, isCF_of this.1, isCF_of this.2⟩
namespace B
section
variable {X : Cx} {scope : Scope} {cl : List (Str × Addr)} {x : Str} {N' : List Str} {elt iter c : Expr} {px pos : Pos} {wi : TI} {te : TE} {tc : TT}
theorem comp (js : List Nat) (N' : List Str) (S : CompScope X scope cl x js N') (nd : N'.Nodup) (hi : Bx (PI X (.Name x px) iter wi)) (he : ∀ s H fp pins, Bx (PE (compCx X scope cl N' s H fp pins) elt te)) (hc : X.calm = true := by rfl)
    (hs : ∀ x, foldedSetIterable iter X.env x = pure x := by intro _; rfl) : Bx (PE X (.ListComp elt [⟨.Name x px, iter, [], 0⟩] scope pos) (tComp js wi (fun _ H Q => Q true H) te)) :=
  ⟨pe_comp S nd hc hi.out (fun _ _ _ _ => pts_nil) (fun s H fp pins => (he s H fp pins).out) hs⟩
theorem compIf (js : List Nat) (N' : List Str) (S : CompScope X scope cl x js N') (nd : N'.Nodup) (hi : Bx (PI X (.Name x px) iter wi)) (hcc : ∀ s H fp pins, Bx (PT (compCx X scope cl N' s H fp pins) c tc)) (he : ∀ s H fp pins, Bx (PE (compCx X scope cl N' s H fp pins) elt te)) (hc : X.calm = true := by rfl)
    (hs : ∀ x, foldedSetIterable iter X.env x = pure x := by intro _; rfl) : Bx (PE X (.ListComp elt [⟨.Name x px, iter, [c], 0⟩] scope pos) (tComp js wi tc te)) :=
  ⟨pe_comp S nd hc hi.out (fun s H fp pins => pts_one (hcc s H fp pins).out) (fun s H fp pins => (he s H fp pins).out) hs⟩
end
end B
section
variable {X : Cx}
end
theorem wComp {σ : L2.St} {H : Hp} {Q : VK} {js : List Nat} {wi : TI} {tt : TT} {te : TE} (h : wi σ H fun J H1 => ∀ D, H1 D = none → ∃ W : Nat → Nat → L2.St → Hp → Prop, (∃ m, W 0 m (seen σ js) (upd H1 D (.lst []))) ∧
  ∀ i m σ' H', W i m σ' H' → (J.stop i H' ∧ Q (.ref D) H') ∨ (J.go i H' ∧ ∀ x H2, J.yld i H' x H2 → tt (σ'.set 0 (some x)) H2 fun ok H3 =>
    if ok = true then te (σ'.set 0 (some x)) H3 fun y H4 => ∃ ys, H4 D = some (.lst ys) ∧ ys.length < sizeLine ∧ ∃ m', m' < m ∧ W (i + 1) m' (σ'.set 0 (some x)) (upd H4 D (.lst (ys ++ [y])))
    else ∃ m', m' < m ∧ W (i + 1) m' (σ'.set 0 (some x)) H3)) : tComp js wi tt te σ H Q := h
theorem ix_tupK (K : PySem.W.Frag) {X : Cx} (h : X.K = K := by rfl) : IxR X (rIxT K) := by subst h; exact ix_tup
theorem ix_listK (K : PySem.W.Frag) {X : Cx} (h : X.K = K := by rfl) : IxR X (rIxL K) := by subst h; exact ix_list
mutual
inductive DatV (K : PySem.W.Frag) (H : Hp) : V → PyData → Prop
  | non : DatV K H .non .none
  | bl (b : Bool) : DatV K H (.bl b) (.bool b)
  | int (i : Int) : DatV K H (.int i) (.int i)
  | str (x : PySem.Str) : DatV K H (.str x) (.str x)
  | lst {a : Addr} {xs : List V} {ds : List PyData} (h : SqL K H a xs) (r : DatVs K H xs ds) : DatV K H (.ref a) (.list ds)
  | tup {a : Addr} {xs : List V} {ds : List PyData} (h : SqT K H a xs) (r : DatVs K H xs ds) : DatV K H (.ref a) (.tuple ds)
inductive DatVs (K : PySem.W.Frag) (H : Hp) : List V → List PyData → Prop
  | nil : DatVs K H [] []
  | cons {x : V} {xs : List V} {d : PyData} {ds : List PyData} (h : DatV K H x d) (r : DatVs K H xs ds) : DatVs K H (x :: xs) (d :: ds)
end
section
variable {X : Cx} {pins : List (Addr × Obj)} {σ : L2.St} {H : Hp} {s : Shared}
mutual
theorem reads_of (I : Inv X pins σ H s) : ∀ {v : V} {d : PyData} {u : Value}, DatV X.K H v d → RelV v u → ∃ as, Reads s.heap u d as
  | _, _, u, .non, r => by
    cases (show u = Value.none from r)
    exact ⟨_, .none⟩
  | _, _, u, .bl b, r => by
    cases (show u = Value.bool b from r)
    exact ⟨_, .bool b⟩
  | _, _, u, .int i, r => by
    obtain ⟨t, e⟩ := (show ∃ t, u = Value.int i t from r)
    cases e
    exact ⟨_, .int i t⟩
  | _, _, u, .str x, r => by
    obtain ⟨t, e⟩ := (show ∃ t, u = Value.str x t from r)
    cases e
    exact ⟨_, .str x t⟩
  | _, _, u, .lst (a := a) h q, r => by
    cases (show u = Value.ref a from r)
    obtain ⟨its, rv, ⟨o, n, e, c, _, d⟩, _⟩ := I.list h
    obtain ⟨as, z⟩ := reads_all I q rv
    exact ⟨_, .list e c d (by simpa using z)⟩
  | _, _, u, .tup (a := a) h q, r => by
    cases (show u = Value.ref a from r)
    obtain ⟨its, rv, ⟨o, e, c, n, d⟩, _⟩ := I.tuple h
    obtain ⟨as, z⟩ := reads_all I q rv
    exact ⟨_, .tuple e c d (by simpa using z)⟩
theorem reads_all (I : Inv X pins σ H s) : ∀ {xs : List V} {ds : List PyData} {us : List Value}, DatVs X.K H xs ds → Vals xs us → ∃ as, ReadsAll s.heap us ds as
  | _, _, _, .nil, .nil => ⟨_, .nil⟩
  | _, _, _, .cons h r, .cons q qs => by
    obtain ⟨a1, z1⟩ := reads_of I h q
    obtain ⟨a2, z2⟩ := reads_all I r qs
    exact ⟨_, .cons z1 z2⟩
end
noncomputable def rEqD (K : PySem.W.Frag) : R2 := fun x y H Q => ∃ d e, DatV K H x d ∧ DatV K H y e ∧ d.canLay0 = true ∧ e.canLay0 = true ∧ d.depth ≤ 60 ∧ Q (.bl (PyData.eqv d e)) H
noncomputable def rNeD (K : PySem.W.Frag) : R2 := fun x y H Q => ∃ d e, DatV K H x d ∧ DatV K H y e ∧ d.canLay0 = true ∧ e.canLay0 = true ∧ d.depth ≤ 60 ∧ Q (.bl (!PyData.eqv d e)) H
theorem op_eqD (K : PySem.W.Frag) (hu : X.A.units + 64 < cLine) (hK : X.K = K := by rfl) : OpR X (compareOp .Eq) (rEqD K) := by
  subst hK
  intro pins s σ H x y v u Q I rx ry h
  obtain ⟨d, e, hd, he, c1, c2, dp, q⟩ := h
  obtain ⟨as, r1⟩ := reads_of I hd rx
  obtain ⟨bs, r2⟩ := reads_of I he ry
  exact SeqAt.compareEq_reads r1 r2 c1 c2 (by omega) ⟨.bl _, H, I, rfl, q⟩
theorem op_neD (K : PySem.W.Frag) (hu : X.A.units + 64 < cLine) (hK : X.K = K := by rfl) : OpR X (compareOp .NotEq) (rNeD K) := by
  subst hK
  intro pins s σ H x y v u Q I rx ry h
  obtain ⟨d, e, hd, he, c1, c2, dp, q⟩ := h
  obtain ⟨as, r1⟩ := reads_of I hd rx
  obtain ⟨bs, r2⟩ := reads_of I he ry
  exact SeqAt.compareNe_reads r1 r2 c1 c2 (by omega) ⟨.bl _, H, I, rfl, q⟩
theorem wNeSame {K : PySem.W.Frag} {H : Hp} {Q : VK} {x y : V} {d : PyData} (hx : DatV K H x d) (hy : DatV K H y d) (c : d.canLay0 = true) (dp : d.depth ≤ 60) (q : Q (.bl false) H) : rNeD K x y H Q :=
  ⟨d, d, hx, hy, c, c, dp, by rw [SeqAt.eqv_refl d c]; exact q⟩
end
section
variable {X : Cx} {pins : List (Addr × Obj)} {σ : L2.St} {H N : Hp} {s : Shared} {h' : Heap}
end
theorem kv_get : ∀ {kvs : List (Key × V)} {vs : List (Key × Value)} {j : Nat} {k : Key} {y : Value}, KV kvs vs → vs[j]? = some (k, y) → ∃ x, kvs[j]? = some (k, x) ∧ RelV x y
  | _, _, _, _, _, .nil, e => by simp at e
  | _, _, 0, _, _, .cons (a := a) r _, e => by
    simp at e
    subst e
    exact ⟨a.2, by rw [List.getElem?_cons_zero]; exact congrArg some (Prod.ext r.1 rfl), r.2⟩
  | _, _, j + 1, _, _, .cons _ t, e => by
    obtain ⟨x, h1, h2⟩ := kv_get (j := j) t (by simpa using e)
    exact ⟨x, by simpa using h1, h2⟩
section
variable {X : Cx}
end
section
variable {X : Cx} {o : Expr} {apos cpos : Pos} {td : TE}
namespace B
end B
end
structure Mt (P : Program) (w : World) (K : PySem.W.Frag) (mg : Str → Option Value) (base : Heap) (C : Addr) (m : Str) (k : Nat) (ps : List Str) (sp : Sp) : Prop where
  ex : ∃ (f : Addr) (fd : FuncData), FnOk P w K mg base CX0 k f fd ps sp ∧ Meth K C m f ∧ Binds K fd ps []
structure Mkr (P : Program) (w : World) (K : PySem.W.Frag) (mg : Str → Option Value) (base : Heap) (C : Addr) (x : Str) (k : Nat) (ps : List Str) (sp : Sp) : Prop where
  ex : ∃ (f : Addr) (fd : FuncData), FnOk P w K mg base CX0 k f fd ps sp ∧ Mk K C f ∧ mg x = some (.ref C) ∧ Binds K fd ps []
namespace B
section
variable {X : Cx} {x m f : Str} {p pos apos cpos tpos pos' : Pos} {e o i value : Expr} {es : List Expr} {t : TA} {ta te ti tv td ty tx : TE} {k : Nat} {ps : List Str} {sp : Sp} {C : Addr}
theorem fld (he : Bx (PE X e ta)) (hb : attributeBase e f X.env (eval e X.env) = eval e X.env := by rfl) : Bx (PE X (.Attribute e f pos) (tFld X.K ta f)) := ⟨pe_fld he.out hb⟩
theorem sfld (ha : Bx (PE X o ta)) (hv : Bx (PE X value tv)) (hs : swapsWith value (some (.Attribute o f pos')) pos.line X.env = pure false := by rfl) : Bx (PS X (.Assign [.Attribute o f pos'] value pos) (sFld X.K ta tv f)) := ⟨ps_fld ha.out hv.out hs⟩
theorem dnew : Bx (PE X (.Dict [] [] pos) tDNewK) := ⟨pe_dnewK⟩
theorem dput (hu : X.A.units + 1 < cLine) (ho : Bx (PE X o td)) (hi : Bx (PE X i ty)) (hv : Bx (PE X value tv)) (hs : swapsWith value (some (.Subscript o i pos')) pos.line X.env = pure false := by rfl) : Bx (PS X (.Assign [.Subscript o i pos'] value pos) (sDPut td ty tv)) := ⟨ps_dput hu ho.out hi.out hv.out hs⟩
theorem m1 {m : Str} (base : attributeBase o m X.env (eval o X.env) = eval o X.env := by rfl) (h : plainE e = true := by rfl) (line : (apos.endLine == cpos.line) = true := by rfl) : M1 X o m apos e cpos := by
  have t : backTo cpos (starEach [e] X.env) = [(false, eval e X.env)] := by rw [star_of h]; rfl
  exact ⟨base, by rw [t]; rfl, line, t⟩
theorem m2 {m : Str} {g : Expr} (base : attributeBase o m X.env (eval o X.env) = eval o X.env := by rfl) (h : plainE e = true := by rfl) (h' : plainE g = true := by rfl) (line : (apos.endLine == cpos.line) = true := by rfl) : M2 X o m apos e g cpos := by
  have t : backTo cpos (starEach [e, g] X.env) = [(false, eval e X.env), (false, eval g X.env)] := by rw [star_of h, star_of h']; rfl
  exact ⟨base, by rw [t]; rfl, line, t⟩
theorem dget1 (hu : X.A.units + 1 < cLine) (ho : Bx (PE X o td)) (he : Bx (PE X e ty)) (m : M1 X o "get" apos e cpos := by exact m1) : Bx (PE X (.Call (.Attribute o "get" apos) [e] [] cpos) (tDGet1 td ty)) := ⟨pe_dget1 hu ho.out he.out m⟩
theorem dpop2 {g : Expr} (ho : Bx (PE X o td)) (he : Bx (PE X e ty)) (hf : Bx (PE X g tx)) (m : M2 X o "pop" apos e g cpos := by exact m2) : Bx (PE X (.Call (.Attribute o "pop" apos) [e, g] [] cpos) (tDPop2 td ty tx)) := ⟨pe_dpop2 ho.out he.out hf.out m⟩
theorem meth (he : Bx (PE X o ta)) (c : Cls X.K C) (M : Mt X.prog X.w X.K X.mg X.base C m k ps sp) (hr : Room k X.A) (ha : Bx (PA X (e :: es) t)) (h1 : plainE e = true := by rfl) (h2 : es.all plainE = true := by rfl)
    {pl : Sem Bool} (ht' : eval (.Call (.Attribute o m apos) (e :: es) [] pos) X.env = (do
      let ov ← eval o X.env
      standAt apos.atName
      let (f, first) ← holding [ov] (getMethod ov m pl)
      callWith pos f first (backTo pos (starEach (e :: es) X.env)) (backToKw pos (keywordEach [] X.env))) := by rfl) :
    Bx (PE X (.Call (.Attribute o m apos) (e :: es) [] pos) (tMeth C m sp [] E0 ta t)) := by
  obtain ⟨f, fd, G, hm, b⟩ := M.ex
  exact ⟨pe_meth he.out c hm G hr b .nil pass0 ha.out (star_of h1) (star_any h2) ht'⟩
end
end B
theorem b_list : bootBuiltins "list" = some (.type "list") := by decide +kernel
namespace B
end B
end SW

set_option Elab.async false
set_option linter.all false
set_option maxRecDepth 100000
namespace SW
open PySem PySem.Spec PyProof.Rows L2
structure Dm (K : PySem.W.Frag) (C : Addr) (m qual : Str) (st : Stmt) (ps : List Str) : Prop where
  ex : ∃ (f : Addr) (fd : FuncData), Fun K m qual st f fd ∧ Meth K C m f ∧ Binds K fd ps []
theorem Dm.mt {P : Program} {w : World} {K : PySem.W.Frag} {mg : Str → Option Value} {base : Heap} {C : Addr} {m qual : Str} {st : Stmt} {N ps : List Str} {k : Nat} {sp : Sp} (d : Dm K C m qual st ps) (S : FnScope N ps (defScope st)) (len : ∀ vs H Q E, sp vs H Q E → vs.length = ps.length)
    (hb : ∀ (f : Addr) (cdv : Value) (A : Around) (outer : List Env) (s : Shared) (H : Hp) (vs : List V) (Q : VK) (E : XK), Room k (A.deeper (envOfC qual (defScope st) s.heap.objs.size f cdv)) → sp vs H Q E →
      ∃ t, Bx (PSs (cxOf CX0 P w K mg base N qual (defScope st) f cdv A outer s H E).nox (defBody st) t) ∧ t { nx := fun _ H' => Q .non H', rt := Q } (start N vs) H) : Mt P w K mg base C m (k + 1) ps sp := by
  obtain ⟨f, fd, F, hm, hb'⟩ := d.ex
  exact ⟨f, fd, F.ok S len (fun cdv A outer s H vs Q E hr h => let ⟨t, h1, h2⟩ := hb f cdv A outer s H vs Q E hr h; ⟨t, h1.out, h2⟩), hm, hb'⟩
structure Dk (K : PySem.W.Frag) (mg : Str → Option Value) (C : Addr) (x qual : Str) (st : Stmt) (ps : List Str) : Prop where
  ex : ∃ (f : Addr) (fd : FuncData), Fun K "__init__" qual st f fd ∧ Mk K C f ∧ mg x = some (.ref C) ∧ Binds K fd ps []
theorem Dk.mk' {P : Program} {w : World} {K : PySem.W.Frag} {mg : Str → Option Value} {base : Heap} {C : Addr} {x qual : Str} {st : Stmt} {N ps : List Str} {k : Nat} {sp : Sp} (d : Dk K mg C x qual st ps) (S : FnScope N ps (defScope st)) (len : ∀ vs H Q E, sp vs H Q E → vs.length = ps.length)
    (hb : ∀ (f : Addr) (cdv : Value) (A : Around) (outer : List Env) (s : Shared) (H : Hp) (vs : List V) (Q : VK) (E : XK), Room k (A.deeper (envOfC qual (defScope st) s.heap.objs.size f cdv)) → sp vs H Q E →
      ∃ t, Bx (PSs (cxOf CX0 P w K mg base N qual (defScope st) f cdv A outer s H E).nox (defBody st) t) ∧ t { nx := fun _ H' => Q .non H', rt := Q } (start N vs) H) : Mkr P w K mg base C x (k + 1) ps sp := by
  obtain ⟨f, fd, F, hm, hg, hb'⟩ := d.ex
  exact ⟨f, fd, F.ok S len (fun cdv A outer s H vs Q E hr h => let ⟨t, h1, h2⟩ := hb f cdv A outer s H vs Q E hr h; ⟨t, h1.out, h2⟩), hm, hg, hb'⟩

noncomputable abbrev MRow := List (Int × Int)
noncomputable def kvs (r : MRow) : List (Key × V) := r.map fun p => ((Sum.inl p.1 : Key), V.int p.2)
noncomputable def rLook (r : MRow) (k : Int) : Option Int := (r.find? fun p => decide (p.1 = k)).map (·.2)
noncomputable def rPut (r : MRow) (k v : Int) : MRow := if (rLook r k).isSome = true then r.map (fun p => if p.1 = k then (p.1, v) else p) else r ++ [(k, v)]
noncomputable def rCut (r : MRow) (k : Int) : MRow := r.filter fun p => decide (p.1 ≠ k)
noncomputable def oV : Option Int → V
  | none => .non
  | some i => .int i
noncomputable abbrev ROk (r : MRow) : Prop := (r.map (·.1)).Nodup
theorem rLook_pos {p : Int × Int} {r : MRow} {k : Int} (e : p.1 = k) : rLook (p :: r) k = some p.2 := by simp [rLook, List.find?_cons, e]
theorem rLook_neg {p : Int × Int} {r : MRow} {k : Int} (e : ¬ p.1 = k) : rLook (p :: r) k = rLook r k := by simp [rLook, List.find?_cons, e]
theorem inlE {a b : Int} : ((Sum.inl a : Key) = Sum.inl b) ↔ a = b := ⟨Sum.inl.inj, congrArg _⟩
theorem valV_kvs (k : Int) : ∀ r : MRow, valV (kvs r) (Sum.inl k : Key) = (rLook r k).map V.int
  | [] => rfl
  | p :: r => by
    show valV (((Sum.inl p.1 : Key), V.int p.2) :: kvs r) (Sum.inl k : Key) = _
    by_cases e : p.1 = k
    · rw [rLook_pos e, valV_pos (inlE.mpr e)]; rfl
    · rw [rLook_neg e, valV_neg (fun z => e (inlE.mp z)), valV_kvs k r]
theorem kvs_any (r : MRow) (k : Int) : ((kvs r).any fun kv => decide (kv.1 = (Sum.inl k : Key))) = (rLook r k).isSome := by
  rw [valV_any, valV_kvs]
  cases rLook r k <;> rfl
theorem putK_kvs (r : MRow) (k v : Int) : putK (kvs r) (Sum.inl k : Key) (V.int v) = kvs (rPut r k v) := by
  unfold putK rPut
  rw [kvs_any]
  split
  · unfold kvs
    rw [List.map_map, List.map_map]
    refine List.map_congr_left fun p _ => ?_
    show (if (Sum.inl p.1 : Key) = Sum.inl k then _ else _) = _
    by_cases e : p.1 = k
    · rw [if_pos (inlE.mpr e)]
      show _ = ((Sum.inl (if p.1 = k then (p.1, v) else p).1 : Key), V.int (if p.1 = k then (p.1, v) else p).2)
      rw [if_pos e]
    · rw [if_neg (fun z => e (inlE.mp z))]
      show _ = ((Sum.inl (if p.1 = k then (p.1, v) else p).1 : Key), V.int (if p.1 = k then (p.1, v) else p).2)
      rw [if_neg e]
  · unfold kvs
    rw [List.map_append]
    rfl
theorem dropK_kvs (k : Int) : ∀ r : MRow, dropK (kvs r) (Sum.inl k : Key) = kvs (rCut r k)
  | [] => rfl
  | p :: r => by
    show dropK (((Sum.inl p.1 : Key), V.int p.2) :: kvs r) (Sum.inl k : Key) = _
    unfold rCut
    rw [List.filter_cons]
    by_cases e : p.1 = k
    · rw [dropK_pos (inlE.mpr e), if_neg (by simp [e]), dropK_kvs k r]; rfl
    · rw [dropK_neg (fun z => e (inlE.mp z)), if_pos (by simp [e]), dropK_kvs k r]; rfl
theorem kvs_len (r : MRow) : (kvs r).length = r.length := List.length_map ..
theorem rLook_none_iff (k : Int) : ∀ {r : MRow}, rLook r k = none ↔ ¬ k ∈ r.map (·.1)
  | [] => by simp [rLook]
  | p :: r => by
    rw [List.map_cons, List.mem_cons]
    by_cases e : p.1 = k
    · rw [rLook_pos e]; simp [e]
    · rw [rLook_neg e, rLook_none_iff k]
      constructor
      · intro h z
        rcases z with z | z
        · exact e z.symm
        · exact h z
      · intro h z
        exact h (.inr z)
theorem keys_put_old {r : MRow} {k v : Int} (h : (rLook r k).isSome = true) : (rPut r k v).map (·.1) = r.map (·.1) := by
  unfold rPut
  rw [if_pos h, List.map_map]
  refine List.map_congr_left fun p _ => ?_
  show (if p.1 = k then (p.1, v) else p).1 = p.1
  split <;> rfl
theorem rPut_new {r : MRow} {k v : Int} (h : rLook r k = none) : rPut r k v = r ++ [(k, v)] := by
  unfold rPut
  rw [h]
  rfl
theorem rPut_ok {r : MRow} {k v : Int} (h : ROk r) : ROk (rPut r k v) := by
  cases e : rLook r k with
  | some x => rw [ROk, keys_put_old (by rw [e]; rfl)]; exact h
  | none =>
    rw [ROk, rPut_new e, List.map_append]
    exact nd_snoc h ((rLook_none_iff k).mp e)
theorem rPut_len {r : MRow} {k v : Int} : (rPut r k v).length = r.length + (if rLook r k = none then 1 else 0) := by
  cases e : rLook r k with
  | some x =>
    unfold rPut
    rw [e]
    simp
  | none => rw [rPut_new e]; simp
theorem rCut_ok {r : MRow} {k : Int} (h : ROk r) : ROk (rCut r k) := by
  have : (rCut r k).map (·.1) = (r.map (·.1)).filter fun a => decide (a ≠ k) := by
    unfold rCut
    rw [List.filter_map]
    rfl
  rw [ROk, this]
  exact List.Pairwise.filter _ h
theorem rCut_no : ∀ {r : MRow} {k : Int}, ¬ k ∈ r.map (·.1) → rCut r k = r
  | [], _, _ => rfl
  | p :: r, k, h => by
    rw [List.map_cons, List.mem_cons] at h
    unfold rCut
    rw [List.filter_cons, if_pos (by simp only [decide_eq_true_eq]; exact fun z => h (.inl z.symm))]
    exact congrArg _ (rCut_no fun z => h (.inr z))
noncomputable def Fr (F : Addr → Prop) (H H' : Hp) : Prop := ∀ b o, ¬ F b → H b = some o → H' b = some o
theorem Fr.refl (F : Addr → Prop) (H : Hp) : Fr F H H := fun _ _ _ h => h
theorem Fr.trans {F : Addr → Prop} {H H1 H2 : Hp} (a : Fr F H H1) (b : Fr F H1 H2) : Fr F H H2 := fun c o n h => b c o n (a c o n h)
theorem Fr.same {F : Addr → Prop} {H H' : Hp} (h : Same H H') : Fr F H H' := fun b o _ e => h b o e
noncomputable def PrV (H : Hp) (v : V) (p : Int × Int) : Prop := ∃ a, v = .ref a ∧ H a = some (.tup [.int p.1, .int p.2])
noncomputable abbrev Prs (H : Hp) (xs : List V) (r : MRow) : Prop := Paired (PrV H) xs r
theorem PrV.keep {H H' : Hp} {v : V} {p : Int × Int} (h : PrV H v p) (k : ∀ a xs, H a = some (.tup xs) → H' a = some (.tup xs)) : PrV H' v p := by
  obtain ⟨a, e, h⟩ := h
  exact ⟨a, e, k a _ h⟩
theorem Prs.keep {H H' : Hp} {xs : List V} {r : MRow} (h : Prs H xs r) (k : ∀ a xs, H a = some (.tup xs) → H' a = some (.tup xs)) : Prs H' xs r := Paired.mapP h fun _ _ z => z.keep k


section
variable {D : Ends} {σ : L2.St} {H : Hp} {Q : VK} {v : V} {K : PySem.W.Frag} {C : Addr} {E : XK}
theorem wFld {ta : TE} {f : Str} (h : ta σ H fun x H1 => ∃ a C dx fs v, x = .ref a ∧ H1 a = some (.ins C dx fs) ∧ Cls K C ∧ NoAttr K C f ∧ fs.lookup f = some v ∧ Q v H1) : tFld K ta f σ H Q := h
theorem wSFld {ta tv : TE} {f : Str} (h : tv σ H fun y H1 => ta σ H1 fun x H2 => ∃ a C dx fs, x = .ref a ∧ H2 a = some (.ins C dx fs) ∧ Cls K C ∧ NoAttr K C f ∧ fs.length < 1000 ∧ D.nx σ (upd H2 a (.ins C dx (putF f y fs)))) : sFld K ta tv f D σ H := h
theorem wMeth {m : Str} {sp : Sp} {ta : TE} {t : TA} (h : ta σ H fun x H1 => ∃ a dx fs, x = .ref a ∧ H1 a = some (.ins C dx fs) ∧ fs.lookup m = none ∧ t σ H1 fun vs H2 => sp (x :: (vs ++ [])) H2 Q E) : tMeth C m sp [] E ta t σ H Q := h
theorem wMake {sp : Sp} {t : TA} (h : t σ H fun vs H1 => ∀ x dx, H1 x = none → H1 dx = none → dx ≠ x → sp (.ref x :: (vs ++ [])) (upd (upd H1 dx (.own x)) x (.ins C dx [])) (fun v H2 => v = .non ∧ Q (.ref x) H2) E) : tMake C sp [] E t σ H Q := h
end
end SW
namespace SW
open PySem PySem.Spec PyProof.Rows L2
noncomputable def CN (Pv : Nat → L2.St → Hp → Prop) (n i : Nat) (D : Addr) (σ : L2.St) (y : V) (H4 : Hp) : Prop := ∃ ys, H4 D = some (.lst ys) ∧ ys.length < sizeLine ∧ ∃ m', m' < n - i ∧ (m' = n - (i + 1) ∧ i + 1 ≤ n ∧ Pv (i + 1) σ (upd H4 D (.lst (ys ++ [y]))))
noncomputable def CO (Pv : Nat → L2.St → Hp → Prop) (n i : Nat) (σ : L2.St) (H3 : Hp) : Prop := ∃ m', m' < n - i ∧ (m' = n - (i + 1) ∧ i + 1 ≤ n ∧ Pv (i + 1) σ H3)
theorem CN.mk {Pv : Nat → L2.St → Hp → Prop} {n i : Nat} {D : Addr} {σ : L2.St} {y : V} {H4 : Hp} {ys : List V} (hi : i < n) (hD : H4 D = some (.lst ys)) (hl : ys.length < sizeLine) (h : Pv (i + 1) σ (upd H4 D (.lst (ys ++ [y])))) : CN Pv n i D σ y H4 :=
  ⟨ys, hD, hl, n - (i + 1), by omega, rfl, hi, h⟩
theorem CO.mk {Pv : Nat → L2.St → Hp → Prop} {n i : Nat} {σ : L2.St} {H3 : Hp} (hi : i < n) (h : Pv (i + 1) σ H3) : CO Pv n i σ H3 := ⟨n - (i + 1), by omega, rfl, hi, h⟩
section
variable {K : PySem.W.Frag} {n : Nat} {lo : Int} {a D : Addr} {xs : List V} {σ0 : L2.St} {H1 : Hp} {Q : VK} {tt : TT} {te : TE}
theorem comp_range {Qf : Hp → Prop} (Pv : Nat → L2.St → Hp → Prop) (h0 : Pv 0 σ0 H1)
    (step : ∀ i σ' H', i < n → Pv i σ' H' → tt (σ'.set 0 (some (.int (lo + i)))) H' fun ok H3 => if ok = true then te (σ'.set 0 (some (.int (lo + i)))) H3 (fun y H4 => CN Pv n i D (σ'.set 0 (some (.int (lo + i)))) y H4) else CO Pv n i (σ'.set 0 (some (.int (lo + i)))) H3)
    (fin : ∀ σ H, Pv n σ H → Qf H) :
    ∃ W : Nat → Nat → L2.St → Hp → Prop, (∃ m, W 0 m σ0 H1) ∧ ∀ i m σ' H', W i m σ' H' → ((Itr lo n).stop i H' ∧ Qf H') ∨ ((Itr lo n).go i H' ∧ ∀ x H2, (Itr lo n).yld i H' x H2 → tt (σ'.set 0 (some x)) H2 fun ok H3 =>
      if ok = true then te (σ'.set 0 (some x)) H3 fun y H4 => ∃ ys, H4 D = some (.lst ys) ∧ ys.length < sizeLine ∧ ∃ m', m' < m ∧ W (i + 1) m' (σ'.set 0 (some x)) (upd H4 D (.lst (ys ++ [y])))
      else ∃ m', m' < m ∧ W (i + 1) m' (σ'.set 0 (some x)) H3) := by
  refine ⟨fun i m σ H => m = n - i ∧ i ≤ n ∧ Pv i σ H, ⟨n, by omega, Nat.zero_le _, h0⟩, ?_⟩
  rintro i m σ' H' ⟨rfl, hi, p⟩
  by_cases hlt : i < n
  · refine .inr ⟨hlt, fun x H2 y => ?_⟩
    obtain ⟨rfl, rfl⟩ := y
    exact step i σ' _ hlt p
  · have e : i = n := by omega
    subst e
    exact .inl ⟨Nat.le_refl _, fin _ _ p⟩
theorem comp_list {Qf : Hp → Prop} (Pv : Nat → L2.St → Hp → Prop) (h0 : Pv 0 σ0 H1) (hl : ∀ i σ H, i ≤ xs.length → Pv i σ H → SqL K H a xs)
    (step : ∀ i x σ' H', xs[i]? = some x → i < xs.length → Pv i σ' H' → tt (σ'.set 0 (some x)) H' fun ok H3 => if ok = true then te (σ'.set 0 (some x)) H3 (fun y H4 => CN Pv xs.length i D (σ'.set 0 (some x)) y H4) else CO Pv xs.length i (σ'.set 0 (some x)) H3)
    (fin : ∀ σ H, Pv xs.length σ H → Qf H) :
    ∃ W : Nat → Nat → L2.St → Hp → Prop, (∃ m, W 0 m σ0 H1) ∧ ∀ i m σ' H', W i m σ' H' → ((Itl K a).stop i H' ∧ Qf H') ∨ ((Itl K a).go i H' ∧ ∀ x H2, (Itl K a).yld i H' x H2 → tt (σ'.set 0 (some x)) H2 fun ok H3 =>
      if ok = true then te (σ'.set 0 (some x)) H3 fun y H4 => ∃ ys, H4 D = some (.lst ys) ∧ ys.length < sizeLine ∧ ∃ m', m' < m ∧ W (i + 1) m' (σ'.set 0 (some x)) (upd H4 D (.lst (ys ++ [y])))
      else ∃ m', m' < m ∧ W (i + 1) m' (σ'.set 0 (some x)) H3) := by
  refine ⟨fun i m σ H => m = xs.length - i ∧ i ≤ xs.length ∧ Pv i σ H, ⟨xs.length, by omega, Nat.zero_le _, h0⟩, ?_⟩
  rintro i m σ' H' ⟨rfl, hi, p⟩
  have q := hl i σ' H' hi p
  by_cases hlt : i < xs.length
  · refine .inr ⟨⟨xs, xs[i], q, by simp [hlt]⟩, fun x H2 y => ?_⟩
    obtain ⟨rfl, y⟩ := y
    exact step i x σ' _ (y xs q) hlt p
  · have e : i = xs.length := by omega
    subst e
    exact .inl ⟨⟨xs, q, Nat.le_refl _⟩, fin _ _ p⟩
theorem comp_listU {Qf : Hp → Prop} (Pv : Nat → L2.St → Hp → Prop) (h0 : Pv 0 σ0 H1) (hl : ∀ i σ H, i ≤ xs.length → Pv i σ H → SqL K H a xs)
    (step : ∀ i x σ' H', xs[i]? = some x → i < xs.length → Pv i σ' H' → te (σ'.set 0 (some x)) H' (fun y H4 => CN Pv xs.length i D (σ'.set 0 (some x)) y H4))
    (fin : ∀ σ H, Pv xs.length σ H → Qf H) :
    ∃ W : Nat → Nat → L2.St → Hp → Prop, (∃ m, W 0 m σ0 H1) ∧ ∀ i m σ' H', W i m σ' H' → ((Itl K a).stop i H' ∧ Qf H') ∨ ((Itl K a).go i H' ∧ ∀ x H2, (Itl K a).yld i H' x H2 →
      if true = true then te (σ'.set 0 (some x)) H2 fun y H4 => ∃ ys, H4 D = some (.lst ys) ∧ ys.length < sizeLine ∧ ∃ m', m' < m ∧ W (i + 1) m' (σ'.set 0 (some x)) (upd H4 D (.lst (ys ++ [y])))
      else ∃ m', m' < m ∧ W (i + 1) m' (σ'.set 0 (some x)) H2) :=
  comp_list (tt := fun _ H Q => Q true H) Pv h0 hl (fun i x σ' H' e hi p => iteT (step i x σ' H' e hi p)) fin
end
section
variable {C : Addr} {H H' : Hp} {p : Addr} {f m : Int} {R : MRows} {t L : Addr} {ds : List Addr}
end
noncomputable def spWhole : Sp := fun vs H Q _ => ∃ n : Int, vs = [.int n] ∧ Q (.bl true) H
theorem oV_getD {r : MRow} {k : Int} : (valV (kvs r) (Sum.inl k : Key)).getD V.non = oV (rLook r k) := by
  rw [valV_kvs]
  cases rLook r k <;> rfl
end SW
namespace SW
open PySem PySem.Spec PyProof.Rows L2
end SW
namespace SW.B
open PySem PySem.Spec PyProof.Rows L2 SW
theorem tcmpI {X : Cx} {a b : Expr} {ta tb : TE} {pos : Pos} {op : CmpOp} {r : R2} (ho : OpR X (compareOp op) r) (ha : Bx (PE X a ta)) (hb : Bx (PE X b tb)) (hm : behindInMarks op b = false := by first | rfl | with_unfolding_all rfl) : Bx (PT X (.Compare a [op] [b] pos) (tTest (tOp r ta tb))) := ⟨pt_cmpR ho ha.out hb.out hm⟩
end SW.B
namespace SW
open PySem PySem.Spec PyProof.Rows L2
end SW
namespace SW
open PySem PySem.Spec PyProof.Rows L2
section
variable {D : Ends} {σ : L2.St} {H : Hp} {Q : VK} {K : PySem.W.Frag}
theorem wDGet1 {td ty : TE} (h : td σ H fun x H1 => ∃ a, x = .ref a ∧ IsD H1 a ∧ ty σ H1 fun y H2 => ∃ o, DGet H2 a y o ∧ Q (o.getD .non) H2) : tDGet1 td ty σ H Q := h
theorem wDPop2 {td ty tx : TE} (h : td σ H fun x H1 => ∃ a, x = .ref a ∧ IsD H1 a ∧ ty σ H1 fun y H2 => tx σ H2 fun z H3 => ∃ kvs k, H3 a = some (.dK kvs) ∧ y = kV k ∧ (∀ v, valV kvs k = some v → Q v (upd H3 a (.dK (dropK kvs k)))) ∧ (valV kvs k = none → Q z H3)) : tDPop2 td ty tx σ H Q := h
theorem wDPut {td ty tv : TE} (h : tv σ H fun v H1 => td σ H1 fun x H2 => ty σ H2 fun y H3 => ∃ a H4, x = .ref a ∧ DPut H3 a y v H4 ∧ D.nx σ H4) : sDPut td ty tv D σ H := h
theorem wCompSet {i : Nat} {t : TE} (h : t σ H fun v H1 => D.nx (σ.set i (some v)) H1) : tCompSet i t D σ H := h
theorem wSl {r : V → Option Int → Option Int → Hp → VK → Prop} {te : TE} {tl th : TO} (h : te σ H fun x H1 => tl σ H1 fun l H2 => th σ H2 fun u H3 => r x l u H3 Q) : tSl r te tl th σ H Q := h
theorem wNoPart {Q : Option Int → Hp → Prop} (h : Q none H) : tNoPart σ H Q := h
theorem wPart {t : TE} {Q : Option Int → Hp → Prop} (h : t σ H fun x H1 => ∃ i, x = .int i ∧ Q (some i) H1) : tPart t σ H Q := h
end
end SW

set_option Elab.async false
set_option linter.all false
set_option maxRecDepth 100000
namespace SW
open PySem PySem.Spec PyProof.Rows L2
section
variable {X : Cx} {pins : List (Addr × Obj)} {σ : L2.St} {H : Hp} {s : Shared} {h' : Heap}
theorem Inv.turnedNew {t' : Nat} {fp : List Addr} {a : Addr} {o : HO} (I : Inv X pins σ H s) (k : ∀ b u, b ∉ fp → s.heap.get? b = some u → h'.get? b = some u) (hf : ∀ b ∈ fp, FpOk X pins H b) (hp : s.heap.objs.size ≤ a)
    (new : ObjOk X.prog X.w (upd H a o) h' a o) : Inv X pins σ (upd H a o) { s with heap := h', toks := t' } := by
  have lt : ∀ b u, H b = some u → b < s.heap.objs.size := fun b u e => I.hok.lt e
  have old : ∀ b u, H b = some u → upd H a o b = some u := fun b u e => by rw [upd_ne (Nat.ne_of_lt (Nat.lt_of_lt_of_le (lt b u e) hp))]; exact e
  have nfp : ∀ b u, H b = some u → b ∉ fp := fun b u e z => by
    have := (hf b z).1
    rw [e] at this
    cases this
  refine I.call (g' := s.gens) (d' := s.drawn) (t' := t') (ch := fp) ⟨fun b u q _ _ hx => k b u hx q, fun b u q _ _ hx => ⟨u.slots, k b u hx q⟩, fun b u q n _ => ?_, fun b u q hx => ⟨u, k b u hx q⟩, fun b xs q => old b _ q, fun b u v q => old b _ q, fun b ps q => ⟨#[], by rw [old b _ q]; simp⟩⟩ (fun b u e => ?_) I.bare
    fun b hb => ⟨(hf b hb).2.2.2.1, (hf b hb).2.1, (hf b hb).2.2.2.2.1, (hf b hb).2.2.2.2.2⟩
  · rw [upd_ne (Nat.ne_of_lt (Nat.lt_of_lt_of_le (Heap.lt_size q) hp))]; exact n
  · by_cases hb : b = a
    · subst hb
      rw [upd_same] at e
      cases e
      exact new
    · rw [upd_ne hb] at e
      refine (I.hok b u e).stay (fun c v hc q => k c v ?_ q) (fun c q => old c _ q) fun c xs q => old c _ q
      rcases hc with z | z
      · rw [z]; exact nfp b u e
      · exact nfp c _ z
theorem Inv.turnedL {t' : Nat} {fp : List Addr} (I : Inv X pins σ H s) (k : ∀ b u, b ∉ fp → s.heap.get? b = some u → h'.get? b = some u) (hf : ∀ b ∈ fp, FpOk X pins H b) : Inv X pins σ H { s with heap := h', toks := t' } := by
  have nfp : ∀ b u, H b = some u → b ∉ fp := fun b u e z => by
    have := (hf b z).1
    rw [e] at this
    cases this
  refine I.call (g' := s.gens) (d' := s.drawn) (t' := t') (ch := fp) ⟨fun b u q _ _ hx => k b u hx q, fun b u q _ _ hx => ⟨u.slots, k b u hx q⟩, fun b u q n _ => n, fun b u q hx => ⟨u, k b u hx q⟩, fun b xs q => q, fun b u v q => q, fun b ps q => ⟨#[], by rw [q]; simp⟩⟩ (fun b u e => ?_) I.bare
    fun b hb => ⟨(hf b hb).2.2.2.1, (hf b hb).2.1, (hf b hb).2.2.2.2.1, (hf b hb).2.2.2.2.2⟩
  refine (I.hok b u e).stay (fun c v hc q => k c v ?_ q) (fun c q => q) fun c xs q => q
  rcases hc with z | z
  · rw [z]; exact nfp b u e
  · exact nfp c _ z
end
section
variable {X : Cx} {elts : List Expr} {k : Nat} {tp : Pos}
end
namespace B
end B
end SW

namespace SW
open PySem PySem.Spec PyProof.Rows L2
section
variable {prog : Program} {w : World} {A : Around} {E : Value → Shared → Prop} {s : Shared}
set_option maxRecDepth 100000 in
end
section
variable {X : Cx} {o e : Expr} {to te : TE} {pos p2 : Pos} {hi : Option Expr} {th : TO}
end
namespace B
end B
end SW

set_option Elab.async false
set_option linter.all false
set_option maxRecDepth 100000
namespace SW
open PySem PySem.Spec PyProof.Rows L2
theorem Prs.len {H : Hp} {xs : List V} {r : MRow} (h : Prs H xs r) : xs.length = r.length := Paired.length h


theorem Prs.dat {K : PySem.W.Frag} {H : Hp} : ∀ {xs : List V} {r : MRow}, Prs H xs r → DatVs K H xs (r.map fun p => .tuple [.int p.1, .int p.2])
  | _, _, .nil => .nil
  | _, _, .cons ⟨a, e, h⟩ t => by
    subst e
    exact .cons (.tup (SqT.of h) (.cons (.int _) (.cons (.int _) .nil))) (Prs.dat t)
end SW
namespace SW
open PySem PySem.Spec PyProof.Rows L2
namespace B
theorem fldK (K : PySem.W.Frag) {X : Cx} {e : Expr} {ta : TE} {f : Str} {pos : Pos} (he : Bx (PE X e ta)) (h : X.K = K := by rfl) (hb : attributeBase e f X.env (eval e X.env) = eval e X.env := by rfl) : Bx (PE X (.Attribute e f pos) (tFld K ta f)) := by subst h; exact ⟨pe_fld he.out hb⟩
end B
end SW
namespace SW
open PySem PySem.Spec PyProof.Rows L2
end SW

set_option Elab.async false
set_option linter.all false
set_option maxRecDepth 100000
namespace SW
open PySem PySem.Spec PyProof.Rows L2
theorem b_set : bootBuiltins "set" = some (.type "set") := by decide +kernel
theorem b_max : bootBuiltins "max" = some (.builtin "max") := by decide +kernel
noncomputable def nDist (ns : List Int) : Nat := (firstMet (fun i => ns.getD i 0) ns.length).length
section
variable {X : Cx}
theorem call_setL : CallR X (.type "set") (fun xs H Q => ∃ l ns, xs = [.ref l] ∧ SqL X.K H l (List.map V.int ns) ∧ List.length ns + 1 < 4096 ∧ X.calm = true ∧ ∀ a S, H a = none → Q (.ref a) (upd H a (.set S (nDist ns)))) := by
  intro pins s σ H xs us Q I r h
  obtain ⟨l, ns, rfl, hl, hn, hc, q⟩ := h
  obtain ⟨u, rfl, rx⟩ := vals1 r
  cases rx
  obtain ⟨its, rv, pl, _⟩ := I.list hl
  have hi : IntsAre its ns := intsAre_of rv
  have le := rv.length
  rw [List.length_map] at le
  refine call_set_list (items := its.toArray) (I.ok.hd hc) pl.isList hi (by rw [List.size_toArray, ← le]; exact hn) fun h' tk hS hk => ?_
  have e : (firstMet (fun i => ns.getD i 0) its.toArray.size).length = nDist ns := by rw [List.size_toArray, ← le]; rfl
  rw [e] at hS
  exact ⟨.ref s.heap.objs.size, _, I.laid (t' := tk) (fun b u g => hk b u (Heap.lt_size g) g) (Nat.le_refl _) (show ObjOk X.prog X.w _ h' _ (.set _ _) from hS), rfl, q _ _ (I.hok.fresh (Nat.le_refl _))⟩
theorem call_lenS : CallR X (.builtin "len") (fun xs H Q => ∃ a S n, xs = [.ref a] ∧ H a = some (.set S n) ∧ Q (.int (n : Nat)) H) := by
  intro pins s σ H xs us Q I r h
  obtain ⟨a, S, n, rfl, ha, q⟩ := h
  obtain ⟨u, rfl, rx⟩ := vals1 r
  cases rx
  obtain ⟨o, es, ep, t, ho, hex, hd, _, _, hb, hf, hn⟩ := (show ObjOk X.prog X.w H s.heap a (.set S n) from I.hok a _ ha)
  have : (scanBound : Nat) = 4096 := rfl
  exact call_len_set ho hex hd hf (by omega) ⟨.int n, H, I.tok _, ⟨_, by rw [hn]⟩, q⟩
end
end SW

namespace SW
open PySem PySem.Spec PyProof.Rows L2
theorem rLook_put {r : MRow} {k v j : Int} : rLook (rPut r k v) j = if j = k then some v else rLook r j := by
  have h := valV_put (kvs r) (Sum.inl k : Key) (Sum.inl j) (V.int v)
  rw [putK_kvs, valV_kvs, valV_kvs] at h
  by_cases e : j = k
  · rw [if_pos (inlE.mpr e)] at h
    rw [if_pos e]
    cases q : rLook (rPut r k v) j with
    | none => rw [q] at h; cases h
    | some z => rw [q] at h; injection h with h; injection h with h; rw [h]
  · rw [if_neg (fun z => e (inlE.mp z))] at h
    rw [if_neg e]
    cases q : rLook (rPut r k v) j with
    | none => rw [q] at h; cases q2 : rLook r j with
      | none => rfl
      | some z => rw [q2] at h; cases h
    | some z => rw [q] at h; cases q2 : rLook r j with
      | none => rw [q2] at h; cases h
      | some y => rw [q2] at h; injection h with h; injection h with h; rw [h]
theorem rLook_mem {r : MRow} {k v : Int} (h : rLook r k = some v) : ∃ p ∈ r, p.1 = k := by
  unfold rLook at h
  obtain ⟨p, e, _⟩ := Option.map_eq_some_iff.mp h
  exact ⟨p, List.mem_of_find?_eq_some e, of_decide_eq_true (List.find?_some (p := fun p : Int × Int => decide (p.1 = k)) e)⟩
end SW

namespace SW
open PySem PySem.Spec PyProof.Rows L2
end SW

set_option Elab.async false
set_option linter.all false
set_option maxRecDepth 100000
namespace SW
open PySem PySem.Spec PyProof.Rows L2
section
variable (t : Addr) (pc : Int) (el : V) (mv : Int) (n : Addr) (tc : Int)
end
section
variable {CS CT : Addr} {H H' : Hp} {p : Addr} {f m : Int} {pc : Nat} {M : MT} {tc : Int} {t n : Addr} {v : V} {FN FE F G : Addr → Prop}
end
section
variable {CS CT : Addr} {H : Hp} {Q : VK} {E : XK} {p : Addr} {k y f m : Int} {pc : Nat} {M : MT} {tc : Int} {F : Addr → Prop}
end
end SW
namespace SW
open PySem PySem.Spec PyProof.Rows L2
section
variable {CS CT : Addr} {H H' : Hp} {p : Addr} {f m : Int} {pc : Nat} {M : MT} {tc : Int} {t n : Addr} {v : V} {FN FE F G : Addr → Prop}
end
end SW
namespace SW
open PySem PySem.Spec PyProof.Rows L2
end SW
namespace SW
open PySem PySem.Spec PyProof.Rows L2
theorem wITup {K : PySem.W.Frag} {σ : L2.St} {H : Hp} {tl : TE} {R : It → Hp → Prop} (h : tl σ H fun x H1 => ∃ a, x = .ref a ∧ (∃ xs, SqT K H1 a xs) ∧ R (Itt K a) H1) : iTup K tl σ H R := h
theorem wDPop1 {σ : L2.St} {H : Hp} {Q : VK} {td ty : TE} (h : td σ H fun x H1 => ∃ a, x = .ref a ∧ IsD H1 a ∧ ty σ H1 fun y H2 => ∃ kvs k v, H2 a = some (.dK kvs) ∧ y = kV k ∧ valV kvs k = some v ∧ Q v (upd H2 a (.dK (dropK kvs k)))) : tDPop1 td ty σ H Q := h
theorem wDIn {σ : L2.St} {H : Hp} {Q : VK} {td ty : TE} (h : ty σ H fun y H1 => td σ H1 fun x H2 => ∃ a o, x = .ref a ∧ DGet H2 a y o ∧ Q (.bl o.isSome) H2) : tDIn ty td σ H Q := h
namespace B
theorem dpop1 {X : Cx} {o e : Expr} {td ty : TE} {apos cpos : Pos} (ho : Bx (PE X o td)) (he : Bx (PE X e ty)) (m : M1 X o "pop" apos e cpos := by exact B.m1) : Bx (PE X (.Call (.Attribute o "pop" apos) [e] [] cpos) (tDPop1 td ty)) := ⟨pe_dpop1 ho.out he.out m⟩
theorem tdin {X : Cx} {a d : Expr} {ty td : TE} {pos : Pos} (hu : X.A.units + 1 < cLine) (hk : Bx (PE X a ty)) (hd : Bx (PE X d td)) (h1 : behindInMarks .In d = false := by first | rfl | with_unfolding_all rfl) : Bx (PT X (.Compare a [.In] [d] pos) (tB (tDIn ty td))) := ⟨pt_cmp (pc_din hu hk.out hd.out) h1⟩
end B
end SW

namespace SW
open PySem PySem.Spec PyProof.Rows L2
inductive Deed where
  | put (k v : Int)
  | look (k : Int)
  | cut (k : Int)
noncomputable def deedT : Deed → List V
  | .put k v => [.str "put", .int k, .int v]
  | .look k => [.str "look", .int k]
  | .cut k => [.str "cut", .int k]
noncomputable def DeedV (H : Hp) (v : V) (d : Deed) : Prop := ∃ a, v = .ref a ∧ H a = some (.tup (deedT d))




noncomputable def deedR (r : MRow) : Deed → MRow
  | .put k v => rPut r k v
  | .look _ => r
  | .cut k => rCut r k
noncomputable def deedK : Deed → Int
  | .put k _ => k
  | .look k => k
  | .cut k => k
noncomputable def spPlain : Sp := fun vs H Q _ => ∃ (a : Addr) (v : V) (d : Deed) (r : MRow), vs = [.ref a, v] ∧ H a = some (.dK (kvs r)) ∧ DeedV H v d ∧ ROk r ∧ r.length ≤ 100000 ∧ ∀ H', H' a = some (.dK (kvs (deedR r d))) → KeepBut a H H' → Q (oV (rLook r (deedK d))) H'
theorem wPlain {a : Addr} {v : V} {d : Deed} {r : MRow} {H : Hp} {Q : VK} {E : XK} (h : H a = some (.dK (kvs r))) (hd : DeedV H v d) (ok : ROk r) (hl : r.length ≤ 100000) (k : ∀ H', H' a = some (.dK (kvs (deedR r d))) → KeepBut a H H' → Q (oV (rLook r (deedK d))) H') : spPlain ([.ref a, v] ++ []) H Q E := ⟨a, v, d, r, rfl, h, hd, ok, hl, k⟩
end SW

set_option Elab.async false
set_option linter.all false
set_option maxRecDepth 100000
namespace SW
open PySem PySem.Spec PyProof.Rows L2
structure CompScopeN (X : Cx) (scope : Scope) (cl : List (Str × Addr)) (os : List Str) (js : List Nat) (N' : List Str) : Prop where
  clos : closureFor scope X.env = pure cl
  kind : scope.kind = .function
  nocell : ∀ y ∈ scope.names, y.2 ≠ .cell
  names : ∀ y ∈ scope.names, y.2 = .local → scope.names.lookup y.1 = some .local
  sub : ∀ p ∈ cl, X.env.cells.lookup p.1 = some p.2
  has : ∀ y, ((relabel scope X.env).names.lookup y = some .cell ∨ (relabel scope X.env).names.lookup y = some .free) → ∃ c, cl.lookup y = some c
  nm : N' = os ++ js.map fun j => X.N.getD j Str.empty
  see : ∀ (i j : Nat), js[i]? = some j → ∃ y, X.N[j]? = some y ∧ (X.env.kindOf y = some .cell ∨ X.env.kindOf y = some .free) ∧ ((relabel scope X.env).names.lookup y = some .cell ∨ (relabel scope X.env).names.lookup y = some .free)
noncomputable def seenN (n : Nat) (σ : L2.St) (js : List Nat) : L2.St := List.replicate n none ++ js.map fun j => σ.getD j none
section
variable {X : Cx} {scope : Scope} {cl : List (Str × Addr)} {os : List Str} {js : List Nat} {N' : List Str} {pins : List (Addr × Obj)} {σ : L2.St} {H : Hp} {s : Shared} {fp : List Addr}
theorem CompScopeN.sub' (S : CompScopeN X scope cl os js N') {y : Str} {c : Addr} (h : cl.lookup y = some c) : X.env.cells.lookup y = some c := S.sub (y, c) (PySem.mem_of_lookup h)
theorem compN_ok (S : CompScopeN X scope cl os js N') (I : Inv X pins σ H s) (hf : ∀ b ∈ fp, FpOk X pins H b) (ho : ∀ b ∈ fp, b < s.heap.objs.size) : (compCx X scope cl N' s H fp pins).Ok where
  mod := I.ok.mod
  kind := S.kind
  glob := I.ok.glob
  blt := I.ok.blt
  above := Nat.le_refl _
  inj := fun y z c h1 h2 => I.ok.inj y z c (S.sub' h1) (S.sub' h2)
  has := fun y h => S.has y h
  cab := fun y c h => absurd h Bool.false_ne_true
  hd := I.ok.hd
  frames := I.ok.frames
  stk := .inl rfl
  exf := fun b hb => ⟨Nat.ne_of_lt (ho b hb), fun y c h => (hf b hb).2.2.2.2.1 y c (S.sub' h)⟩
  bs := I.bs
  bsz := Nat.le_trans I.ok.bsz I.sz
  noex := fun b o e hb => by
    rcases (hf b hb).2.2.2.1 with z | z
    · exact I.ok.noex b o e z
    · exact absurd (Nat.lt_of_lt_of_le (Heap.lt_size (I.ok.bs b o e).1) z) (Nat.lt_irrefl _)
  exfs := fun b hb z => by
    rcases List.mem_cons.mp (I.stkSub b z) with e | e
    · exact (hf b hb).2.1 e
    · exact (hf b hb).2.2.1 e
  funs := I.stack
  frf := I.stkFree
theorem compN_inv (S : CompScopeN X scope cl os js N') (I : Inv X pins σ H s) (hf : ∀ b ∈ fp, FpOk X pins H b) (ho : ∀ b ∈ fp, b < s.heap.objs.size) {s4 : Shared} {m : Str → Option Value} (hos : s4.os = s.os) (hg : s4.gens = s.gens)
    (hn : s4.heap.Ns s.heap.objs.size m) (hk : ∀ b o, s.heap.get? b = some o → s4.heap.get? b = some o) : Inv (compCx X scope cl N' s H fp pins) [] (seenN os.length σ js) H s4 where
  ok := compN_ok S I hf ho
  os := hos
  bare := by rw [hg]; exact I.bare
  base := Un.kept hk
  loc := by
    obtain ⟨mX, _, hl⟩ := I.loc
    refine ⟨m, hn, fun i y v h1 h2 h3 => ?_⟩
    by_cases hio : i < os.length
    · unfold seenN at h2
      rw [List.getElem?_append_left (by rw [List.length_replicate]; exact hio), List.getElem?_replicate_of_lt hio] at h2
      cases h2
    · obtain ⟨i', rfl⟩ : ∃ i', i = os.length + i' := ⟨i - os.length, by omega⟩
      have h1' : N'[os.length + i']? = some y := h1
      rw [S.nm, List.getElem?_append_right (by omega), Nat.add_sub_cancel_left, List.getElem?_map] at h1'
      unfold seenN at h2
      rw [List.getElem?_append_right (by rw [List.length_replicate]; omega), List.length_replicate, Nat.add_sub_cancel_left, List.getElem?_map] at h2
      revert h1' h2
      generalize i' = i
      intro h2 h1'
      cases ej : js[i]? with
      | none => rw [ej] at h2; cases h2
      | some j =>
        rw [ej] at h1' h2
        obtain ⟨z, hz, k1, k2⟩ := S.see i j ej
        have ey : z = y := by
          have : X.N.getD j Str.empty = y := Option.some.inj h1'
          rw [List.getD_eq_getElem?_getD, hz] at this
          exact this
        subst ey
        have ev : σ[j]? = some (some v) := by
          have q : σ.getD j none = some v := Option.some.inj h2
          rw [List.getD_eq_getElem?_getD] at q
          cases e : σ[j]? with
          | none => rw [e] at q; cases q
          | some w' => rw [e] at q; exact congrArg some q
        have kx : X.env.scope.names.lookup z = some .cell ∨ X.env.scope.names.lookup z = some .free := k1
        obtain ⟨u, r, l⟩ := hl j z v hz ev (.inr kx)
        refine ⟨u, r, .inr ⟨k2, ?_⟩⟩
        obtain ⟨c, hc⟩ := S.has z k2
        rcases l with ⟨kl, _⟩ | ⟨_, c', e', cell⟩
        · rcases k1 with k1 | k1 <;> rw [k1] at kl <;> cases kl
        · have : c' = c := Option.some.inj (e'.symm.trans (S.sub' hc))
          subst this
          obtain ⟨o, q1, q2⟩ := cell
          exact ⟨c', hc, o, hk _ _ q1, q2⟩
  cell := fun y c h => by
    obtain ⟨v, o, q1, q2⟩ := I.cell y c (S.sub' h)
    exact ⟨v, o, hk _ _ q1, q2⟩
  free := I.hok.fresh (Nat.le_refl _)
  freeC := fun y c h => I.freeC y c (S.sub' h)
  pin := fun p hp => by
    have hp' : p ∈ X.pn ++ pins := by
      have q : p ∈ (X.pn ++ pins) ++ [] := hp
      rw [List.append_nil] at q
      exact q
    obtain ⟨e, n, ne, nf, d⟩ := I.pin p hp'
    refine ⟨hk _ _ e, n, Nat.ne_of_lt (Heap.lt_size e), fun z => ?_, d⟩
    rcases List.mem_cons.mp (I.stkSub p.1 z) with q | q
    · exact ne q
    · exact nf q
  hok := I.hok.kept hk
  len := by
    show (seenN os.length σ js).length = N'.length
    rw [S.nm]
    unfold seenN
    simp
end
noncomputable def tCompN (n : Nat) (js : List Nat) (wi : TI) (gt : TG) (tt : TT) (te : TE) : TE := fun σ H Q => wi σ H fun J H1 => ∀ D, H1 D = none → ∃ W : Nat → Nat → L2.St → Hp → Prop, (∃ m, W 0 m (seenN n σ js) (upd H1 D (.lst []))) ∧
  ∀ i m σ' H', W i m σ' H' → (J.stop i H' ∧ Q (.ref D) H') ∨ (J.go i H' ∧ ∀ x H2, J.yld i H' x H2 → gt x σ' H2 fun σ2 H2' => tt σ2 H2' fun ok H3 =>
    if ok = true then te σ2 H3 fun y H4 => ∃ ys, H4 D = some (.lst ys) ∧ ys.length < sizeLine ∧ ∃ m', m' < m ∧ W (i + 1) m' σ2 (upd H4 D (.lst (ys ++ [y])))
    else ∃ m', m' < m ∧ W (i + 1) m' σ2 H3)
section
variable {X : Cx} {scope : Scope} {cl : List (Str × Addr)} {os : List Str} {js : List Nat} {N' : List Str} {elt iter : Expr} {ifs : List Expr} {tgt : Expr} {pos : Pos} {wi : TI} {gt : TG} {tt : TT} {te : TE}
theorem compN_core {RR : Value → Addr → Result → Shared → Prop} {pins : List (Addr × Obj)} {σ : L2.St} {H2 : Hp} {s2 : Shared} {Q : VK} {it : Addr} {fp : List Addr} {tn : Nat → Heap → Prop} {J : It} (S : CompScopeN X scope cl os js N') (hc : X.calm = true) (hg : ∀ s H fp pins, PG (compCx X scope cl N' s H fp pins) tgt gt)
    (ht : ∀ s H fp pins, PTs (compCx X scope cl N' s H fp pins) ifs tt) (he : ∀ s H fp pins, PE (compCx X scope cl N' s H fp pins) elt te)
    (I2 : Inv X pins σ H2 s2) (T : Turn X.prog X.w X.K tgt J fp it tn) (st2 : tn 0 s2.heap) (f2 : ∀ b ∈ fp, FpOk X pins H2 b)
    (k : ∀ D, H2 D = none → ∃ W : Nat → Nat → L2.St → Hp → Prop, (∃ m, W 0 m (seenN os.length σ js) (upd H2 D (.lst []))) ∧
      ∀ i m σ' H', W i m σ' H' → (J.stop i H' ∧ Q (.ref D) H') ∨ (J.go i H' ∧ ∀ x H2, J.yld i H' x H2 → gt x σ' H2 fun σ2 H2' => tt σ2 H2' fun ok H3 =>
        if ok = true then te σ2 H3 fun y H4 => ∃ ys, H4 D = some (.lst ys) ∧ ys.length < sizeLine ∧ ∃ m', m' < m ∧ W (i + 1) m' σ2 (upd H4 D (.lst (ys ++ [y])))
        else ∃ m', m' < m ∧ W (i + 1) m' σ2 H3))
    (fin : ∀ (D C : Addr) (s6 : Shared) (H6 : Hp) (m : Str → Option Value), s6.heap.Ns C m → (∀ h', Heap.SameBut C s6.heap h' → Inv X pins σ H6 { s6 with heap := h' }) → H6 C = none → FpOk X pins H6 C → Q (.ref D) H6 → RR (.ref D) C (.ok .next) s6) :
    wpAny (model X.prog X.w) X.A (newList []) (fun acc s₃ => wpAny (model X.prog X.w) X.A (newFunctionEnv scope X.env.globals cl [] X.env.qual none .none (some X.env)) (fun cenv s₄ =>
      codeAny (model X.prog X.w) X.A (.compStart (.ListComp elt [⟨tgt, iter, ifs, 0⟩] scope pos) 0 (.ref it) acc { cenv with scope := relabel scope X.env }) (RR acc cenv.locals) s₄) X.xe s₃) X.xe s2 := by
  have hDn : H2 s2.heap.objs.size = none := I2.hok.fresh (Nat.le_refl _)
  obtain ⟨W, ⟨m0, w0⟩, turn⟩ := k s2.heap.objs.size hDn
  refine wpAny_newObj_type (wpAny_newFunctionEnv S.nocell (by intro y hy; simp at hy) (fun h4 hns4 hsb4 => ?_) S.kind) (by show 0 ≤ sizeLine; exact Nat.zero_le _)
  have I3 : Inv X pins σ (upd H2 s2.heap.objs.size (.lst [])) { s2 with heap := s2.heap.push { cls := .type "list", dict := none, data := .seq ([] : List Value).toArray } } :=
    I2.laid (t' := s2.toks) (fun b u e => Heap.get?_push_of_some _ e) (Nat.le_refl _) ⟨Nat.zero_le _, [], 0, .nil, Heap.get?_push_size _ rfl⟩
  have ltf : ∀ b ∈ fp, b < s2.heap.objs.size := fun b hb => let ⟨o, e, _⟩ := T.obj 0 _ st2 b hb; Heap.lt_size e
  have f3 : ∀ b ∈ fp, FpOk X pins (upd H2 s2.heap.objs.size (.lst [])) b := fun b hb => ⟨by rw [upd_ne (Nat.ne_of_lt (ltf b hb))]; exact (f2 b hb).1, (f2 b hb).2⟩
  generalize hH : upd H2 s2.heap.objs.size (.lst []) = H3 at *
  generalize hS3 : ({ s2 with heap := s2.heap.push { cls := .type "list", dict := none, data := .seq ([] : List Value).toArray } } : Shared) = s3 at *
  have o3 : ∀ b ∈ fp, b < s3.heap.objs.size := fun b hb => by
    rw [← hS3]
    show b < (s2.heap.push _).objs.size
    rw [Heap.size_push]
    exact Nat.lt_succ_of_lt (ltf b hb)
  have k4 : ∀ b o, s3.heap.get? b = some o → h4.get? b = some o := fun b o e => (hsb4.2 b (Nat.ne_of_lt (Heap.lt_size e))).trans (Heap.get?_push_of_some _ e)
  have st3 : tn 0 s3.heap := T.keep 0 _ _ st2 fun b hb o e => by rw [← hS3]; exact Heap.get?_push_of_some _ e
  have st4 : tn 0 h4 := T.keep 0 _ _ st3 fun b hb o e => k4 b o e
  have I4 : Inv (compCx X scope cl N' s3 H3 fp pins) [] (seenN os.length σ js) H3 { s3 with heap := h4, toks := s3.toks + ([] : List (Str × Value)).length } := compN_inv S I3 f3 o3 rfl rfl hns4 k4
  have ok := compN_ok S I3 f3 o3
  have fp5 : ∀ {H' : Hp}, (∀ b ∈ fp, H' b = none) → ∀ b ∈ fp, FpOk (compCx X scope cl N' s3 H3 fp pins) [] H' b := fun hn b hb =>
    ⟨hn b hb, Nat.ne_of_lt (o3 b hb), ok.exfs b hb, .inl hb, fun y c h => (f3 b hb).2.2.2.2.1 y c (S.sub' h), fun p hp => (f3 b hb).2.2.2.2.2 p (by
      have q : p ∈ (X.pn ++ pins) ++ [] := hp
      rw [List.append_nil] at q
      exact q)⟩
  have loop : codeAny (model X.prog X.w) X.A (.compLoop (.ListComp elt [⟨tgt, iter, ifs, 0⟩] scope pos) 0 (.ref it) (.ref s2.heap.objs.size) (compEnvC scope cl s3.heap.objs.size X.env))
      (RR (.ref s2.heap.objs.size) s3.heap.objs.size) { s3 with heap := h4, toks := s3.toks + ([] : List (Str × Value)).length } := by
    refine comp_loop (fun n s' => ∃ i σ' H', Inv (compCx X scope cl N' s3 H3 fp pins) [] σ' H' s' ∧ tn i s'.heap ∧ (∀ b ∈ fp, H' b = none) ∧ W i n σ' H') ?_ m0 ⟨0, _, _, I4, st4, fun b hb => (f3 b hb).1, w0⟩
    rintro n s5 ⟨i, σ5, H5, I5, st5, fr5, w5⟩
    rcases turn i n σ5 H5 w5 with ⟨stop, q⟩ | ⟨go, step⟩
    · refine wpAny_mono (T.done (compCx X scope cl N' s3 H3 fp pins) rfl rfl rfl hc i [] s5 σ5 H5 (fun _ _ => False) I5 (fp5 fr5) st5 stop) (fun r s6 ⟨hr, I6⟩ => ?_) (fun _ _ z => z.elim)
      subst hr
      obtain ⟨m, hm, _⟩ := I6.loc
      exact fin _ _ s6 H5 m hm (fun h' hs' => comp_back I3 f3 I6 hs') I6.free (I3.fpOk (Nat.le_refl _) I6.free) q
    · refine wpAny_mono (T.item (compCx X scope cl N' s3 H3 fp pins) rfl rfl rfl hc i [] s5 σ5 H5 (fun _ _ => False) I5 (fp5 fr5) st5 go) (fun r s6 ⟨u, hr, h6⟩ => ?_) (fun _ _ z => z.elim)
      subst hr
      refine wpAny_mono h6 (fun _ s6 ⟨y, H6, I6, r6, y6, st6, fr6⟩ => ?_) (fun _ _ z => z.elim)
      have I6' := I6.pinned (fp5 fr6) (T.obj _ _ st6)
      have again : ∀ {σ7 : L2.St} {H7 : Hp} {s7 : Shared} {m' : Nat}, Inv (compCx X scope cl N' s3 H3 fp pins) ([] ++ pinsAt fp s6.heap) σ7 H7 s7 → m' < n → W (i + 1) m' σ7 H7 →
          ∃ m, m < n ∧ ∃ i σ' H', Inv (compCx X scope cl N' s3 H3 fp pins) [] σ' H' s7 ∧ tn i s7.heap ∧ (∀ b ∈ fp, H' b = none) ∧ W i m σ' H' := fun {σ7 H7 s7 m'} I7 hm w7 => by
        refine ⟨m', hm, i + 1, σ7, H7, I7.unpinned, T.keep _ _ _ st6 fun b hb o e => (I7.pin (b, o) (List.mem_append_right _ (List.mem_append_right _ (mem_pinsAt hb e)))).1, fun b hb => ?_, w7⟩
        obtain ⟨o, e, d⟩ := T.obj _ _ st6 b hb
        exact (I7.pin (b, o) (List.mem_append_right _ (List.mem_append_right _ (mem_pinsAt hb e)))).2.1
      have step' := step y H6 y6
      refine wpAny_mono (hg s3 H3 fp pins _ s6 σ5 H6 y u _ I6' r6 step') (fun _ s7 ⟨σ7, H7, I7, step'⟩ => ?_) (fun _ _ z => z.elim)
      refine wpAny_mono (ht s3 H3 fp pins _ s7 _ H7 _ (fun _ _ => False) (fun _ _ z => z) I7 step') (fun okk s8 ⟨H8, I8, q8⟩ => ?_) (fun _ _ z => z.elim)
      cases okk with
      | false =>
        obtain ⟨m', hm, w8⟩ := q8
        exact again I8 hm w8
      | true =>
        refine wpAny_mono (he s3 H3 fp pins _ s8 _ H8 _ I8 q8) (fun ev s9 ⟨z, H9, I9, r9, ys, hys, hlen, m', hm, w9⟩ => ?_) (fun _ _ z => z.elim)
        refine wpAny_mono (mt_append (X := compCx X scope cl N' s3 H3 fp pins) _ s9 _ H9 (.ref s2.heap.objs.size) [z] (.ref s2.heap.objs.size) [ev] (fun _ H' => H' = upd H9 s2.heap.objs.size (.lst (ys ++ [z]))) I9 rfl (.cons r9 .nil)
          ⟨_, ys, z, rfl, rfl, hys, hlen, rfl⟩) (fun _ s10 ⟨_, H10, I10, _, e10⟩ => ?_) (fun _ _ z => z.elim)
        subst e10
        exact again I10 hm w9
  exact codeAny_compStart_list loop (T.self X.A 0 _ _ _ st4 loop)
theorem pe_compN (S : CompScopeN X scope cl os js N') (hc : X.calm = true) (hg : ∀ s H fp pins, PG (compCx X scope cl N' s H fp pins) tgt gt) (hi : PI X tgt iter wi)
    (ht : ∀ s H fp pins, PTs (compCx X scope cl N' s H fp pins) ifs tt) (he : ∀ s H fp pins, PE (compCx X scope cl N' s H fp pins) elt te)
    (hs : ∀ x, foldedSetIterable iter X.env x = pure x := by intro _; rfl) : PE X (.ListComp elt [⟨tgt, iter, ifs, 0⟩] scope pos) (tCompN os.length js wi gt tt te) := by
  intro pins s σ H Q I h
  rw [eval_ListComp]
  refine wpAny_comprehension_free (use := none) rfl hs S.clos S.kind S.names (thn (hi pins s σ H _ I h) fun v s1 h1 => thn h1 fun itv s2 h2 => ?_)
  obtain ⟨it, fp, tn, J, H2, e, I2, T, st2, f2, k⟩ := h2
  subst e
  exact compN_core (RR := fun acc C => compPost (model X.prog X.w) X.A X.xe none (EP X pins σ Q) acc C) S hc hg ht he I2 T st2 f2 k fun D C s6 H6 m hm back _ _ q => ⟨m, hm, fun h' hs' => ⟨.ref D, H6, back h' hs', rfl, q⟩⟩

end
namespace B
section
variable {X : Cx} {scope : Scope} {cl : List (Str × Addr)} {tgt : Expr} {N' : List Str} {elt iter c : Expr} {pos : Pos} {wi : TI} {gt : TG} {te : TE} {tc : TT} {os : List Str}
theorem compN (os : List Str) (js : List Nat) (N' : List Str) (S : CompScopeN X scope cl os js N') (hi : Bx (PI X tgt iter wi)) (hg : ∀ s H fp pins, Bx (PG (compCx X scope cl N' s H fp pins) tgt gt)) (he : ∀ s H fp pins, Bx (PE (compCx X scope cl N' s H fp pins) elt te)) (hc : X.calm = true := by rfl)
    (hs : ∀ x, foldedSetIterable iter X.env x = pure x := by intro _; rfl) : Bx (PE X (.ListComp elt [⟨tgt, iter, [], 0⟩] scope pos) (tCompN os.length js wi gt (fun _ H Q => Q true H) te)) :=
  ⟨pe_compN S hc (fun s H fp pins => (hg s H fp pins).out) hi.out (fun _ _ _ _ => pts_nil) (fun s H fp pins => (he s H fp pins).out) hs⟩
theorem compNIf (os : List Str) (js : List Nat) (N' : List Str) (S : CompScopeN X scope cl os js N') (hi : Bx (PI X tgt iter wi)) (hg : ∀ s H fp pins, Bx (PG (compCx X scope cl N' s H fp pins) tgt gt)) (hcc : ∀ s H fp pins, Bx (PT (compCx X scope cl N' s H fp pins) c tc)) (he : ∀ s H fp pins, Bx (PE (compCx X scope cl N' s H fp pins) elt te)) (hc : X.calm = true := by rfl)
    (hs : ∀ x, foldedSetIterable iter X.env x = pure x := by intro _; rfl) : Bx (PE X (.ListComp elt [⟨tgt, iter, [c], 0⟩] scope pos) (tCompN os.length js wi gt tc te)) :=
  ⟨pe_compN S hc (fun s H fp pins => (hg s H fp pins).out) hi.out (fun s H fp pins => pts_one (hcc s H fp pins).out) (fun s H fp pins => (he s H fp pins).out) hs⟩
end
end B
theorem CompScopeN.of {X : Cx} {scope : Scope} {cl : List (Str × Addr)} {os : List Str} {js : List Nat} {N' : List Str} (clos : closureFor scope X.env = pure cl) (kind : scope.kind = .function) (nocell : scope.names.all (fun y => y.2 != .cell) = true)
    (names : scope.names.all (fun y => y.2 != .local || scope.names.lookup y.1 == some .local) = true) (sub : SubCl X.env.cells cl)
    (has : (relabel scope X.env).names.all (fun p => !isCF (some p.2) || (cl.lookup p.1).isSome) = true) (nm : N' = os ++ js.map fun j => X.N.getD j Str.empty)
    (see : js.all (fun j => match X.N[j]? with | some y => isCF (X.env.kindOf y) && isCF ((relabel scope X.env).names.lookup y) | none => false) = true) : CompScopeN X scope cl os js N' where
  clos := clos
  kind := kind
  nocell := fun y hy => by
    have := List.all_eq_true.mp nocell y hy
    exact bne_iff_ne.mp this
  names := fun y hy e => by
    have := List.all_eq_true.mp names y hy
    rw [e] at this
    exact beq_iff_eq.mp (by simpa using this)
  sub := sub.all
  has := fun y h => by
    have go : ∀ k, (relabel scope X.env).names.lookup y = some k → isCF (some k) = true → ∃ c, cl.lookup y = some c := fun k hk hc => by
      have := List.all_eq_true.mp has (y, k) (PySem.mem_of_lookup hk)
      simp only [hc, Bool.not_true, Bool.false_or] at this
      exact Option.isSome_iff_exists.mp this
    rcases h with h | h
    · exact go _ h rfl
    · exact go _ h rfl
  nm := nm
  see := fun i j e => by
    have := List.all_eq_true.mp see j (List.mem_of_getElem? e)
    cases ey : X.N[j]? with
    | none => rw [ey] at this; cases this
    | some y =>
      rw [ey] at this
      rw [Bool.and_eq_true] at this
      exact ⟨y, rfl, isCF_of this.1, isCF_of this.2⟩
theorem wCompN {n : Nat} {σ : L2.St} {H : Hp} {Q : VK} {js : List Nat} {wi : TI} {gt : TG} {tt : TT} {te : TE} (h : wi σ H fun J H1 => ∀ D, H1 D = none → ∃ W : Nat → Nat → L2.St → Hp → Prop, (∃ m, W 0 m (seenN n σ js) (upd H1 D (.lst []))) ∧
  ∀ i m σ' H', W i m σ' H' → (J.stop i H' ∧ Q (.ref D) H') ∨ (J.go i H' ∧ ∀ x H2, J.yld i H' x H2 → gt x σ' H2 fun σ2 H2' => tt σ2 H2' fun ok H3 =>
    if ok = true then te σ2 H3 fun y H4 => ∃ ys, H4 D = some (.lst ys) ∧ ys.length < sizeLine ∧ ∃ m', m' < m ∧ W (i + 1) m' σ2 (upd H4 D (.lst (ys ++ [y])))
    else ∃ m', m' < m ∧ W (i + 1) m' σ2 H3)) : tCompN n js wi gt tt te σ H Q := h
end SW
namespace SW
open PySem PySem.Spec PyProof.Rows L2
namespace B
theorem gtupK (K : PySem.W.Frag) {X : Cx} {es : List Expr} {pos : Pos} {kk n : Nat} {u : TGs} (h : Bx (PGs X es u)) (hK : X.K = K := by rfl) (hc : X.calm = true := by rfl) (hn : (assignEach es X.env).length = n := by rfl) (hst : (assignEach es X.env).findIdx? (·.1) = none := by rfl) : Bx (PG X (.Tuple es kk pos) (gTup K n u)) := by
  subst hK
  exact ⟨pg_tup hc h.out hn hst⟩
end B
end SW

set_option Elab.async false
set_option linter.all false
set_option maxRecDepth 100000
namespace SW
open PySem PySem.Spec PyProof.Rows L2
theorem wSeqC {D : Ends} {σ : L2.St} {H : Hp} {t u : TS} (h : ∀ N : L2.St → Hp → Prop, N = u D → t { D with nx := N } σ H) : tSeq t u D σ H := h _ rfl
theorem wGo {N N' : L2.St → Hp → Prop} {σ : L2.St} {H : Hp} (e : N = N') (h : N' σ H) : N σ H := e ▸ h
end SW
namespace SW
open PySem PySem.Spec PyProof.Rows L2
@[elab_as_elim] theorem len0 {α : Type} {P : List α → Prop} (us : List α) (hl : us.length = 0) (h : Unit → P []) : P us := by
  cases us with
  | nil => exact h ()
  | cons a l => cases hl
@[elab_as_elim] theorem len1 {α : Type} {P : List α → Prop} (us : List α) (hl : us.length = 1) (h : ∀ a, P [a]) : P us := by
  cases us with
  | nil => cases hl
  | cons a l => exact len0 (P := fun l => P (a :: l)) l (Nat.succ.inj hl) fun _ => h a
@[elab_as_elim] theorem len2 {α : Type} {P : List α → Prop} (us : List α) (hl : us.length = 2) (h : ∀ a b, P [a, b]) : P us := by
  cases us with
  | nil => cases hl
  | cons a l => exact len1 (P := fun l => P (a :: l)) l (Nat.succ.inj hl) fun b => h a b
@[elab_as_elim] theorem len3 {α : Type} {P : List α → Prop} (us : List α) (hl : us.length = 3) (h : ∀ a b c, P [a, b, c]) : P us := by
  cases us with
  | nil => cases hl
  | cons a l => exact len2 (P := fun l => P (a :: l)) l (Nat.succ.inj hl) fun b c => h a b c
@[elab_as_elim] theorem len4 {α : Type} {P : List α → Prop} (us : List α) (hl : us.length = 4) (h : ∀ a b c d, P [a, b, c, d]) : P us := by
  cases us with
  | nil => cases hl
  | cons a l => exact len3 (P := fun l => P (a :: l)) l (Nat.succ.inj hl) fun b c d => h a b c d
@[elab_as_elim] theorem len5 {α : Type} {P : List α → Prop} (us : List α) (hl : us.length = 5) (h : ∀ a b c d e, P [a, b, c, d, e]) : P us := by
  cases us with
  | nil => cases hl
  | cons a l => exact len4 (P := fun l => P (a :: l)) l (Nat.succ.inj hl) fun b c d e => h a b c d e
theorem walkX {q : Program} {loose : List Str} {XP : (Str → Option Value) → Heap → Prop} {K : Params → PySem.W.Frag} {as : List Addr} {n t : Nat} {r : PySem.W.RowW} {d : DefRec} {kwd : List (Str × Expr)} {run : Value → List Value → Sem Value}
    (e : ∀ P, as = (K P).map (·.1)) (h : PySem.W.WalkO q loose XP (PySem.W.InK K) r d kwd run) : PySem.W.WalkX q loose XP (PySem.W.X.obsZ as) (PySem.W.X.valZ K n t) r d kwd run :=
  fun w s₀ s₁ mg mb G y a o pm cd doc dV kV ho hd hcd hD hmg hg args vals as' L hpre => h w s₀ s₁ mg mb G (PySem.W.InK.keeps w _ _ (PySem.W.X.z_facts e y).2.1 (PySem.W.Laid.keeps L)) a o pm cd doc dV kV ho hd hcd hD hmg hg args vals as' hpre
noncomputable def Cut (M : L2.St → Hp → Prop) (G : (L2.St → Hp → Prop) → Prop) : Prop := ∀ N, N = M → G N
theorem wCut {M : L2.St → Hp → Prop} {G : (L2.St → Hp → Prop) → Prop} (h : ∀ N, N = M → G N) : Cut M G := h
theorem forListC {K : PySem.W.Frag} {a : Addr} {xs : List V} {g : TG} {tb : TS} {D : Ends} {σ : L2.St} {H : Hp} (Pv : Nat → L2.St → Hp → Prop) (h0 : Pv 0 σ H) (hl : ∀ i σ H, i ≤ xs.length → Pv i σ H → SqL K H a xs)
    (hs : ∀ i x σ H, xs[i]? = some x → Pv i σ H → Cut (Pv (i + 1)) fun N => g x σ H fun σ2 H2 => tb { D with nx := N, ct := N, bk := D.nx } σ2 H2) (hd : ∀ σ H, Pv xs.length σ H → D.nx σ H) :
    ∃ W : Nat → Nat → L2.St → Hp → Prop, (∃ m, W 0 m σ H) ∧ ∀ i m σ H, W i m σ H →
      ((Itl K a).stop i H ∧ D.nx σ H) ∨ ((Itl K a).go i H ∧ ∃ N : L2.St → Hp → Prop, (∀ σ' H', N σ' H' → ∃ m', m' < m ∧ W (i + 1) m' σ' H') ∧ ∀ x H', (Itl K a).yld i H x H' → g x σ H' fun σ2 H2 => tb { D with nx := N, ct := N, bk := D.nx } σ2 H2) :=
  for_list Pv h0 hl (fun i x σ H e p => hs i x σ H e p _ rfl) hd
theorem forRangeC {lo : Int} {n : Nat} {g : TG} {tb : TS} {D : Ends} {σ : L2.St} {H : Hp} (Pv : Nat → L2.St → Hp → Prop) (h0 : Pv 0 σ H)
    (hs : ∀ i σ H, i < n → Pv i σ H → Cut (Pv (i + 1)) fun N => g (.int (lo + i)) σ H fun σ2 H2 => tb { D with nx := N, ct := N, bk := D.nx } σ2 H2) (hd : ∀ σ H, Pv n σ H → D.nx σ H) :
    ∃ W : Nat → Nat → L2.St → Hp → Prop, (∃ m, W 0 m σ H) ∧ ∀ i m σ H, W i m σ H →
      ((Itr lo n).stop i H ∧ D.nx σ H) ∨ ((Itr lo n).go i H ∧ ∃ N : L2.St → Hp → Prop, (∀ σ' H', N σ' H' → ∃ m', m' < m ∧ W (i + 1) m' σ' H') ∧ ∀ x H', (Itr lo n).yld i H x H' → g x σ H' fun σ2 H2 => tb { D with nx := N, ct := N, bk := D.nx } σ2 H2) :=
  for_range Pv h0 (fun i σ H e p => hs i σ H e p _ rfl) hd
section
variable {K : PySem.W.Frag} {H : Hp} {p C dx : Addr} {fs : List (Str × V)} {v : V} {f : Str}
theorem iFld {R : Addr → Addr → V → Prop} (hp : H p = some (.ins C dx fs)) (hc : Cls K C) (hn : NoAttr K C f) (hl : fs.lookup f = some v) (h : R p C v) : ∃ a C dx fs v, V.ref p = .ref a ∧ H a = some (.ins C dx fs) ∧ Cls K C ∧ NoAttr K C f ∧ fs.lookup f = some v ∧ R a C v := ⟨p, C, dx, fs, v, rfl, hp, hc, hn, hl, h⟩
theorem iSFld {R : Addr → Addr → Addr → List (Str × V) → Prop} (hp : H p = some (.ins C dx fs)) (hc : Cls K C) (hn : NoAttr K C f) (hl : fs.length < 1000) (h : R p C dx fs) : ∃ a C dx fs, V.ref p = .ref a ∧ H a = some (.ins C dx fs) ∧ Cls K C ∧ NoAttr K C f ∧ fs.length < 1000 ∧ R a C dx fs := ⟨p, C, dx, fs, rfl, hp, hc, hn, hl, h⟩
theorem iIsi {x : V} {T : String} {t : Value} {b : Bool} {R : Bool → Prop} (ty : TyOf K H x t) (e : PySem.W.kitOne K t (.type T) = some b) (h : R b) : ∃ x' T' t' b', [x, V.ty T] = [x', V.ty T'] ∧ TyOf K H x' t' ∧ PySem.W.kitOne K t' (.type T') = some b' ∧ R b' := ⟨x, T, t, b, rfl, ty, e, h⟩
theorem iLen {l : Addr} {ys : List V} {R : List V → Prop} (h1 : SqL K H l ys ∨ SqT K H l ys) (h : R ys) : ∃ p ys, [V.ref l] = [V.ref p] ∧ (SqL K H p ys ∨ SqT K H p ys) ∧ R ys := ⟨l, ys, rfl, h1, h⟩
end
section
variable {CS CT : Addr} {H : Hp} {Q : VK} {E : XK} {p : Addr} {k f m : Int} {pc : Nat} {M : MT} {tc : Int} {F : Addr → Prop}
end
end SW

set_option Elab.async false
set_option linter.all false
set_option maxRecDepth 100000
namespace SW
open PySem PySem.Spec PyProof.Rows L2
noncomputable def Ite (K : PySem.W.Frag) (l : Addr) : It :=
  ⟨fun i H => ∃ xs x, SqL K H l xs ∧ xs[i]? = some x,
   fun i H v H' => ∃ T x, H T = none ∧ v = .ref T ∧ (∀ xs, SqL K H l xs → xs[i]? = some x) ∧ H' = upd H T (.tup [.int i, x]),
   fun i H => ∃ xs, SqL K H l xs ∧ xs.length ≤ i⟩
theorem turn_enum {P : Program} {w : World} {K : PySem.W.Frag} {elts : List Expr} {k : Nat} {pos : Pos} (l e it : Addr) (hne : e ≠ it) : Turn P w K (.Tuple elts k pos) (Ite K l) [e, it] e
    (fun i h => (∃ old, IsEnum h e it ((i : Nat) : Int) old) ∧ h.IsListIter it l i) where
  mem := by simp
  obj := fun i h st b hb => by
    obtain ⟨⟨old, s1⟩, ⟨o1, e1, c1, d1⟩⟩ := st
    simp only [List.mem_cons, List.not_mem_nil, or_false] at hb
    rcases hb with rfl | rfl
    · exact ⟨_, s1, fun v q => by cases q⟩
    · exact ⟨_, e1, fun v q => by rw [d1] at q; cases q⟩
  keep := fun i h h' st kk => by
    obtain ⟨⟨old, s1⟩, s4⟩ := st
    exact ⟨⟨old, kk e (by simp) _ s1⟩, s4.at fun o g => kk it (by simp) o g⟩
  item := by
    intro X hP hw hK hc i pins s σ H E I hf st hg
    subst hP hw hK
    obtain ⟨xs, x, hl, hx⟩ := hg
    obtain ⟨⟨old, s1⟩, s4⟩ := st
    obtain ⟨its1, rv1, p1, hz1⟩ := I.list hl
    obtain ⟨u1, hu1, ru1⟩ := rv1.get hx
    refine wpAny_pyNext_enum_item s1 s4 p1.isList (x := u1) (by simpa using hu1) hne fun h1 a1 a4 a5 a6 kk => ?_
    refine ⟨_, rfl, wpAny_letOwnedTupleGo_enum a1 fun h2 b1 sb => ?_⟩
    have ezT : s.heap.objs.size ≠ e := Nat.ne_of_gt (Heap.lt_size s1)
    have g5 : h2.get? s.heap.objs.size = some { cls := .type "tuple", data := .seq #[.int i s.toks, u1] } := sb.extBut _ _ ezT a5
    have keep2 : ∀ b u, b ∉ [e, it] → s.heap.get? b = some u → h2.get? b = some u := fun b u hb g => by
      simp only [List.mem_cons, List.not_mem_nil, or_false, not_or] at hb
      exact sb.extBut _ _ hb.1 (kk b u hb.1 hb.2 g)
    have I2 := Inv.turnedNew (t' := s.toks + 1) (h' := h2) (a := s.heap.objs.size) (o := .tup [.int i, x]) I keep2 hf (Nat.le_refl _)
      ⟨by show (2 : Nat) ≤ sizeLine; decide, [.int i s.toks, u1], .cons ⟨_, rfl⟩ (.cons ru1 .nil), _, g5, rfl, _, rfl⟩
    refine ⟨.ref s.heap.objs.size, _, I2, rfl, ⟨_, x, I.hok.fresh (Nat.le_refl _), rfl, fun zs hz => by rw [I.list_inj hz hl]; exact hx, rfl⟩, ⟨⟨_, b1⟩, a4.extBut sb.extBut hne.symm⟩, fun b hb => ?_⟩
    rw [upd_ne ?_]
    · exact (hf b hb).1
    · obtain ⟨o1, e1, _⟩ := s4
      simp only [List.mem_cons, List.not_mem_nil, or_false] at hb
      rcases hb with rfl | rfl
      · exact Nat.ne_of_lt (Heap.lt_size s1)
      · exact Nat.ne_of_lt (Heap.lt_size e1)
  done := by
    intro X hP hw hK hc i pins s σ H E I hf st hg
    subst hP hw hK
    obtain ⟨xs, hl, hx⟩ := hg
    obtain ⟨⟨old, s1⟩, s4⟩ := st
    obtain ⟨its1, rv1, p1, hz1⟩ := I.list hl
    have l1 := rv1.length
    refine wpAny_pyNext_enum_end (I.ok.hd hc) s1 s4 p1.isList (by simp; omega) fun h1 kk => ⟨rfl, Inv.turnedL (t' := s.toks) I (fun b u hb g => ?_) hf⟩
    simp only [List.mem_cons, List.not_mem_nil, or_false, not_or] at hb
    exact kk b u hb.2 g
  self := fun _ _ _ _ _ st h => by
    obtain ⟨⟨old, s1⟩, _⟩ := st
    exact wpAny_pyIter_enum s1 h
theorem b_enumerate : bootBuiltins "enumerate" = some (.type "enumerate") := by decide +kernel
section
variable {X : Cx} {elts : List Expr} {k : Nat} {tp : Pos}
noncomputable def iEnum (K : PySem.W.Frag) (ta : TA) : TI := fun σ H R => ta σ H fun vs H1 => ∃ l, vs = [.ref l] ∧ (∃ xs, SqL K H1 l xs) ∧ R (Ite K l) H1
theorem pi_enum {a : Expr} {ta : TA} {p pos : Pos} (hg : Gl X "enumerate") (hm : X.mg "enumerate" = none) (ha : PA X [a] ta) (hs : starEach [a] X.env = [(false, eval a X.env)]) :
    PI X (.Tuple elts k tp) (.Call (.Name "enumerate" p) [a] [] pos) (iEnum X.K ta) := by
  intro pins s σ H R I h
  refine Call_ (ld_blt I hg hm b_enumerate (PyProof.Rows.callWith_type1 (thn (ha pos pins s σ H _ I h) fun us s1 ⟨vs, H1, I1, r1, q1⟩ => ?_) hs rfl))
  obtain ⟨l, e, ⟨xs, hl⟩, q⟩ := q1
  subst e
  obtain ⟨u, rfl, ru⟩ := vals1 r1
  cases ru
  obtain ⟨its1, rv1, p1, _⟩ := I1.list hl
  refine call_enumerate_list p1.isList fun h' he hit hsz hk => wpAny_pyIter_enum he ?_
  refine ⟨s1.heap.objs.size + 1, [s1.heap.objs.size + 1, s1.heap.objs.size], _, _, H1, rfl, I1.kept (t' := s1.toks) hk, turn_enum l _ _ (Nat.succ_ne_self _), ⟨⟨_, he⟩, hit⟩, fun b hb => ?_, q⟩
  have hb' : s1.heap.objs.size ≤ b := by
    simp only [List.mem_cons, List.not_mem_nil, or_false] at hb
    rcases hb with rfl | rfl
    · exact Nat.le_add_right _ 1
    · exact Nat.le_refl _
  exact I1.fpOk hb' (I1.hok.fresh hb')
end
namespace B
theorem ienum {X : Cx} {elts : List Expr} {k : Nat} {tp : Pos} {a : Expr} {t : TA} {p pos : Pos} (hm : X.mg "enumerate" = none) (ha : Bx (PA X [a] t)) (hg : Gl X "enumerate" := by rfl) (h1 : plainE a = true := by rfl) : Bx (PI X (.Tuple elts k tp) (.Call (.Name "enumerate" p) [a] [] pos) (iEnum X.K t)) :=
  ⟨pi_enum hg hm ha.out (by rw [star_of h1]; rfl)⟩
end B
theorem wEnum {K : PySem.W.Frag} {σ : L2.St} {H : Hp} {ta : TA} {R : It → Hp → Prop} (h : ta σ H fun vs H1 => ∃ l, vs = [.ref l] ∧ (∃ xs, SqL K H1 l xs) ∧ R (Ite K l) H1) : iEnum K ta σ H R := h
theorem for_enum {K : PySem.W.Frag} {l : Addr} {xs : List V} {g : TG} {tb : TS} {D : Ends} {σ : L2.St} {H : Hp} (Pv : Nat → L2.St → Hp → Prop) (h0 : Pv 0 σ H) (hl : ∀ i σ H, Pv i σ H → SqL K H l xs)
    (hs : ∀ i x σ H T, xs[i]? = some x → H T = none → Pv i σ H → g (.ref T) σ (upd H T (.tup [.int i, x])) fun σ2 H2 => tb { D with nx := Pv (i + 1), ct := Pv (i + 1), bk := D.nx } σ2 H2) (hd : ∀ σ H, Pv xs.length σ H → D.nx σ H) :
    ∃ W : Nat → Nat → L2.St → Hp → Prop, (∃ m, W 0 m σ H) ∧ ∀ i m σ H, W i m σ H →
      ((Ite K l).stop i H ∧ D.nx σ H) ∨ ((Ite K l).go i H ∧ ∃ N : L2.St → Hp → Prop, (∀ σ' H', N σ' H' → ∃ m', m' < m ∧ W (i + 1) m' σ' H') ∧ ∀ x H', (Ite K l).yld i H x H' → g x σ H' fun σ2 H2 => tb { D with nx := N, ct := N, bk := D.nx } σ2 H2) := by
  refine ⟨fun i m σ H => m = xs.length - i ∧ i ≤ xs.length ∧ Pv i σ H, ⟨xs.length, by simp, Nat.zero_le _, h0⟩, ?_⟩
  rintro i m σ H ⟨rfl, hi, p⟩
  have q := hl i σ H p
  by_cases hlt : i < xs.length
  · refine .inr ⟨⟨xs, xs[i], q, by simp [hlt]⟩, Pv (i + 1), fun σ' H' p' => ⟨xs.length - (i + 1), by omega, rfl, hlt, p'⟩, fun v H' y => ?_⟩
    obtain ⟨T, x, hT, rfl, hx, rfl⟩ := y
    exact hs i x σ H T (hx xs q) hT p
  · have e : i = xs.length := by omega
    subst e
    exact .inl ⟨⟨xs, q, Nat.le_refl _⟩, hd _ _ p⟩
theorem walks_list {prog : Program} {w : World} {A : Around} (hh : A.handled = none) (I l : Addr) (hne : l ≠ I) (items : Array Value) : Walks prog w A I [I, l] [I] items.size (fun i v => items[i]? = some v) (fun i h => h.IsListIter I l i ∧ h.IsList l items) where
  sub := by simp
  frame := fun i h h' st k => ⟨st.1.at fun o e => k I (by simp) o e, st.2.at fun o e => k l (by simp) o e⟩
  item := fun i s Q E hi st hQ => by
    refine wpAny_pyNext_list_item st.1 st.2 (x := items[i]) (by simp [hi]) fun h' a sb => ?_
    exact hQ items[i] h' s.toks (by simp [hi]) ⟨a, st.2.extBut sb.extBut hne⟩ fun b o hb e => sb.extBut b o (fun z => hb (by simp [z])) e
  done := fun s Q E st hQ => by
    refine wpAny_pyNext_list_end hh st.1 st.2 (by simp) fun h' kk => ?_
    exact hQ h' s.toks fun b o hb e => kk b o (fun z => hb (by simp [z])) e
  self := fun i s Q E st hQ => wpAny_pyIter_listiter st.1 hQ
theorem all_getD : ∀ bs : List Bool, (List.range bs.length).all (fun i => bs.getD i false) = bs.all id
  | [] => rfl
  | b :: bs => by
    rw [List.length_cons, List.range_succ_eq_map, List.all_cons, List.all_map, List.all_cons]
    congr 1
    exact all_getD bs
theorem b_all : bootBuiltins "all" = some (.builtin "all") := by decide +kernel
theorem call_allL {X : Cx} : CallR X (.builtin "all") (fun xs H Q => ∃ l bs, xs = [.ref l] ∧ SqL X.K H l (List.map V.bl bs) ∧ X.calm = true ∧ Q (.bl (List.all bs id)) H) := by
  intro pins s σ H xs us Q I r h
  obtain ⟨l, bs, rfl, hl, hc, q⟩ := h
  obtain ⟨u, rfl, rx⟩ := vals1 r
  cases rx
  obtain ⟨its, rv, pl, _⟩ := I.list hl
  have le := rv.length
  rw [List.length_map] at le
  have hv : ∀ (i : Nat) v, its[i]? = some v → v = .bool (bs.getD i false) := fun i v e => by
    have hi : i < its.length := (List.getElem?_eq_some_iff.mp e).1
    obtain ⟨u, hu, ru⟩ := rv.get (i := i) (x := V.bl bs[i]) (by simp [le ▸ hi])
    rw [e] at hu
    cases hu
    rw [show v = Value.bool bs[i] from ru, List.getD_eq_getElem?_getD, List.getElem?_eq_getElem (by omega)]
    rfl
  have lt : l < s.heap.objs.size := by
    obtain ⟨o, e, _⟩ := pl.isList
    exact Heap.lt_size e
  have W := walks_list (prog := X.prog) (w := X.w) (A := X.A.in1) (show X.A.in1.handled = none from I.ok.hd hc) s.heap.objs.size l (Nat.ne_of_lt lt) its.toArray
  refine call_all_walk (wpAny_pyIter_list pl.isList ⟨_, _, _, _, _, _, fun i => bs.getD i false, rfl, W, And.intro ?_ ?_, ?_, fun h' tk hk => ?_⟩)
  · exact ⟨_, Heap.get?_push_size _ rfl, rfl, rfl⟩
  · exact pl.isList.push _
  · intro i v s' Q' E' hp hq
    rw [hv i v (by simpa using hp)]
    exact wpAny_truthy_bool hq
  · have ea : (List.range its.toArray.size).all (fun i => bs.getD i false) = bs.all id := by
      rw [List.size_toArray, ← le]
      exact all_getD bs
    rw [ea]
    refine ⟨.bl (bs.all id), H, I.kept (t' := tk) (fun b o e => hk b o (fun z => ?_) (Heap.get?_push_of_some _ e)), rfl, q⟩
    rw [List.mem_singleton] at z
    subst z
    exact absurd (Heap.lt_size e) (Nat.lt_irrefl _)
end SW

set_option Elab.async false
set_option linter.all false
set_option maxRecDepth 100000
namespace SW
open PySem PySem.Spec PyProof.Rows L2
theorem b_dict : bootBuiltins "dict" = some (.type "dict") := by decide +kernel
theorem b_sorted : bootBuiltins "sorted" = some (.builtin "sorted") := by decide +kernel
theorem call_dictD {X : Cx} : CallR X (.type "dict") (fun xs H Q => ∃ a kvs, xs = [.ref a] ∧ H a = some (.dK kvs) ∧ ∀ p, H p = none → Q (.ref p) (upd H p (.dK kvs))) := by
  intro pins s σ H xs us Q I r h
  obtain ⟨a, kvs, rfl, ha, q⟩ := h
  obtain ⟨u, rfl, rx⟩ := vals1 r
  cases rx
  exact d_copyOf I (.inl ha) fun p s' hp I' => ⟨.ref p, _, I', rfl, q p hp⟩
section
variable {prog : Program} {w : World} {A : Around} {E : Value → Shared → Prop} {s : Shared} {T : String} {r d : Addr} {n : Nat} {P : Nat → Value → Prop} {OK : Heap → Prop}
theorem collect_code {R : Result → Shared → Prop} (K : PySem.W.KdlSrc prog w T r d n P OK) (hh : A.handled = none) (hok : OK s.heap) (hn : n ≤ sizeLine)
    (hR : ∀ h' tk acc' c', (∀ b o, s.heap.get? b = some o → h'.get? b = some o) → h'.get? s.heap.objs.size = some { cls := .type "list", dict := none, data := .seq acc' c', slots := #[] } → ItemsOf P acc' n → R (.ok (.ret (.ref s.heap.objs.size))) { s with heap := h', toks := tk }) :
    codeAny (model prog w) A (.builtin "proto.collect" ⟨[.ref r], []⟩) R s := by
  have hlt := K.there _ hok
  refine codeAny_builtin PySem.F.entry_proto_collect ?_
  rw [Around.under_plainId PySem.F.plain_proto_collect _]
  show wpAny _ A.in1 (newList [] >>= fun l => again (.builtin "list.__iadd__" ⟨[l, .ref r], []⟩)) _ _ s
  refine wpAny_bind (wpAny_newObj_type ?_)
  refine wpAny_pure ⟨plainId_quiet PySem.F.plain_list_iadd _, codeAny_builtin PySem.F.entry_list_iadd ?_⟩
  rw [Around.under_plainId PySem.F.plain_list_iadd _]
  have hS₁ : (s.heap.push { cls := .type "list", data := .seq ([] : List Value).toArray }).get? s.heap.objs.size = some { cls := .type "list", data := .seq ([] : List Value).toArray } := Heap.get?_push_size _ rfl
  exact PySem.W.kdl_extend (A := A) (R := R) (s := { s with heap := s.heap.push { cls := .type "list", data := .seq ([] : List Value).toArray } }) K hh (K.keep _ _ hok fun b _ o e => Heap.get?_push_of_some _ e) _ (Nat.ne_of_gt hlt.1) (Nat.ne_of_gt hlt.2) (.ref s.heap.objs.size) _ hS₁ (fun h' tk acc' c' hk hS' hacc =>
    hR h' tk acc' c' (fun b o e => hk b o (Nat.ne_of_lt (Heap.lt_size e)) (Heap.get?_push_of_some _ e)) hS' hacc) hn
theorem collect_src {Q : List Value → Shared → Prop} (K : PySem.W.KdlSrc prog w T r d n P OK) (hh : A.handled = none) (hok : OK s.heap) (hn : n ≤ sizeLine)
    (h : ∀ h' tk (acc : Array Value), (∀ b o, s.heap.get? b = some o → h'.get? b = some o) → s.heap.objs.size < h'.objs.size → ItemsOf P acc n → Q acc.toList { s with heap := h', toks := tk }) :
    wpAny (model prog w) A (collect (.ref r)) Q E s := by
  unfold collect
  refine wpAny_bind (wpAny_runValue (collect_code K hh hok hn fun h' tk acc' c' hk hS' hacc => ?_))
  show wpAny _ A (load s.heap.objs.size >>= _) _ _ _
  refine wpAny_bind (wpAny_load hS' ?_)
  exact wpAny_pure (h h' tk acc' hk (Heap.lt_size hS') hacc)
theorem sorted_src {ns : List Int} {Q : Value → Shared → Prop} (K : PySem.W.KdlSrc prog w T r d n P OK) (hh : A.handled = none) (hok : OK s.heap) (hn : n < 64) (hI : ∀ acc : Array Value, ItemsOf P acc n → IntsAre acc.toList ns)
    (h : ∀ h' tk a (out : Array Value) (ns' : List Int) e, (∀ b o, s.heap.get? b = some o → h'.get? b = some o) → s.heap.objs.size ≤ a → h'.get? a = some (seqObj "list" out e) → IntsAre out.toList ns' → ns'.Perm ns → ns'.Pairwise (· ≤ ·) → Q (.ref a) { s with heap := h', toks := tk }) :
    wpAny (model prog w) A (call (.builtin "sorted") [.ref r]) Q E s := by
  refine Calls.call_function_entry kind_sorted plain_sorted entry_sorted (args_sorted1 _) ?_
  unfold Builtin.«sorted»
  refine wpAny_bind (m := checkCount "sorted" 1 1 _) (wpAny_pure ?_)
  refine wpAny_bind (collect_src K hh hok (Nat.le_trans (Nat.le_of_lt hn) (by decide)) fun h' tk acc hk hsz hacc => ?_)
  refine wpAny_bind (wpAny_newList ?_ (by rw [Array.length_toList, hacc.1]; exact Nat.le_trans (Nat.le_of_lt hn) (by decide)))
  have hoL : (h'.push (seqObj "list" acc.toList.toArray 0)).get? h'.objs.size = some (seqObj "list" acc.toList.toArray 0) := Heap.get?_push_size _ rfl
  have hl : acc.toList.length < 64 := by rw [Array.length_toList, hacc.1]; exact hn
  refine wpAny_bind (wpAny_holding (wpAny_call_entry slot_list_sort ⟨_, hoL, rfl⟩ entry_list_sort (list_sort_tree hoL (hI acc hacc) hl fun out ns' a1 a2 a3 => ⟨_, rfl, ?_⟩) (args_list_sort _)))
  obtain ⟨e, he⟩ := sortedHeap_at (out := out) hoL
  refine wpAny_pure ⟨_, rfl, h _ tk h'.objs.size out ns' e (fun b o hb => ?_) (Nat.le_of_lt hsz) he a1 a2 a3⟩
  have hb' := hk b o hb
  have hlt := Heap.lt_size hb'
  rw [sortedHeap_old (Nat.ne_of_lt hlt) (by rw [size_push']; exact Nat.lt_succ_of_lt hlt)]
  exact Heap.get?_push_of_some _ hb'
end
theorem ints_at : ∀ (ns : List Int) (vs : List Value), vs.length = ns.length → (∀ (i : Nat) v, vs[i]? = some v → ∃ n t, ns[i]? = some n ∧ v = .int n t) → IntsAre vs ns
  | [], [], _, _ => .nil
  | [], _ :: _, h, _ => by simp at h
  | _ :: _, [], h, _ => by simp at h
  | n :: ns, v :: vs, h, g => by
    obtain ⟨k, t, e, rfl⟩ := g 0 v rfl
    cases (Option.some.inj e)
    exact .cons n t (ints_at ns vs (by simpa using h) fun i v e => by simpa using g (i + 1) v (by simpa using e))
theorem vals_ints : ∀ {vs : List Value} {ns : List Int}, IntsAre vs ns → Vals (ns.map V.int) vs
  | _, _, .nil => .nil
  | _, _, .cons n t r => .cons ⟨t, rfl⟩ (vals_ints r)
theorem call_sortedD {X : Cx} : CallR X (.builtin "sorted") (fun xs H Q => ∃ (a : Addr) (r : MRow), xs = [.ref a] ∧ H a = some (.dK (kvs r)) ∧ r.length < 64 ∧ X.calm = true ∧ ∀ (p : Addr) (ns : List Int), H p = none → ns.Perm (r.map (·.1)) → ns.Pairwise (· ≤ ·) → Q (.ref p) (upd H p (.lst (ns.map V.int)))) := by
  intro pins s σ H xs us Q I rr h
  obtain ⟨a, r, rfl, ha, hl, hc, q⟩ := h
  obtain ⟨u, rfl, rx⟩ := vals1 rr
  cases rx
  obtain ⟨z, hsys, vs, rel, dd⟩ := dk_rd I.hok (.inl ha)
  obtain ⟨ep, hat⟩ := dd.dictAt
  have lenKV : (kvs r).length = vs.length := Paired.length rel
  rw [kvs_len] at lenKV
  refine sorted_src (ns := r.map (·.1)) (PySem.W.kdl_dict (knd := mixKind X.prog X.w) (kvs := vs) (ep := ep) hsys) (I.ok.hd hc) hat (by omega) (fun acc hacc => ?_) fun h' tk b out ns' e hk hb ho a1 a2 a3 => ?_
  · refine ints_at _ _ (by rw [Array.length_toList, hacc.1, List.length_map]; omega) fun i v e => ?_
    obtain ⟨k, x, e1, e2⟩ := hacc.2 i v (by rw [← Array.getElem?_toList]; exact e)
    obtain ⟨y, e3, _⟩ := kv_get rel e1
    have hi : i < (kvs r).length := (List.getElem?_eq_some_iff.mp e3).1
    rw [kvs_len] at hi
    have e4 : (kvs r)[i]? = some (Sum.inl r[i].1, V.int r[i].2) := by
      unfold kvs
      rw [List.getElem?_map, List.getElem?_eq_getElem hi]
      rfl
    rw [e4] at e3
    cases e3
    rcases keyIs_shape (show keyIs (Sum.inl r[i].1) v = true from e2) with ⟨j, t, e5, rfl⟩ | ⟨x, t, e5, rfl⟩
    · cases e5
      exact ⟨_, t, by rw [List.getElem?_map, List.getElem?_eq_getElem hi]; rfl, rfl⟩
    · cases e5
  · have rv := vals_ints a1
    have hlen : (ns'.map V.int).length ≤ sizeLine := by
      have := a2.length_eq
      rw [List.length_map] at this ⊢
      rw [this]
      exact Nat.le_trans (Nat.le_of_lt hl) (by decide)
    refine ⟨.ref b, _, I.laid (t' := tk) (o := .lst (ns'.map V.int)) hk hb ⟨hlen, out.toList, e, rv, by rw [Array.toArray_toList]; exact ho⟩, rfl, q b ns' (I.hok.fresh hb) a2 a3⟩
section
variable {X : Cx} {e st : Expr} {te ts : TE} {pos p2 : Pos}
noncomputable def tRevL (K : PySem.W.Frag) (te ts : TE) : TE := fun σ H Q => te σ H fun x H1 => ts σ H1 fun y H2 => y = .int (-1) ∧ ∃ a xs, x = .ref a ∧ SqL K H2 a xs ∧ ∀ p, H2 p = none → Q (.ref p) (upd H2 p (.lst xs.reverse))
theorem vals_reverse : ∀ {xs : List V} {us : List Value}, Vals xs us → Vals xs.reverse us.reverse
  | _, _, .nil => .nil
  | _, _, .cons r t => by
    rw [List.reverse_cons, List.reverse_cons]
    exact (vals_reverse t).append (.cons r .nil)
theorem pe_rev (he : PE X e te) (hs : PE X st ts) : PE X (.Subscript e (.Slice none none (some st) p2) pos) (tRevL X.K te ts) := by
  intro pins s σ H Q I h
  refine Subscript_ (thn (he pins s σ H _ I h) fun v s1 zz => ?_)
  obtain ⟨x, H1, I1, r1, q1⟩ := zz
  refine wpAny_Slice ?_
  rw [evalPart_none]
  refine wpAny_pure (wpAny_pure ?_)
  rw [evalPart_some]
  refine thn (hs pins s1 σ H1 _ I1 q1) fun u s3 zz => ?_
  obtain ⟨y, H3, I3, r3, e3, a, xs, ex, hl, q3⟩ := zz
  subst e3 ex
  obtain ⟨t, rfl⟩ := r3
  cases r1
  have I4 : Inv X pins σ H3 { s3 with heap := s3.heap.push { cls := .type "slice", data := .fields #[.none, .none, .int (-1) t] } } := I3.kept (t' := s3.toks) fun b ob q => Heap.get?_push_of_some _ q
  obtain ⟨its, rv, ht, hz⟩ := I4.list hl
  have hlen := rv.length
  have hg : wpAny (model X.prog X.w) X.A (getItem (.ref a) (.ref s3.heap.objs.size)) (EP X pins σ Q) X.xe { s3 with heap := s3.heap.push { cls := .type "slice", data := .fields #[.none, .none, .int (-1) t] } } := by
    refine wpAny_getItem_list_slice ht.isList (Heap.IsSliceOf.new ..) .none .none (.int (-1) t) (by simp) ?_ (by rw [List.size_toArray] <;> omega)
    rw [PySem.W.krv_pick]
    refine ⟨.ref _, _, I4.laid (t' := s3.toks) (o := .lst xs.reverse) (fun b ob q => Heap.get?_push_of_some _ q) (Nat.le_refl _) ?_, rfl, q3 _ (I4.hok.fresh (Nat.le_refl _))⟩
    exact ⟨by rw [List.length_reverse]; exact hz, its.reverse, 0, vals_reverse rv, Heap.get?_push_size _ rfl⟩
  show wpAny (model X.prog X.w) X.A (subscriptTail e (.Slice none none (some st) p2) (.ref a) (.ref s3.heap.objs.size)) (EP X pins σ Q) X.xe _
  exact tail_any (ops := [.ref a, .ref s3.heap.objs.size]) ht.isList.typeIs slot_list_getitem.lookup hg (by with_unfolding_all rfl)
end
theorem B.rev {X : Cx} {e st : Expr} {te ts : TE} {pos p2 : Pos} (he : Bx (PE X e te)) (hs : Bx (PE X st ts)) : Bx (PE X (.Subscript e (.Slice none none (some st) p2) pos) (tRevL X.K te ts)) := ⟨pe_rev he.out hs.out⟩
theorem wRevL {K : PySem.W.Frag} {te ts : TE} {σ : L2.St} {H : Hp} {Q : VK} (h : te σ H fun x H1 => ts σ H1 fun y H2 => y = .int (-1) ∧ ∃ a xs, x = .ref a ∧ SqL K H2 a xs ∧ ∀ p, H2 p = none → Q (.ref p) (upd H2 p (.lst xs.reverse))) : tRevL K te ts σ H Q := h
section
variable {K : PySem.W.Frag} {a D : Addr} {xs : List V} {σ0 : L2.St} {H1 : Hp} {gt : TG} {tt : TT} {te : TE}
theorem comp_tup {Qf : Hp → Prop} (Pv : Nat → L2.St → Hp → Prop) (h0 : Pv 0 σ0 H1) (hl : ∀ i σ H, i ≤ xs.length → Pv i σ H → SqT K H a xs)
    (step : ∀ i x σ' H', xs[i]? = some x → i < xs.length → Pv i σ' H' → tt (σ'.set 0 (some x)) H' fun ok H3 => if ok = true then te (σ'.set 0 (some x)) H3 (fun y H4 => CN Pv xs.length i D (σ'.set 0 (some x)) y H4) else CO Pv xs.length i (σ'.set 0 (some x)) H3)
    (fin : ∀ σ H, Pv xs.length σ H → Qf H) :
    ∃ W : Nat → Nat → L2.St → Hp → Prop, (∃ m, W 0 m σ0 H1) ∧ ∀ i m σ' H', W i m σ' H' → ((Itt K a).stop i H' ∧ Qf H') ∨ ((Itt K a).go i H' ∧ ∀ x H2, (Itt K a).yld i H' x H2 → tt (σ'.set 0 (some x)) H2 fun ok H3 =>
      if ok = true then te (σ'.set 0 (some x)) H3 fun y H4 => ∃ ys, H4 D = some (.lst ys) ∧ ys.length < sizeLine ∧ ∃ m', m' < m ∧ W (i + 1) m' (σ'.set 0 (some x)) (upd H4 D (.lst (ys ++ [y])))
      else ∃ m', m' < m ∧ W (i + 1) m' (σ'.set 0 (some x)) H3) := by
  refine ⟨fun i m σ H => m = xs.length - i ∧ i ≤ xs.length ∧ Pv i σ H, ⟨xs.length, by omega, Nat.zero_le _, h0⟩, ?_⟩
  rintro i m σ' H' ⟨rfl, hi, p⟩
  have q := hl i σ' H' hi p
  by_cases hlt : i < xs.length
  · refine .inr ⟨⟨xs, xs[i], q, by simp [hlt]⟩, fun x H2 y => ?_⟩
    obtain ⟨rfl, y⟩ := y
    exact step i x σ' _ (y xs q) hlt p
  · have e : i = xs.length := by omega
    subst e
    exact .inl ⟨⟨xs, q, Nat.le_refl _⟩, fin _ _ p⟩
theorem comp_tupU {Qf : Hp → Prop} (Pv : Nat → L2.St → Hp → Prop) (h0 : Pv 0 σ0 H1) (hl : ∀ i σ H, i ≤ xs.length → Pv i σ H → SqT K H a xs)
    (step : ∀ i x σ' H', xs[i]? = some x → i < xs.length → Pv i σ' H' → te (σ'.set 0 (some x)) H' (fun y H4 => CN Pv xs.length i D (σ'.set 0 (some x)) y H4))
    (fin : ∀ σ H, Pv xs.length σ H → Qf H) :
    ∃ W : Nat → Nat → L2.St → Hp → Prop, (∃ m, W 0 m σ0 H1) ∧ ∀ i m σ' H', W i m σ' H' → ((Itt K a).stop i H' ∧ Qf H') ∨ ((Itt K a).go i H' ∧ ∀ x H2, (Itt K a).yld i H' x H2 →
      if true = true then te (σ'.set 0 (some x)) H2 fun y H4 => ∃ ys, H4 D = some (.lst ys) ∧ ys.length < sizeLine ∧ ∃ m', m' < m ∧ W (i + 1) m' (σ'.set 0 (some x)) (upd H4 D (.lst (ys ++ [y])))
      else ∃ m', m' < m ∧ W (i + 1) m' (σ'.set 0 (some x)) H2) :=
  comp_tup (tt := fun _ H Q => Q true H) Pv h0 hl (fun i x σ' H' e hi p => iteT (step i x σ' H' e hi p)) fin
theorem compN_tup {Qf : Hp → Prop} (Pv : Nat → L2.St → Hp → Prop) (h0 : Pv 0 σ0 H1) (hl : ∀ i σ H, i ≤ xs.length → Pv i σ H → SqT K H a xs)
    (step : ∀ i x σ' H', xs[i]? = some x → i < xs.length → Pv i σ' H' → gt x σ' H' fun σ2 H2' => tt σ2 H2' fun ok H3 => if ok = true then te σ2 H3 (fun y H4 => CN Pv xs.length i D σ2 y H4) else CO Pv xs.length i σ2 H3)
    (fin : ∀ σ H, Pv xs.length σ H → Qf H) :
    ∃ W : Nat → Nat → L2.St → Hp → Prop, (∃ m, W 0 m σ0 H1) ∧ ∀ i m σ' H', W i m σ' H' → ((Itt K a).stop i H' ∧ Qf H') ∨ ((Itt K a).go i H' ∧ ∀ x H2, (Itt K a).yld i H' x H2 → gt x σ' H2 fun σ2 H2' => tt σ2 H2' fun ok H3 =>
      if ok = true then te σ2 H3 fun y H4 => ∃ ys, H4 D = some (.lst ys) ∧ ys.length < sizeLine ∧ ∃ m', m' < m ∧ W (i + 1) m' σ2 (upd H4 D (.lst (ys ++ [y])))
      else ∃ m', m' < m ∧ W (i + 1) m' σ2 H3) := by
  refine ⟨fun i m σ H => m = xs.length - i ∧ i ≤ xs.length ∧ Pv i σ H, ⟨xs.length, by omega, Nat.zero_le _, h0⟩, ?_⟩
  rintro i m σ' H' ⟨rfl, hi, p⟩
  have q := hl i σ' H' hi p
  by_cases hlt : i < xs.length
  · refine .inr ⟨⟨xs, xs[i], q, by simp [hlt]⟩, fun x H2 y => ?_⟩
    obtain ⟨rfl, y⟩ := y
    exact step i x σ' _ (y xs q) hlt p
  · have e : i = xs.length := by omega
    subst e
    exact .inl ⟨⟨xs, q, Nat.le_refl _⟩, fin _ _ p⟩
end
section
variable {X : Cx}
noncomputable def rCatA : R2 := fun x y H Q => ∃ a b xs ys, x = .ref a ∧ y = .ref b ∧ H a = some (.tup xs) ∧ H b = some (.tup ys) ∧ xs.length + ys.length ≤ sizeLine ∧ ∀ p H', Same H H' → H' p = some (.tup (xs ++ ys)) → Q (.ref p) H'
theorem op_catA : OpR X (binaryOp .Add) rCatA := by
  intro pins s σ H x y v u Q I rx ry h
  obtain ⟨a, b, xs, ys, rfl, rfl, ha, hb, hz, q⟩ := h
  by_cases hx : xs = []
  · subst hx
    cases rx
    cases ry
    obtain ⟨its, r1, p1, _⟩ := I.tuple (SqT.of ha)
    obtain ⟨its2, r2, p2, _⟩ := I.tuple (SqT.of hb)
    obtain ⟨⟨cls, dd, data, sl⟩, ho, hc, n, hd⟩ := id p1
    obtain ⟨⟨cls2, dd2, data2, sl2⟩, ho2, hc2, n2, hd2⟩ := id p2
    simp only at hc hd hc2 hd2
    subst hc hd hc2 hd2
    have e1 : its = [] := r1.nil_iff.mpr rfl
    subst e1
    exact concat_meets ⟨_, ho, rfl⟩ ⟨_, ho2, rfl⟩ noFill_tuple_add seq_tuple_add PySem.F.slot_tuple_add PySem.F.entry_tuple_add (PySem.F.args_tuple_add_2 _ _)
      (tuple_addW0 a b [].toArray its2.toArray n n2 dd dd2 sl sl2 (by simp)) ⟨ho, ho2, ⟨.ref b, H, I, rfl, q b H (fun _ _ e => e) hb⟩⟩
  · exact op_catT pins s σ H _ _ v u Q I rx ry ⟨a, b, xs, ys, rfl, rfl, SqT.of ha, SqT.of hb, hx, hz, fun e => q a H (fun _ _ e => e) (by rw [e, List.append_nil]; exact ha), fun _ p hp => q p _ (Same.new hp) upd_same⟩
noncomputable def rMulB : R2 := rI (fun i j => IntMulOk i j) fun i j => .int (i * j)
theorem op_mulB : OpR X (binaryOp .Mult) rMulB := opI fun _ _ _ _ _ _ _ hc q => mul_int q hc
theorem op_eqLE (hu : X.A.units < cLine) : OpR X (compareOp .Eq) (fun x y H Q => ∃ a b xs, x = .ref a ∧ y = .ref b ∧ SqL X.K H a xs ∧ SqL X.K H b [] ∧ Q (.bl xs.isEmpty) H) := by
  intro pins s σ H x y v u Q I rx ry h
  obtain ⟨a, b, xs, rfl, rfl, ha, hb, q⟩ := h
  cases rx
  cases ry
  obtain ⟨i1, r1, ⟨o1, n1, g1, c1, _, d1⟩, _⟩ := I.list ha
  obtain ⟨i2, r2, ⟨o2, n2, g2, c2, _, d2⟩, _⟩ := I.list hb
  have e2 : i2 = [] := by cases r2; rfl
  subst e2
  cases r1 with
  | nil => exact SeqAt.eq_listAt (items := #[]) (items2 := #[]) (e := fun _ => true) ⟨o1, g1, c1, n1, d1⟩ ⟨o2, g2, c2, n2, d2⟩ rfl hu (fun j h1 _ => absurd h1 (by simp)) ⟨.bl true, H, I, rfl, q⟩
  | cons a b => exact SeqAt.eq_list_lengthsAt ⟨o1, g1, c1, n1, d1⟩ ⟨o2, g2, c2, n2, d2⟩ (by simp) hu ⟨.bl false, H, I, rfl, q⟩
theorem op_eqTE (hu : X.A.units < cLine) : OpR X (compareOp .Eq) (fun x y H Q => ∃ a b xs, x = .ref a ∧ y = .ref b ∧ SqT X.K H a xs ∧ SqT X.K H b [] ∧ Q (.bl xs.isEmpty) H) := by
  intro pins s σ H x y v u Q I rx ry h
  obtain ⟨a, b, xs, rfl, rfl, ha, hb, q⟩ := h
  cases rx
  cases ry
  obtain ⟨i1, r1, t1, _⟩ := I.tuple ha
  obtain ⟨i2, r2, t2, _⟩ := I.tuple hb
  have e2 : i2 = [] := by cases r2; rfl
  subst e2
  have ez : (i1.toArray.size == 0) = xs.isEmpty := by cases r1 <;> rfl
  refine SeqAt.eq_tupleAt (e := fun _ => true) t1 t2 hu (fun j _ h2 => absurd h2 (by simp)) ⟨.bl xs.isEmpty, H, I, ?_, q⟩
  show Value.bool _ = Value.bool _
  rw [← ez]
  simp
end
end SW

set_option Elab.async false
set_option linter.all false
set_option maxRecDepth 100000
namespace SW
open PySem PySem.Spec PyProof.Rows L2
inductive Thing where
  | put (k w : Int) (t : Option Int)
  | look (k : Int) (t : Option Int)
  | cut (k : Int) (t : Option Int)
  | step (c b : Int) (ps : MRow)
noncomputable def ThV (H : Hp) (v : V) : Thing → Prop
  | .put k w t => ∃ u, v = .ref u ∧ H u = some (.tup [.str "put", .int k, .int w, oV t])
  | .look k t => ∃ u, v = .ref u ∧ H u = some (.tup [.str "look", .int k, oV t])
  | .cut k t => ∃ u, v = .ref u ∧ H u = some (.tup [.str "cut", .int k, oV t])
  | .step c b ps => ∃ u q xs, v = .ref u ∧ H u = some (.tup [.str "step", .int c, .int b, .ref q]) ∧ H q = some (.tup xs) ∧ Prs H xs ps
noncomputable abbrev ThVs (H : Hp) (xs : List V) (ths : List Thing) : Prop := Paired (ThV H) xs ths
noncomputable def TK (H H' : Hp) : Prop := ∀ a xs, H a = some (.tup xs) → H' a = some (.tup xs)
theorem Same.tk {H H' : Hp} (s : Same H H') : TK H H' := fun a xs e => s a _ e
theorem KeepBut.tk {p : Addr} {H H' : Hp} {xs : List V} (s : KeepBut p H H') (hp : H p = some (.lst xs)) : TK H H' := fun a ys e => s a _ (ne_of e hp (by intro z; cases z)) e
theorem Fr.tk {F : Addr → Prop} {H H' : Hp} (s : Fr F H H') (h : ∀ b xs, F b → H b ≠ some (.tup xs)) : TK H H' := fun a xs e => s a _ (fun f => h a xs f e) e
theorem ThV.keep {H H' : Hp} {v : V} {th : Thing} (h : ThV H v th) (k : TK H H') : ThV H' v th := by
  cases th with
  | put a b c => obtain ⟨u, e, h⟩ := h; exact ⟨u, e, k _ _ h⟩
  | look a b => obtain ⟨u, e, h⟩ := h; exact ⟨u, e, k _ _ h⟩
  | cut a b => obtain ⟨u, e, h⟩ := h; exact ⟨u, e, k _ _ h⟩
  | step a b c => obtain ⟨u, q, xs, e, h, h1, h2⟩ := h; exact ⟨u, q, xs, e, k _ _ h, k _ _ h1, h2.keep k⟩
theorem ThVs.keep {H H' : Hp} {xs : List V} {ths : List Thing} (h : ThVs H xs ths) (k : TK H H') : ThVs H' xs ths := Paired.mapP h fun _ _ z => z.keep k
theorem paired_len {α β : Type} {F : α → β → Prop} : ∀ {xs : List α} {ys : List β}, Paired F xs ys → xs.length = ys.length
  | _, _, .nil => rfl
  | _, _, .cons _ t => by rw [List.length_cons, List.length_cons, paired_len t]
theorem paired_get {α β : Type} {F : α → β → Prop} : ∀ {xs : List α} {ys : List β} {i : Nat} {v : α}, Paired F xs ys → xs[i]? = some v → ∃ d, ys[i]? = some d ∧ F v d
  | _, _, _, _, .nil, h => by simp at h
  | _, _, 0, v, .cons (b := b) hd _, g => by
    simp at g
    subst g
    exact ⟨b, rfl, hd⟩
  | _, _, i + 1, v, .cons _ t, g => by
    obtain ⟨d, e, h⟩ := paired_get (i := i) t (by simpa using g)
    exact ⟨d, by simpa using e, h⟩
theorem paired_take {α β : Type} {F : α → β → Prop} : ∀ {xs : List α} {ys : List β} (n : Nat), Paired F xs ys → Paired F (xs.take n) (ys.take n)
  | _, _, _, .nil => by rw [List.take_nil, List.take_nil]; exact .nil
  | _, _, 0, .cons _ _ => .nil
  | _, _, n + 1, .cons h t => .cons h (paired_take n t)
theorem paired_drop {α β : Type} {F : α → β → Prop} : ∀ {xs : List α} {ys : List β} (n : Nat), Paired F xs ys → Paired F (xs.drop n) (ys.drop n)
  | _, _, _, .nil => by rw [List.drop_nil, List.drop_nil]; exact .nil
  | _, _, 0, .cons h t => .cons h t
  | _, _, n + 1, .cons _ t => paired_drop n t
theorem paired_append {α β : Type} {F : α → β → Prop} {xs2 : List α} {ys2 : List β} (g : Paired F xs2 ys2) : ∀ {xs : List α} {ys : List β}, Paired F xs ys → Paired F (xs ++ xs2) (ys ++ ys2)
  | _, _, .nil => g
  | _, _, .cons h t => .cons h (paired_append g t)
noncomputable def mayF (b c : Int) : Bool := decide (b = 0) || (decide (0 ≤ b ∧ b ≤ 65535) && decide (c < b))
noncomputable def hasAll (w ps : MRow) : Bool := decide (nDist (ps.map (·.1)) = ps.length) && ps.all fun p => decide (rLook w p.1 = some p.2)
structure LS where
  w : MRow
  c : Int
  o : MRow
noncomputable def cutAll (o ps : MRow) : MRow := ps.foldl (fun o p => rCut o p.1) o
noncomputable def stepOk (L : LS) (c b : Int) (ps : MRow) : Bool := decide (c = L.c) && mayF b c && hasAll L.w ps
noncomputable def owe (L : LS) (c : Int) (ps : MRow) : MRow := cutAll (if c = 0 then L.w else L.o) ps
noncomputable def nextL (L : LS) : Thing → LS
  | .put k w _ => ⟨rPut L.w k w, L.c, L.o⟩
  | .look _ _ => L
  | .cut k _ => ⟨rCut L.w k, L.c, rCut L.o k⟩
  | .step c b ps => if stepOk L c b ps = true then ⟨L.w, b, owe L c ps⟩ else L
noncomputable def agr (L : LS) : Thing → Bool
  | .put k _ t => decide (t = rLook L.w k)
  | .look k t => decide (t = rLook L.w k)
  | .cut k t => decide (t = rLook L.w k)
  | .step c b ps => stepOk L c b ps && (decide (b ≠ 0) || (owe L c ps).isEmpty)
noncomputable def fw : LS → List Thing → Option Nat
  | _, [] => none
  | L, t :: ts => if agr L t = true then (fw (nextL L t) ts).map (· + 1) else some 0
noncomputable def L0 : LS := ⟨[], 0, []⟩
noncomputable def oN : Option Nat → V
  | none => .non
  | some n => .int n
noncomputable def Fit : Thing → Prop
  | .step _ _ ps => ps.length ≤ 1000
  | _ => True
theorem oV_inj {a b : Option Int} : decide (oV a = oV b) = decide (a = b) := by
  cases a <;> cases b <;> simp [oV]
theorem oV_scal (a b : Option Int) : scal (oV a) (oV b) = true := by cases a <;> cases b <;> rfl
theorem cutAll_filter : ∀ (ps o : MRow), cutAll o ps = o.filter fun p => decide (p.1 ∉ ps.map (·.1))
  | [], o => by
    show o = _
    rw [List.filter_eq_self.mpr]
    intro p _
    simp
  | q :: ps, o => by
    show cutAll (rCut o q.1) ps = _
    rw [cutAll_filter ps, rCut, List.filter_filter]
    congr 1
    funext p
    simp only [List.map_cons, List.mem_cons, not_or]
    by_cases h1 : p.1 = q.1 <;> by_cases h2 : p.1 ∈ ps.map (·.1) <;> simp [h1, h2]
theorem cutAll_snoc (o ps : MRow) (q : Int × Int) : cutAll o (ps ++ [q]) = rCut (cutAll o ps) q.1 := by
  unfold cutAll
  rw [List.foldl_append]
  rfl
theorem rCut_le (o : MRow) (k : Int) : (rCut o k).length ≤ o.length := List.length_filter_le ..
theorem dd_len : ∀ (ns acc : List Int), (ns.foldl step_dedup acc).length ≤ acc.length + ns.length
  | [], acc => Nat.le_refl _
  | n :: ns, acc => by
    have := dd_len ns (step_dedup acc n)
    rw [List.foldl_cons, List.length_cons]
    have : (step_dedup acc n).length ≤ acc.length + 1 := by unfold step_dedup; split <;> simp
    omega
theorem dd_iff : ∀ (ns acc : List Int), (ns.foldl step_dedup acc).length = acc.length + ns.length ↔ (ns.Nodup ∧ ∀ n ∈ ns, n ∉ acc)
  | [], acc => by simp
  | n :: ns, acc => by
    rw [List.foldl_cons]
    by_cases h : n ∈ acc
    · have e : step_dedup acc n = acc := by
        unfold step_dedup
        rw [if_pos]
        simpa using h
      rw [e]
      have := dd_len ns acc
      constructor
      · intro z
        rw [List.length_cons] at z
        omega
      · intro z
        exact absurd h (z.2 n (List.mem_cons_self ..))
    · have e : step_dedup acc n = acc ++ [n] := by
        unfold step_dedup
        rw [if_neg]
        simpa using h
      rw [e]
      have ih := dd_iff ns (acc ++ [n])
      rw [List.length_append, List.length_singleton] at ih
      rw [List.length_cons, show acc.length + (ns.length + 1) = acc.length + 1 + ns.length by omega, ih, List.nodup_cons]
      constructor
      · rintro ⟨a, b⟩
        refine ⟨⟨fun z => (b n z) (by simp), a⟩, fun m hm => ?_⟩
        rcases List.mem_cons.mp hm with rfl | hm
        · exact h
        · exact fun z => b m hm (by simp [z])
      · rintro ⟨⟨a, b⟩, c⟩
        refine ⟨b, fun m hm z => ?_⟩
        rcases List.mem_append.mp z with z | z
        · exact c m (List.mem_cons_of_mem _ hm) z
        · rw [List.mem_singleton] at z
          subst z
          exact a hm
theorem range_getD (ns : List Int) : (List.range ns.length).map (fun i => ns.getD i 0) = ns := by
  apply List.ext_getElem?
  intro i
  rw [List.getElem?_map]
  by_cases h : i < ns.length
  · simp [h]
  · simp [h]
theorem nDist_iff (ns : List Int) : nDist ns = ns.length ↔ ns.Nodup := by
  unfold nDist firstMet
  rw [range_getD]
  have := dd_iff ns []
  simpa using this
theorem nDist_le (ns : List Int) : nDist ns ≤ ns.length := by
  unfold nDist firstMet
  rw [range_getD]
  have := dd_len ns []
  simpa using this
theorem hasAll_iff {w ps : MRow} : hasAll w ps = true ↔ (ps.map (·.1)).Nodup ∧ ∀ p ∈ ps, rLook w p.1 = some p.2 := by
  unfold hasAll
  rw [Bool.and_eq_true, decide_eq_true_iff, List.all_eq_true]
  rw [show ps.length = (ps.map (·.1)).length by rw [List.length_map], nDist_iff]
  simp
noncomputable def runL (L : LS) : List Thing → LS
  | [] => L
  | t :: ts => runL (nextL L t) ts
theorem fw_none_append : ∀ (ts us : List Thing) (L : LS), fw L ts = none → fw L (ts ++ us) = (fw (runL L ts) us).map (· + ts.length)
  | [], us, L, _ => by
    show fw L us = (fw L us).map (· + 0)
    cases fw L us <;> rfl
  | t :: ts, us, L, h => by
    unfold fw at h
    by_cases e : agr L t = true
    · rw [if_pos e] at h
      have g : fw (nextL L t) ts = none := by
        cases g : fw (nextL L t) ts with
        | none => rfl
        | some m => rw [g] at h; cases h
      rw [List.cons_append]
      show (if agr L t = true then (fw (nextL L t) (ts ++ us)).map (· + 1) else some 0) = _
      rw [if_pos e, fw_none_append ts us _ g]
      show _ = (fw (runL (nextL L t) ts) us).map (· + (ts.length + 1))
      cases fw (runL (nextL L t) ts) us with
      | none => rfl
      | some n => show some (n + ts.length + 1) = some (n + (ts.length + 1)); congr 1
    · rw [if_neg e] at h
      cases h
theorem fw_some_append : ∀ (ts us : List Thing) (L : LS) (n : Nat), fw L ts = some n → fw L (ts ++ us) = some n
  | [], us, L, n, h => by cases h
  | t :: ts, us, L, n, h => by
    rw [List.cons_append]
    unfold fw at h ⊢
    by_cases e : agr L t = true
    · rw [if_pos e] at h ⊢
      cases g : fw (nextL L t) ts with
      | none => rw [g] at h; cases h
      | some m =>
        rw [g] at h
        rw [fw_some_append ts us _ m g]
        exact h
    · rw [if_neg e] at h ⊢
      exact h
theorem runL_append : ∀ (ts us : List Thing) (L : LS), runL L (ts ++ us) = runL (runL L ts) us
  | [], _, _ => rfl
  | _ :: ts, us, L => runL_append ts us _
end SW

set_option Elab.async false
set_option linter.all false
set_option maxRecDepth 100000
namespace SW
open PySem PySem.Spec PyProof.Rows L2
noncomputable def TP (P : Int → Prop) : Thing → Prop
  | .put k _ _ => P k
  | .look k _ => P k
  | .cut k _ => P k
  | .step _ _ ps => ∀ p ∈ ps, P p.1
theorem rPut_mem {r : MRow} {k v : Int} {p : Int × Int} (h : p ∈ rPut r k v) : p.1 = k ∨ ∃ q ∈ r, p.1 = q.1 := by
  unfold rPut at h
  by_cases e : (rLook r k).isSome = true
  · rw [if_pos e] at h
    obtain ⟨q, hq, rfl⟩ := List.mem_map.mp h
    by_cases z : q.1 = k
    · rw [if_pos z]; exact .inl z
    · rw [if_neg z]; exact .inr ⟨q, hq, rfl⟩
  · rw [if_neg e] at h
    rcases List.mem_append.mp h with z | z
    · exact .inr ⟨p, z, rfl⟩
    · rw [List.mem_singleton] at z
      subst z
      exact .inl rfl
end SW

set_option Elab.async false
set_option linter.all false
set_option maxRecDepth 100000
namespace SW
open PySem PySem.Spec PyProof.Rows L2
namespace B
theorem dget {X : Cx} {o i : Expr} {td ty : TE} {pos : Pos} (hu : X.A.units + 1 < cLine) (ho : Bx (PE X o td)) (hi : Bx (PE X i ty)) (hs : NoSl i := by exact fun _ _ => rfl) : Bx (PE X (.Subscript o i pos) (tDGet td ty)) := ⟨pe_dget hu ho.out hi.out hs⟩
theorem make0 {X : Cx} {C : Addr} {x : Str} {k : Nat} {ps : List Str} {sp : Sp} {p pos : Pos} (M : Mkr X.prog X.w X.K X.mg X.base C x k ps sp) (hr : Room (k + 1) X.A) (hg : Gl X x := by rfl) (hdb : (x == ("__debug__" : Str)) = false := by decide) :
    Bx (PE X (.Call (.Name x p) [] [] pos) (tMake C sp [] E0 tNil)) := by
  obtain ⟨f, fd, G, M, hm, b⟩ := M.ex
  exact ⟨pe_make0 M G hr hg hm b .nil pass0 hdb⟩
end B
theorem op_inK (K : PySem.W.Frag) {X : Cx} (h : X.K = K := by rfl) : OpR X (compareOp .In) (rIn K false) := by subst h; exact op_in_seq
theorem op_notinK (K : PySem.W.Frag) {X : Cx} (h : X.K = K := by rfl) : OpR X (compareOp .NotIn) (rIn K true) := by subst h; exact op_notIn_seq
theorem wDGet {σ : L2.St} {H : Hp} {Q : VK} {td ty : TE} (h : td σ H fun x H1 => ty σ H1 fun y H2 => ∃ a v, x = .ref a ∧ DGet H2 a y (some v) ∧ Q v H2) : tDGet td ty σ H Q := h
noncomputable def Pot (H : Hp) (p : Addr) : Prop := ∃ a b c : Int, H p = some (.lst [.int a, .int b, .int c])
theorem Pot.same {H H' : Hp} {p : Addr} (r : Pot H p) (s : Same H H') : Pot H' p := by
  obtain ⟨a, b, c, h⟩ := r
  exact ⟨a, b, c, s _ _ h⟩
theorem Pot.new {H : Hp} {p q : Addr} {o : HO} (r : Pot H p) (h : H q = none) : Pot (upd H q o) p := r.same (Same.new h)
theorem Pot.ne0 {H : Hp} {p q : Addr} (r : Pot H p) (h : H q = none) : p ≠ q := by
  obtain ⟨a, b, c, e⟩ := r
  exact ne_of_none e h
theorem Pot.neT {H : Hp} {p q : Addr} {xs : List V} (r : Pot H p) (h : H q = some (.tup xs)) : q ≠ p := by
  obtain ⟨a, b, c, e⟩ := r
  exact ne_of h e (by intro z; cases z)
theorem Pot.neD {H : Hp} {p q : Addr} {xs : List (Key × V)} (r : Pot H p) (h : H q = some (.dK xs)) : q ≠ p := by
  obtain ⟨a, b, c, e⟩ := r
  exact ne_of h e (by intro z; cases z)
theorem Pot.neL {H : Hp} {p q : Addr} {xs : List V} (r : Pot H p) (h : H q = some (.lst xs)) (hl : xs.length ≠ 3) : q ≠ p := by
  obtain ⟨a, b, c, e⟩ := r
  refine ne_of h e ?_
  intro z
  injection z with z
  rw [z] at hl
  exact hl rfl
theorem Pot.upd {H : Hp} {p q : Addr} {o : HO} (r : Pot H p) (h : p ≠ q) : Pot (L2.upd H q o) p := by
  obtain ⟨a, b, c, e⟩ := r
  exact ⟨a, b, c, by rw [upd_ne h]; exact e⟩
theorem Pot.tk {H H' : Hp} {p : Addr} (r : Pot H p) (k : KeepBut p H H') : TK H H' := by
  obtain ⟨a, b, c, e⟩ := r
  exact k.tk e
noncomputable def spMixedP : Sp := fun vs H Q _ => ∃ c k : Int, vs = [.int c, .int k] ∧ ∀ r : Int, Q (.int r) H
noncomputable def spPotP : Sp := fun vs H Q _ => ∃ c : Int, vs = [.int c] ∧ ∀ p H', H p = none → Same H H' → Pot H' p → Q (.ref p) H'
noncomputable def spTakeP : Sp := fun vs H Q _ => ∃ (p : Addr) (m : Int), vs = [.ref p, .int m] ∧ 0 < m ∧ m < 18446744073709551616 ∧ Pot H p ∧ ∀ r H', 0 ≤ r → r < m → Pot H' p → KeepBut p H H' → Q (.int r) H'
noncomputable def spWorthP : Sp := fun vs H Q _ => ∃ p : Addr, vs = [.ref p] ∧ Pot H p ∧ ∀ (z : Int) H', Pot H' p → KeepBut p H H' → Q (.int z) H'
section
variable {H : Hp} {Q : VK} {E : XK} {p : Addr}
theorem wMixedP {c k : Int} (h : ∀ r : Int, Q (.int r) H) : spMixedP ([.int c, .int k] ++ []) H Q E := ⟨c, k, rfl, h⟩
theorem wPotP {c : Int} (k : ∀ p H', H p = none → Same H H' → Pot H' p → Q (.ref p) H') : spPotP ([.int c] ++ []) H Q E := ⟨c, rfl, k⟩
theorem wTakeP {m : Int} (hp : Pot H p) (h0 : 0 < m) (h1 : m < 18446744073709551616) (k : ∀ r H', 0 ≤ r → r < m → Pot H' p → KeepBut p H H' → Q (.int r) H') : spTakeP ([.ref p, .int m] ++ []) H Q E := ⟨p, m, rfl, h0, h1, hp, k⟩
theorem wWorthP (hp : Pot H p) (k : ∀ (z : Int) H', Pot H' p → KeepBut p H H' → Q (.int z) H') : spWorthP ([.ref p] ++ []) H Q E := ⟨p, rfl, hp, k⟩
end
structure LsX (C : Addr) (H : Hp) (p : Addr) (L : LS) (wa oa : Addr) : Prop where
  ob : ∃ dx, H p = some (.ins C dx [("worths", .ref wa), ("cursor", .int L.c), ("owed", .ref oa)])
  hw : H wa = some (.dK (kvs L.w))
  ho : H oa = some (.dK (kvs L.o))
  kw : ROk L.w
  ko : ROk L.o
  ne : wa ≠ oa
noncomputable def fp (p wa oa : Addr) : Addr → Prop := fun b => b = p ∨ b = wa ∨ b = oa
theorem LsX.same {C : Addr} {H H' : Hp} {p : Addr} {L : LS} {wa oa : Addr} (X : LsX C H p L wa oa) (s : Same H H') : LsX C H' p L wa oa :=
  ⟨let ⟨dx, e⟩ := X.ob; ⟨dx, s _ _ e⟩, s _ _ X.hw, s _ _ X.ho, X.kw, X.ko, X.ne⟩
theorem LsX.tk {C : Addr} {H H' : Hp} {p : Addr} {L : LS} {wa oa : Addr} (X : LsX C H p L wa oa) (s : Fr (fp p wa oa) H H') : TK H H' := s.tk fun b xs f e => by
  obtain ⟨dx, e1⟩ := X.ob
  rcases f with rfl | rfl | rfl
  · rw [e1] at e; cases e
  · rw [X.hw] at e; cases e
  · rw [X.ho] at e; cases e
noncomputable def spLInit (C : Addr) : Sp := fun vs H Q _ => ∃ (x dx : Addr), vs = [.ref x] ∧ H x = some (.ins C dx []) ∧ ∀ H' wa oa, LsX C H' x L0 wa oa → H wa = none → H oa = none → (∀ b o, b ≠ x → H b = some o → H' b = some o) → Q .non H'
noncomputable def spMayF : Sp := fun vs H Q _ => ∃ b c : Int, vs = [.int b, .int c] ∧ Q (.bl (mayF b c)) H
noncomputable def spHasAll (C : Addr) : Sp := fun vs H Q _ => ∃ (p q wa oa : Addr) (L : LS) (xs : List V) (ps : MRow), vs = [.ref p, .ref q] ∧ LsX C H p L wa oa ∧ H q = some (.tup xs) ∧ Prs H xs ps ∧ ps.length ≤ 1000 ∧ ∀ H', Same H H' → Q (.bl (hasAll L.w ps)) H'
noncomputable def spStepA (C : Addr) : Sp := fun vs H Q _ => ∃ (p q wa oa : Addr) (c b : Int) (L : LS) (xs : List V) (ps : MRow), vs = [.ref p, .int c, .int b, .ref q] ∧ LsX C H p L wa oa ∧ H q = some (.tup xs) ∧ Prs H xs ps ∧ ps.length ≤ 1000 ∧ L.w.length ≤ 1000 ∧
  ∀ H' oa', LsX C H' p (nextL L (.step c b ps)) wa oa' → (oa' = oa ∨ H oa' = none) → Fr (fp p wa oa) H H' → Q (.bl (agr L (.step c b ps))) H'
noncomputable def isDeed : Thing → Bool
  | .step _ _ _ => false
  | _ => true
noncomputable def spDeedA (C : Addr) : Sp := fun vs H Q _ => ∃ (p wa oa : Addr) (v : V) (L : LS) (th : Thing), vs = [.ref p, v] ∧ LsX C H p L wa oa ∧ ThV H v th ∧ isDeed th = true ∧ L.w.length ≤ 1000 ∧
  ∀ H' oa', LsX C H' p (nextL L th) wa oa' → (oa' = oa ∨ H oa' = none) → Fr (fp p wa oa) H H' → Q (.bl (agr L th)) H'
noncomputable def spAgrees (C : Addr) : Sp := fun vs H Q _ => ∃ (p wa oa : Addr) (v : V) (L : LS) (th : Thing), vs = [.ref p, v] ∧ LsX C H p L wa oa ∧ ThV H v th ∧ Fit th ∧ L.w.length ≤ 1000 ∧
  ∀ H' oa', LsX C H' p (nextL L th) wa oa' → (oa' = oa ∨ H oa' = none) → Fr (fp p wa oa) H H' → Q (.bl (agr L th)) H'
noncomputable def spFW : Sp := fun vs H Q _ => ∃ (s : Addr) (xs : List V) (ths : List Thing), vs = [.ref s] ∧ H s = some (.lst xs) ∧ ThVs H xs ths ∧ ths.length ≤ 500 ∧ (∀ t ∈ ths, Fit t) ∧ ∀ H', Same H H' → Q (oN (fw L0 ths)) H'
section
variable {C : Addr} {H : Hp} {Q : VK} {E : XK} {p wa oa : Addr} {L : LS}
theorem wMayF {b c : Int} (q : Q (.bl (mayF b c)) H) : spMayF ([.int b, .int c] ++ []) H Q E := ⟨b, c, rfl, q⟩
theorem wHasAll {q : Addr} {xs : List V} {ps : MRow} (X : LsX C H p L wa oa) (h1 : H q = some (.tup xs)) (h2 : Prs H xs ps) (h3 : ps.length ≤ 1000) (k : ∀ H', Same H H' → Q (.bl (hasAll L.w ps)) H') : spHasAll C (V.ref p :: ([V.ref q] ++ [])) H Q E := ⟨p, q, wa, oa, L, xs, ps, rfl, X, h1, h2, h3, k⟩
theorem wStepA {q : Addr} {c b : Int} {xs : List V} {ps : MRow} (X : LsX C H p L wa oa) (h1 : H q = some (.tup xs)) (h2 : Prs H xs ps) (h3 : ps.length ≤ 1000) (h4 : L.w.length ≤ 1000) (k : ∀ H' oa', LsX C H' p (nextL L (.step c b ps)) wa oa' → (oa' = oa ∨ H oa' = none) → Fr (fp p wa oa) H H' → Q (.bl (agr L (.step c b ps))) H') :
    spStepA C (V.ref p :: ([V.int c, V.int b, V.ref q] ++ [])) H Q E := ⟨p, q, wa, oa, c, b, L, xs, ps, rfl, X, h1, h2, h3, h4, k⟩
theorem wDeedA {v : V} {th : Thing} (X : LsX C H p L wa oa) (h1 : ThV H v th) (h2 : isDeed th = true) (h4 : L.w.length ≤ 1000) (k : ∀ H' oa', LsX C H' p (nextL L th) wa oa' → (oa' = oa ∨ H oa' = none) → Fr (fp p wa oa) H H' → Q (.bl (agr L th)) H') : spDeedA C (V.ref p :: ([v] ++ [])) H Q E := ⟨p, wa, oa, v, L, th, rfl, X, h1, h2, h4, k⟩
theorem wAgrees {v : V} {th : Thing} (X : LsX C H p L wa oa) (h1 : ThV H v th) (h2 : Fit th) (h4 : L.w.length ≤ 1000) (k : ∀ H' oa', LsX C H' p (nextL L th) wa oa' → (oa' = oa ∨ H oa' = none) → Fr (fp p wa oa) H H' → Q (.bl (agr L th)) H') : spAgrees C (V.ref p :: ([v] ++ [])) H Q E := ⟨p, wa, oa, v, L, th, rfl, X, h1, h2, h4, k⟩
theorem wFW {s : Addr} {xs : List V} {ths : List Thing} (h1 : H s = some (.lst xs)) (h2 : ThVs H xs ths) (h3 : ths.length ≤ 500) (h4 : ∀ t ∈ ths, Fit t) (k : ∀ H', Same H H' → Q (oN (fw L0 ths)) H') : spFW ([.ref s] ++ []) H Q E := ⟨s, xs, ths, rfl, h1, h2, h3, h4, k⟩
end
theorem next_len (L : LS) (t : Thing) : (nextL L t).w.length ≤ L.w.length + 1 := by
  cases t with
  | put k w t => show (rPut L.w k w).length ≤ _; rw [rPut_len]; split <;> omega
  | look k t => exact Nat.le_succ _
  | cut k t => exact Nat.le_succ_of_le (rCut_le _ _)
  | step c b ps => show (if stepOk L c b ps = true then (⟨L.w, b, owe L c ps⟩ : LS) else L).w.length ≤ _; split <;> exact Nat.le_succ _
section
variable {C : Addr} {H H' : Hp} {p : Addr} {L : LS} {wa oa : Addr}
theorem LsX.npw (X : LsX C H p L wa oa) : p ≠ wa := let ⟨_, e⟩ := X.ob; ne_of e X.hw (by intro z; cases z)
theorem LsX.npo (X : LsX C H p L wa oa) : p ≠ oa := let ⟨_, e⟩ := X.ob; ne_of e X.ho (by intro z; cases z)
theorem LsX.setw {r : MRow} (X : LsX C H p L wa oa) (ok : ROk r) : LsX C (upd H wa (.dK (kvs r))) p ⟨r, L.c, L.o⟩ wa oa :=
  ⟨let ⟨dx, e⟩ := X.ob; ⟨dx, by rw [upd_ne X.npw]; exact e⟩, upd_same, by rw [upd_ne X.ne.symm]; exact X.ho, ok, X.ko, X.ne⟩
theorem LsX.seto {r : MRow} (X : LsX C H p L wa oa) (ok : ROk r) : LsX C (upd H oa (.dK (kvs r))) p ⟨L.w, L.c, r⟩ wa oa :=
  ⟨let ⟨dx, e⟩ := X.ob; ⟨dx, by rw [upd_ne X.npo]; exact e⟩, by rw [upd_ne X.ne]; exact X.hw, upd_same, X.kw, ok, X.ne⟩
theorem Fr.updw {r : HO} (X : LsX C H p L wa oa) : Fr (fp p wa oa) H (upd H wa r) := fun b o n e => by rw [upd_ne fun z => n (.inr (.inl z))]; exact e
theorem Fr.updo {r : HO} (X : LsX C H p L wa oa) : Fr (fp p wa oa) H (upd H oa r) := fun b o n e => by rw [upd_ne fun z => n (.inr (.inr z))]; exact e
theorem str_ne {a b : PySem.Str} (h : (a == b) = false) : ¬ V.str a = V.str b := fun z => by
  injection z with z
  rw [z] at h
  exact absurd (beq_self_eq_true b) (by rw [h]; exact Bool.false_ne_true)
end
theorem pop_any {H : Hp} {a : Addr} {r : MRow} {k : Int} {Qf : V → Hp → Prop} (h : H a = some (.dK (kvs r))) (q : ∀ H', H' = upd H a (.dK (kvs (rCut r k))) → ∀ v, Qf v H') :
    ∃ kvs' k', H a = some (.dK kvs') ∧ V.int k = kV k' ∧ (∀ v, valV kvs' k' = some v → Qf v (upd H a (.dK (dropK kvs' k')))) ∧ (valV kvs' k' = none → Qf .non H) := by
  refine ⟨kvs r, Sum.inl k, h, rfl, fun v _ => by rw [dropK_kvs]; exact q _ rfl v, fun e => ?_⟩
  rw [valV_kvs] at e
  have e' : rLook r k = none := by cases z : rLook r k with | none => rfl | some y => rw [z] at e; cases e
  have ec : rCut r k = r := rCut_no ((rLook_none_iff k).mp e')
  refine q H ?_ _
  rw [ec]
  funext b
  by_cases z : b = a
  · subst z; rw [upd_same]; exact h
  · rw [upd_ne z]
noncomputable def KS (n : Nat) (k : Int) : Prop := (0 ≤ k ∧ k ≤ 8) ∨ (1000000000 - (n : Int) ≤ k ∧ k ≤ 1000000000)
noncomputable def tellD (d : Deed) (t : Option Int) : Thing := match d with
  | .put k v => .put k v t
  | .look k => .look k t
  | .cut k => .cut k t
noncomputable def two (a b : Addr) : Addr → Prop := fun x => x = a ∨ x = b
noncomputable def spDeedTold : Sp := fun vs H Q _ => ∃ (p a : Addr) (r : MRow), vs = [.ref p, .ref a] ∧ Pot H p ∧ H a = some (.dK (kvs r)) ∧ ROk r ∧ r.length ≤ 1000 ∧
  ∀ v H' (d : Deed), KS 0 (deedK d) → ThV H' v (tellD d (rLook r (deedK d))) → H' a = some (.dK (kvs (deedR r d))) → Pot H' p → Fr (two p a) H H' → Q v H'
theorem wDeedTold {H : Hp} {Q : VK} {E : XK} {p a : Addr} {r : MRow} (hp : Pot H p) (ha : H a = some (.dK (kvs r))) (ok : ROk r) (hl : r.length ≤ 1000)
    (k : ∀ v H' (d : Deed), KS 0 (deedK d) → ThV H' v (tellD d (rLook r (deedK d))) → H' a = some (.dK (kvs (deedR r d))) → Pot H' p → Fr (two p a) H H' → Q v H') : spDeedTold ([.ref p, .ref a] ++ []) H Q E := ⟨p, a, r, rfl, hp, ha, ok, hl, k⟩
noncomputable def walkW (c : Int) (r : MRow) (ks : List Int) : List Int := if c = 0 then r.map (·.1) else ks
structure StepT (c b : Int) (r : MRow) (ks ks' : List Int) (ps : MRow) : Prop where
  b0 : 0 ≤ b
  b1 : b ≤ 65535
  bc : b = 0 ∨ c < b
  nd : (ps.map (·.1)).Nodup
  at_ : ∀ q ∈ ps, rLook r q.1 = some q.2
  all : b = 0 → ∀ k ∈ walkW c r ks, k ∈ ps.map (·.1)
  len : ps.length ≤ r.length
  ks : ∀ k, k ∈ ks' ↔ k ∈ walkW c r ks ∧ k ∉ ps.map (·.1)
  kl : ks'.length ≤ 64
noncomputable def spStepTold : Sp := fun vs H Q _ => ∃ (p a w l : Addr) (c : Int) (r : MRow) (ks : List Int), vs = [.ref p, .ref a, .ref w] ∧ Pot H p ∧ H a = some (.dK (kvs r)) ∧ ROk r ∧ r.length < 64 ∧ H w = some (.lst [.int c, .ref l]) ∧ H l = some (.lst (ks.map V.int)) ∧ l ≠ p ∧ ks.length ≤ 64 ∧ 0 ≤ c ∧ c ≤ 65535 ∧ (∀ k ∈ ks, k ∈ r.map (·.1)) ∧
  ∀ v H' b l' ks' ps, StepT c b r ks ks' ps → ThV H' v (.step c b ps) → H' w = some (.lst [.int b, .ref l']) → H' l' = some (.lst (ks'.map V.int)) → l' ≠ p → H l' = none → Pot H' p → Fr (two p w) H H' → Q v H'
theorem wStepTold {H : Hp} {Q : VK} {E : XK} {p a w l : Addr} {c : Int} {r : MRow} {ks : List Int} (h1 : Pot H p) (h2 : H a = some (.dK (kvs r))) (h3 : ROk r) (h4 : r.length < 64) (h5 : H w = some (.lst [.int c, .ref l])) (h6 : H l = some (.lst (ks.map V.int))) (h7 : l ≠ p) (h8 : ks.length ≤ 64) (h9 : 0 ≤ c) (h10 : c ≤ 65535) (h11 : ∀ k ∈ ks, k ∈ r.map (·.1))
    (k : ∀ v H' b l' ks' ps, StepT c b r ks ks' ps → ThV H' v (.step c b ps) → H' w = some (.lst [.int b, .ref l']) → H' l' = some (.lst (ks'.map V.int)) → l' ≠ p → H l' = none → Pot H' p → Fr (two p w) H H' → Q v H') : spStepTold ([.ref p, .ref a, .ref w] ++ []) H Q E :=
  ⟨p, a, w, l, c, r, ks, rfl, h1, h2, h3, h4, h5, h6, h7, h8, h9, h10, h11, k⟩
theorem mul_lit : IntMulOk (10 ^ Int.toNat 50) (10 ^ Int.toNat 50) := IntMulOk.of_bits (by decide +kernel) (by decide +kernel)
theorem mul_lit2 : IntMulOk (10 ^ Int.toNat 50 * 10 ^ Int.toNat 50) (10 ^ Int.toNat 50) := IntMulOk.of_bits (by decide +kernel) (by decide +kernel)
end SW

set_option Elab.async false
set_option linter.all false
set_option maxRecDepth 100000
namespace SW
open PySem PySem.Spec PyProof.Rows L2
section
variable {X : Cx} {scope : Scope} {cl : List (Str × Addr)} {os : List Str} {js : List Nat} {N' : List Str} {elt tgt iter : Expr} {ifs : List Expr} {pos : Pos} {wi : TI} {gt : TG} {tt : TT} {te : TE}
end
namespace B
end B
end SW

set_option Elab.async false
set_option linter.all false
set_option maxRecDepth 100000
namespace SW
open PySem PySem.Spec PyProof.Rows L2
section
variable {X : Cx} {pins : List (Addr × Obj)} {σ : L2.St} {H : Hp} {s : Shared}
theorem inv_freeze {a : Addr} {kvs : List (Key × V)} {o : Obj} (I : Inv X pins σ H s) (ha : H a = some (.dK kvs)) (ho : s.heap.get? a = some o) : Inv X pins σ (upd H a (.frz o (.dK kvs))) s := by
  have hd := I.hok a _ ha
  have n1 : ∀ b u, H b = some u → u ≠ .dK kvs → b ≠ a := fun b u e n z => by subst z; rw [ha] at e; exact n (Option.some.inj e).symm
  refine Inv.un (t' := s.toks) I (Un.write (by rw [ha]; exact trivial) (.inl rfl) (fun _ _ _ e => e) ⟨o, ho⟩) fun b u e => ?_
  by_cases z : b = a
  · subst z
    rw [upd_same] at e
    cases e
    exact ⟨ho, hd⟩
  · rw [upd_ne z] at e
    refine (I.hok b u e).stay (fun _ _ _ q => q) (fun c q => ?_) fun c xs q => ?_
    · rw [upd_ne (n1 c _ q (by intro z; cases z))]; exact q
    · rw [upd_ne (n1 c _ q (by intro z; cases z))]; exact q
end
noncomputable def Itd (a : Addr) (o : Obj) (kvs : List (Key × V)) : It :=
  ⟨fun i H => H a = some (.frz o (.dK kvs)) ∧ i < kvs.length, fun i H x H' => H' = H ∧ ∃ kv, kvs[i]? = some kv ∧ x = kV kv.1, fun i H => H a = some (.frz o (.dK kvs)) ∧ kvs.length ≤ i⟩
theorem frz_at {P : Program} {w : World} {H : Hp} {h : Heap} {a : Addr} {o : Obj} {kvs : List (Key × V)} {es : Array DictEntry} {ep : Nat} (ok : HOk P w H h) (e : H a = some (.frz o (.dK kvs))) (hd : o.data = .dict es ep) :
    ∃ vs, KV kvs vs ∧ h.DictAt (mixKind P w) a vs ep := by
  obtain ⟨ho, _, _, vs, rel, o', es', ep', ho', r1, r2, r3⟩ := (show ObjOk P w H h a (.frz o (.dK kvs)) from ok a _ e)
  rw [ho] at ho'
  cases ho'
  rw [hd] at r2
  cases r2
  exact ⟨vs, rel, o, es, ho, r1, hd, r3⟩
theorem turn_dict {P : Program} {w : World} {K : PySem.W.Frag} {tg : Expr} (a it : Addr) (o : Obj) (kvs : List (Key × V)) (es : Array DictEntry) (ep : Nat) (hd : o.data = .dict es ep) : Turn P w K tg (Itd a o kvs) [it] it (fun i h => h.IsKeyIter it a i kvs.length ep) where
  mem := by simp
  obj := fun i h st b hb => by
    have e : b = it := by simpa using hb
    subst e
    obtain ⟨o, e, c, d⟩ := st
    exact ⟨o, e, fun v z => by rw [d] at z; cases z⟩
  keep := fun i h h' st k => let ⟨o, e, r⟩ := st; ⟨o, k it (by simp) o e, r⟩
  item := by
    intro X hP hw hK hc i pins s σ H E I hf st hg
    subst hP hw hK
    obtain ⟨hz, hi⟩ := hg
    obtain ⟨vs, rel, hat⟩ := frz_at I.hok hz hd
    have hl : kvs.length = vs.length := Paired.length rel
    obtain ⟨f0, f1, f2, f3, f4, f5⟩ := hf it (by simp)
    have hx : vs[i]? = some (vs[i]'(by omega)) := List.getElem?_eq_getElem (by omega)
    obtain ⟨y, e3, _⟩ := kv_get rel (show vs[i]? = some ((vs[i]'(by omega)).1, (vs[i]'(by omega)).2) from hx)
    have st2 : s.heap.IsKeyIter it a i vs.length ep := hl ▸ st
    refine wpAny_pyNext_dict_item st2 hat (k := (vs[i]'(by omega)).1) (v := (vs[i]'(by omega)).2) hx fun key h' hkey st' sb => ?_
    have I1 : Inv X pins σ H { s with heap := h' } := I.turned (t' := s.toks) (fun b o hb e => (sb.2 b hb).trans e) f0 f1 f3 f4 f5
    obtain ⟨o2, e2, c2, d2⟩ := id st'
    refine ⟨key, rfl, go_of (s := { s with heap := h' }) e2 c2 d2 (by decide) ⟨kV (vs[i]'(by omega)).1, H, I1, ?_, ⟨rfl, ((vs[i]'(by omega)).1, y), e3, rfl⟩, hl ▸ st', fun b hb => (hf b hb).1⟩⟩
    rcases keyIs_shape (show keyIs (vs[i]'(by omega)).1 key = true from hkey) with ⟨j, t, e5, rfl⟩ | ⟨x, t, e5, rfl⟩
    · rw [e5]; exact ⟨t, rfl⟩
    · rw [e5]; exact ⟨t, rfl⟩
  done := by
    intro X hP hw hK hc i pins s σ H E I hf st hg
    subst hP hw hK
    obtain ⟨hz, hi⟩ := hg
    obtain ⟨vs, rel, hat⟩ := frz_at I.hok hz hd
    have hl : kvs.length = vs.length := Paired.length rel
    obtain ⟨f0, f1, f2, f3, f4, f5⟩ := hf it (by simp)
    have st2 : s.heap.IsKeyIter it a i vs.length ep := hl ▸ st
    exact wpAny_pyNext_dict_end (I.ok.hd hc) st2 hat (List.getElem?_eq_none (by omega)) fun h' eb => ⟨rfl, I.turned (t' := s.toks) (fun b o hb e => eb b o hb e) f0 f1 f3 f4 f5⟩
  self := fun _ _ _ _ _ st h => wpAny_pyIter_keyiter st h
noncomputable def iDict (tl : TE) : TI := fun σ H R => tl σ H fun x H1 => ∃ a kvs, x = .ref a ∧ H1 a = some (.dK kvs) ∧ ∀ o, R (Itd a o kvs) (upd H1 a (.frz o (.dK kvs)))
theorem pi_dict {X : Cx} {tg l : Expr} {tl : TE} (hl : PE X l tl) : PI X tg l (iDict tl) := by
  intro pins s σ H R I h
  refine thn (hl pins s σ H _ I h) fun v s1 zz => ?_
  obtain ⟨x, H1, I1, r1, q1⟩ := zz
  obtain ⟨a, kvs, e, ha, q⟩ := q1
  subst e
  cases r1
  obtain ⟨_, hsys, vs, rel, dd⟩ := dk_rd I1.hok (.inl ha)
  obtain ⟨o, es, ep, ho, r1, r2, r3⟩ := id dd
  have hat : s1.heap.DictAt (mixKind X.prog X.w) a vs ep := ⟨o, es, ho, r1, r2, r3⟩
  have hl : kvs.length = vs.length := Paired.length rel
  have I2 := inv_freeze I1 ha ho
  refine wpAny_pyIter_dict hsys hat ?_
  refine ⟨s1.heap.objs.size, [s1.heap.objs.size], _, _, upd H1 a (.frz o (.dK kvs)), rfl, I2.kept (t' := s1.toks) fun b o e => Heap.get?_push_of_some _ e, turn_dict a _ o kvs es ep r2, ⟨_, Heap.get?_push_size _ rfl, rfl, by rw [hl]; rfl⟩, fun b hb => ?_, q o⟩
  have e : b = s1.heap.objs.size := by simpa using hb
  subst e
  exact I2.fpOk (Nat.le_refl _) (I2.hok.fresh (Nat.le_refl _))
theorem B.idict {X : Cx} {tg l : Expr} {tl : TE} (hl : Bx (PE X l tl)) : Bx (PI X tg l (iDict tl)) := ⟨pi_dict hl.out⟩
theorem wIDict {σ : L2.St} {H : Hp} {tl : TE} {R : It → Hp → Prop} (h : tl σ H fun x H1 => ∃ a kvs, x = .ref a ∧ H1 a = some (.dK kvs) ∧ ∀ o, R (Itd a o kvs) (upd H1 a (.frz o (.dK kvs)))) : iDict tl σ H R := h
section
variable {a D : Addr} {o : Obj} {kvs : List (Key × V)} {σ0 : L2.St} {H1 : Hp} {tt : TT} {te : TE}
theorem comp_dict {Qf : Hp → Prop} (Pv : Nat → L2.St → Hp → Prop) (h0 : Pv 0 σ0 H1) (hl : ∀ i σ H, i ≤ kvs.length → Pv i σ H → H a = some (.frz o (.dK kvs)))
    (step : ∀ i kv σ' H', kvs[i]? = some kv → i < kvs.length → Pv i σ' H' → tt (σ'.set 0 (some (kV kv.1))) H' fun ok H3 => if ok = true then te (σ'.set 0 (some (kV kv.1))) H3 (fun y H4 => CN Pv kvs.length i D (σ'.set 0 (some (kV kv.1))) y H4) else CO Pv kvs.length i (σ'.set 0 (some (kV kv.1))) H3)
    (fin : ∀ σ H, Pv kvs.length σ H → Qf H) :
    ∃ W : Nat → Nat → L2.St → Hp → Prop, (∃ m, W 0 m σ0 H1) ∧ ∀ i m σ' H', W i m σ' H' → ((Itd a o kvs).stop i H' ∧ Qf H') ∨ ((Itd a o kvs).go i H' ∧ ∀ x H2, (Itd a o kvs).yld i H' x H2 → tt (σ'.set 0 (some x)) H2 fun ok H3 =>
      if ok = true then te (σ'.set 0 (some x)) H3 fun y H4 => ∃ ys, H4 D = some (.lst ys) ∧ ys.length < sizeLine ∧ ∃ m', m' < m ∧ W (i + 1) m' (σ'.set 0 (some x)) (upd H4 D (.lst (ys ++ [y])))
      else ∃ m', m' < m ∧ W (i + 1) m' (σ'.set 0 (some x)) H3) := by
  refine ⟨fun i m σ H => m = kvs.length - i ∧ i ≤ kvs.length ∧ Pv i σ H, ⟨kvs.length, by omega, Nat.zero_le _, h0⟩, ?_⟩
  rintro i m σ' H' ⟨rfl, hi, p⟩
  have q := hl i σ' H' hi p
  by_cases hlt : i < kvs.length
  · refine .inr ⟨⟨q, hlt⟩, fun x H2 y => ?_⟩
    obtain ⟨rfl, kv, y, rfl⟩ := y
    exact step i kv σ' _ y hlt p
  · have e : i = kvs.length := by omega
    subst e
    exact .inl ⟨⟨q, Nat.le_refl _⟩, fin _ _ p⟩
end
noncomputable def oD : Option Int → PyData
  | none => .none
  | some i => .int i
noncomputable def thD : Thing → PyData
  | .put k w t => .tuple [.str "put", .int k, .int w, oD t]
  | .look k t => .tuple [.str "look", .int k, oD t]
  | .cut k t => .tuple [.str "cut", .int k, oD t]
  | .step c b ps => .tuple [.str "step", .int c, .int b, .tuple (ps.map fun p => .tuple [.int p.1, .int p.2])]
section
variable {K : PySem.W.Frag} {H : Hp}
theorem oV_dat (o : Option Int) : DatV K H (oV o) (oD o) := by
  cases o with
  | none => exact .non
  | some i => exact .int i
theorem ThV.dat {v : V} {th : Thing} (h : ThV H v th) : DatV K H v (thD th) := by
  cases th with
  | put k w t => obtain ⟨u, rfl, hu⟩ := h; exact .tup (SqT.of hu) (.cons (.str _) (.cons (.int _) (.cons (.int _) (.cons (oV_dat t) .nil))))
  | look k t => obtain ⟨u, rfl, hu⟩ := h; exact .tup (SqT.of hu) (.cons (.str _) (.cons (.int _) (.cons (oV_dat t) .nil)))
  | cut k t => obtain ⟨u, rfl, hu⟩ := h; exact .tup (SqT.of hu) (.cons (.str _) (.cons (.int _) (.cons (oV_dat t) .nil)))
  | step c b ps => obtain ⟨u, q, xs, rfl, hu, hq, hp⟩ := h; exact .tup (SqT.of hu) (.cons (.str _) (.cons (.int _) (.cons (.int _) (.cons (.tup (SqT.of hq) hp.dat) .nil))))
theorem ThVs.dat : ∀ {xs : List V} {ths : List Thing}, ThVs H xs ths → DatVs K H xs (ths.map thD)
  | _, _, .nil => .nil
  | _, _, .cons h t => .cons h.dat (ThVs.dat t)
theorem ints_dat : ∀ ns : List Int, DatVs K H (ns.map V.int) (ns.map PyData.int)
  | [] => .nil
  | n :: ns => .cons (.int n) (ints_dat ns)
end
theorem pairs_lay : ∀ r : MRow, PyData.canLayAll0 (r.map fun p => PyData.tuple [.int p.1, .int p.2]) = true
  | [] => rfl
  | _ :: r => pairs_lay r
theorem pairs_deep : ∀ r : MRow, PyData.depthAll (r.map fun p => PyData.tuple [.int p.1, .int p.2]) ≤ 1
  | [] => by decide
  | _ :: r => by
    have := pairs_deep r
    simp only [List.map_cons, PyData.depthAll, PyData.depth]
    omega
theorem oD_lay (o : Option Int) : (oD o).canLay0 = true := by cases o <;> rfl
theorem oD_deep (o : Option Int) : (oD o).depth = 0 := by cases o <;> rfl
theorem lay4 {x : PySem.Str} {a b c : PyData} (h0 : (PyData.str x).canLay0 = true) (h1 : a.canLay0 = true) (h2 : b.canLay0 = true) (h3 : c.canLay0 = true) : (PyData.tuple [.str x, a, b, c]).canLay0 = true := by
  show ((PyData.str x).canLay0 && (a.canLay0 && (b.canLay0 && (c.canLay0 && true)))) = true
  rw [h0, h1, h2, h3]; rfl
theorem lay3 {x : PySem.Str} {a b : PyData} (h0 : (PyData.str x).canLay0 = true) (h1 : a.canLay0 = true) (h2 : b.canLay0 = true) : (PyData.tuple [.str x, a, b]).canLay0 = true := by
  show ((PyData.str x).canLay0 && (a.canLay0 && (b.canLay0 && true))) = true
  rw [h0, h1, h2]; rfl
theorem thD_lay (t : Thing) : (thD t).canLay0 = true := by
  cases t with
  | put k w t => exact lay4 (by decide +kernel) rfl rfl (oD_lay t)
  | look k t => exact lay3 (by decide +kernel) rfl (oD_lay t)
  | cut k t => exact lay3 (by decide +kernel) rfl (oD_lay t)
  | step c b ps => exact lay4 (by decide +kernel) rfl rfl (pairs_lay ps)
theorem thD_deep (t : Thing) : (thD t).depth ≤ 3 := by
  cases t with
  | put k w t => have := oD_deep t; simp only [thD, PyData.depth, PyData.depthAll]; omega
  | look k t => have := oD_deep t; simp only [thD, PyData.depth, PyData.depthAll]; omega
  | cut k t => have := oD_deep t; simp only [thD, PyData.depth, PyData.depthAll]; omega
  | step c b ps => have := pairs_deep ps; simp only [thD, PyData.depth, PyData.depthAll]; omega
theorem ths_lay : ∀ ths : List Thing, (PyData.list (ths.map thD)).canLay0 = true
  | [] => rfl
  | t :: ths => by
    show ((thD t).canLay0 && PyData.canLayAll0 (ths.map thD)) = true
    rw [thD_lay]
    exact ths_lay ths
theorem ths_deep (ths : List Thing) : (PyData.list (ths.map thD)).depth ≤ 60 := by
  have : PyData.depthAll (ths.map thD) ≤ 3 := by
    induction ths with
    | nil => decide
    | cons t ts ih => have := thD_deep t; simp only [List.map_cons, PyData.depthAll]; omega
  simp only [PyData.depth]
  omega
theorem ints_lay : ∀ ns : List Int, (PyData.list (ns.map PyData.int)).canLay0 = true
  | [] => rfl
  | _ :: ns => ints_lay ns
theorem ints_deep (ns : List Int) : (PyData.list (ns.map PyData.int)).depth ≤ 60 := by
  have : PyData.depthAll (ns.map PyData.int) ≤ 0 := by
    induction ns with
    | nil => decide
    | cons t ts ih => simp only [List.map_cons, PyData.depthAll, PyData.depth]; omega
  simp only [PyData.depth]
  omega
theorem eqv_nil (ds : List PyData) : PyData.eqv (.list ds) (.list []) = ds.isEmpty := by cases ds <;> rfl
theorem wNeNil {K : PySem.W.Frag} {H : Hp} {Q : VK} {a b : Addr} {xs : List V} {ds : List PyData} (ha : SqL K H a xs) (hd : DatVs K H xs ds) (hb : SqL K H b []) (c : (PyData.list ds).canLay0 = true) (dp : (PyData.list ds).depth ≤ 60) (q : Q (.bl (!ds.isEmpty)) H) : rNeD K (.ref a) (.ref b) H Q :=
  ⟨.list ds, .list [], .lst ha hd, .lst hb .nil, c, rfl, dp, by rw [eqv_nil]; exact q⟩
theorem wEqNil {K : PySem.W.Frag} {H : Hp} {Q : VK} {a b : Addr} {xs : List V} {ds : List PyData} (ha : SqL K H a xs) (hd : DatVs K H xs ds) (hb : SqL K H b []) (c : (PyData.list ds).canLay0 = true) (dp : (PyData.list ds).depth ≤ 60) (q : Q (.bl ds.isEmpty) H) : rEqD K (.ref a) (.ref b) H Q :=
  ⟨.list ds, .list [], .lst ha hd, .lst hb .nil, c, rfl, dp, by rw [eqv_nil]; exact q⟩
namespace B
theorem tdnotin {X : Cx} {a d : Expr} {ty td : TE} {pos : Pos} (hu : X.A.units + 1 < cLine) (hk : Bx (PE X a ty)) (hd : Bx (PE X d td)) (h1 : behindInMarks .NotIn d = false := by first | rfl | with_unfolding_all rfl) : Bx (PT X (.Compare a [.NotIn] [d] pos) (tB (tDNotIn ty td))) := ⟨pt_cmp (pc_dnotin hu hk.out hd.out) h1⟩
end B
theorem wDNotIn {σ : L2.St} {H : Hp} {Q : VK} {td ty : TE} (h : ty σ H fun y H1 => td σ H1 fun x H2 => ∃ a o, x = .ref a ∧ DGet H2 a y o ∧ Q (.bl (!o.isSome)) H2) : tDNotIn ty td σ H Q := h
namespace B
theorem compSetIf {X : Cx} {scope : Scope} {cl : List (Str × Addr)} {x : Str} {px pos : Pos} {elt iter c : Expr} {wi : TI} {tc : TT} {te : TE} (i : Nat) (js : List Nat) (N' : List Str) {y : Str} {py spos : Pos} (S : CompScope X scope cl x js N') (nd : N'.Nodup) (hN : X.N.Nodup) (hi : Bx (PI X (.Name x px) iter wi)) (hcc : ∀ s H fp pins, Bx (PT (compCx X scope cl N' s H fp pins) c tc)) (he : ∀ s H fp pins, Bx (PE (compCx X scope cl N' s H fp pins) elt te)) (hc : X.calm = true := by rfl)
    (hy : X.N[i]? = some y := by rfl) (hl : Loc X.env.scope y := by first | exact Or.inl rfl | exact Or.inr rfl) (hf : X.fn y = true ∨ X.env.scope.names.lookup y = some .local := by first | exact .inl rfl | exact .inr rfl)
    (hsw : swapsWith (.ListComp elt [⟨.Name x px, iter, [c], 0⟩] scope pos) (some (.Name y py)) spos.line X.env = pure true := by rfl)
    (hs : ∀ x, foldedSetIterable iter X.env x = pure x := by intro _; rfl) : Bx (PS X (.Assign [.Name y py] (.ListComp elt [⟨.Name x px, iter, [c], 0⟩] scope pos) spos) (tCompSet i (tComp js wi tc te))) :=
  ⟨ps_compSet S nd hc hi.out (fun s H fp pins => pts_one (hcc s H fp pins).out) (fun s H fp pins => (he s H fp pins).out) hN hy hl hf hsw hs⟩
end B
end SW

set_option Elab.async false
set_option linter.all false
set_option maxRecDepth 100000
namespace SW
open PySem PySem.Spec PyProof.Rows L2
noncomputable def heldT (r : MRow) : Thing → MRow
  | .put k w _ => rPut r k w
  | .cut k _ => rCut r k
  | _ => r
noncomputable def heldR (ts : List Thing) : MRow := ts.foldl heldT []
theorem next_w (L : LS) (t : Thing) : (nextL L t).w = heldT L.w t := by
  cases t with
  | put k w t => rfl
  | look k t => rfl
  | cut k t => rfl
  | step c b ps => show (if stepOk L c b ps = true then (⟨L.w, b, owe L c ps⟩ : LS) else L).w = L.w; split <;> rfl
theorem run_w : ∀ (ts : List Thing) (L : LS), (runL L ts).w = ts.foldl heldT L.w
  | [], _ => rfl
  | t :: ts, L => by
    show (runL (nextL L t) ts).w = _
    rw [run_w ts, next_w]; rfl
theorem held_w (ts : List Thing) : (runL L0 ts).w = heldR ts := run_w ts L0
theorem heldT_len {r : MRow} (t : Thing) : (heldT r t).length ≤ r.length + 1 := by
  cases t with
  | put a b c => show (rPut r a b).length ≤ _; rw [rPut_len]; split <;> omega
  | look a b => exact Nat.le_succ _
  | cut a b => exact Nat.le_succ_of_le (rCut_le _ _)
  | step a b c => exact Nat.le_succ _
theorem heldR_snoc (ts : List Thing) (t : Thing) : heldR (ts ++ [t]) = heldT (heldR ts) t := by
  unfold heldR
  rw [List.foldl_append]; rfl
theorem heldR_len : ∀ (ts : List Thing) (r : MRow), (ts.foldl heldT r).length ≤ r.length + ts.length
  | [], r => Nat.le_refl _
  | t :: ts, r => by
    have h1 := heldR_len ts (heldT r t)
    have h2 := heldT_len (r := r) t
    rw [List.foldl_cons, List.length_cons]
    omega
noncomputable def isStp : Thing → Bool
  | .step _ _ _ => true
  | _ => false
noncomputable def isBeg : Thing → Bool
  | .step c _ _ => decide (c = 0)
  | _ => false
noncomputable def nextOf : Thing → Int
  | .step _ b _ => b
  | _ => 0
noncomputable def curT (ts : List Thing) : Int := match (ts.filter isStp).getLast? with
  | some t => nextOf t
  | none => 0
noncomputable def begs (ts : List Thing) : List Nat := (List.range ts.length).filter fun k => match ts[k]? with | some t => isBeg t | none => false
noncomputable def cutsOf (ts : List Thing) : List Int := ts.filterMap fun t => match t with | .cut k _ => some k | _ => none
noncomputable def keysOf : Thing → List Int
  | .step _ _ ps => ps.map (·.1)
  | _ => []
noncomputable def toldOf (ts : List Thing) : List Int := ts.flatMap keysOf
theorem begs_snoc (ts : List Thing) (t : Thing) : begs (ts ++ [t]) = begs ts ++ if isBeg t = true then [ts.length] else [] := by
  unfold begs
  rw [List.length_append, List.length_singleton, List.range_succ, List.filter_append]
  congr 1
  · refine List.filter_congr fun k hk => ?_
    rw [List.getElem?_append_left (List.mem_range.mp hk)]
  · rw [List.filter_cons, List.filter_nil, List.getElem?_append_right (Nat.le_refl _), Nat.sub_self]
    rfl
theorem begs_lt {ts : List Thing} {a : Nat} (h : a ∈ begs ts) : a < ts.length := List.mem_range.mp (List.mem_filter.mp h).1
theorem curT_snoc (ts : List Thing) (t : Thing) : curT (ts ++ [t]) = if isStp t = true then nextOf t else curT ts := by
  unfold curT
  rw [List.filter_append, List.filter_cons, List.filter_nil]
  by_cases h : isStp t = true
  · rw [if_pos h, if_pos h, List.getLast?_concat]
  · rw [if_neg h, if_neg h, List.append_nil]
structure OInv (ts : List Thing) (L : LS) : Prop where
  c : L.c = curT ts
  c0 : 0 ≤ L.c
  nb : begs ts = [] → L.c = 0
  o : ∀ a, (begs ts).getLast? = some a → ∀ k, k ∈ L.o.map (·.1) ↔ (k ∈ (heldR (ts.take a)).map (·.1) ∧ k ∉ cutsOf (ts.drop a) ∧ k ∉ toldOf (ts.drop a))
theorem fw_snoc_none {ts : List Thing} {t : Thing} (h : fw L0 (ts ++ [t]) = none) : fw L0 ts = none ∧ agr (runL L0 ts) t = true := by
  have h1 : fw L0 ts = none := by
    cases e : fw L0 ts with
    | none => rfl
    | some n => rw [fw_some_append ts [t] L0 n e] at h; cases h
  refine ⟨h1, ?_⟩
  rw [fw_none_append ts [t] L0 h1] at h
  by_cases e : agr (runL L0 ts) t = true
  · exact e
  · have : fw (runL L0 ts) [t] = some 0 := by
      show (if agr (runL L0 ts) t = true then _ else _) = _
      rw [if_neg e]
    rw [this] at h
    cases h
theorem getLast_mem {α : Type} {l : List α} {a : α} (h : l.getLast? = some a) : a ∈ l := List.mem_of_getLast? h
theorem cut_keys {o ps : MRow} (k : Int) : k ∈ (cutAll o ps).map (·.1) ↔ k ∈ o.map (·.1) ∧ k ∉ ps.map (·.1) := by
  rw [cutAll_filter]
  constructor
  · intro z
    obtain ⟨q, hq, rfl⟩ := List.mem_map.mp z
    obtain ⟨h1, h2⟩ := List.mem_filter.mp hq
    exact ⟨List.mem_map.mpr ⟨q, h1, rfl⟩, of_decide_eq_true h2⟩
  · rintro ⟨z, n⟩
    obtain ⟨q, hq, rfl⟩ := List.mem_map.mp z
    exact List.mem_map.mpr ⟨q, List.mem_filter.mpr ⟨hq, decide_eq_true n⟩, rfl⟩
theorem rcut_keys {o : MRow} {kk : Int} (k : Int) : k ∈ (rCut o kk).map (·.1) ↔ k ∈ o.map (·.1) ∧ k ≠ kk := by
  constructor
  · intro z
    obtain ⟨q, hq, rfl⟩ := List.mem_map.mp z
    obtain ⟨h1, h2⟩ := List.mem_filter.mp hq
    exact ⟨List.mem_map.mpr ⟨q, h1, rfl⟩, of_decide_eq_true h2⟩
  · rintro ⟨z, n⟩
    obtain ⟨q, hq, rfl⟩ := List.mem_map.mp z
    exact List.mem_map.mpr ⟨q, List.mem_filter.mpr ⟨hq, decide_eq_true n⟩, rfl⟩
theorem cutsOf_append (a b : List Thing) : cutsOf (a ++ b) = cutsOf a ++ cutsOf b := List.filterMap_append
theorem toldOf_append (a b : List Thing) : toldOf (a ++ b) = toldOf a ++ toldOf b := List.flatMap_append
theorem toldOf_one (t : Thing) : toldOf [t] = keysOf t := by unfold toldOf; rw [List.flatMap_cons, List.flatMap_nil, List.append_nil]
theorem OInv.deed {ts : List Thing} {t : Thing} {L L' : LS} (h : OInv ts L) (ht : isStp t = false) (hc : L'.c = L.c) (ho : ∀ k, k ∈ L'.o.map (·.1) ↔ (k ∈ L.o.map (·.1) ∧ k ∉ cutsOf [t])) : OInv (ts ++ [t]) L' := by
  have hb : isBeg t = false := by cases t <;> first | rfl | cases ht
  have hk : keysOf t = [] := by cases t <;> first | rfl | cases ht
  have eb : begs (ts ++ [t]) = begs ts := by rw [begs_snoc, hb]; exact List.append_nil _
  refine ⟨?_, by rw [hc]; exact h.c0, fun e => by rw [hc]; exact h.nb (by rw [← eb]; exact e), fun a e k => ?_⟩
  · rw [curT_snoc, ht, hc]; exact h.c
  · rw [eb] at e
    have hlt := begs_lt (getLast_mem e)
    rw [ho k, h.o a e k, List.take_append_of_le_length (Nat.le_of_lt hlt), List.drop_append_of_le_length (Nat.le_of_lt hlt), cutsOf_append, toldOf_append, toldOf_one, hk, List.append_nil, List.mem_append]
    constructor
    · rintro ⟨⟨a1, a2, a3⟩, a4⟩; exact ⟨a1, fun z => z.elim a2 a4, a3⟩
    · rintro ⟨a1, a2, a3⟩; exact ⟨⟨a1, fun z => a2 (.inl z), a3⟩, fun z => a2 (.inr z)⟩
theorem oinv_rev : ∀ rs : List Thing, fw L0 rs.reverse = none → OInv rs.reverse (runL L0 rs.reverse)
  | [], _ => ⟨rfl, Int.le_refl _, fun _ => rfl, fun a e => by cases e⟩
  | t :: rs, h => by
    rw [List.reverse_cons] at h ⊢
    obtain ⟨h1, h2⟩ := fw_snoc_none h
    have ih := oinv_rev rs h1
    generalize rs.reverse = ts at *
    have hw := held_w ts
    rw [runL_append]
    show OInv (ts ++ [t]) (nextL (runL L0 ts) t)
    generalize runL L0 ts = L at *
    cases t with
    | put k w x => exact ih.deed rfl rfl fun k => ⟨fun z => ⟨z, fun y => nomatch y⟩, fun z => z.1⟩
    | look k x => exact ih.deed rfl rfl fun k => ⟨fun z => ⟨z, fun y => nomatch y⟩, fun z => z.1⟩
    | cut kk x =>
      refine ih.deed rfl rfl fun k => ?_
      show k ∈ (rCut L.o kk).map (·.1) ↔ _
      rw [rcut_keys]
      constructor
      · rintro ⟨a, b⟩; exact ⟨a, fun z => b (List.mem_singleton.mp z)⟩
      · rintro ⟨a, b⟩; exact ⟨a, fun z => b (List.mem_singleton.mpr z)⟩
    | step c b ps =>
      have h2 : (stepOk L c b ps && (decide (b ≠ 0) || (owe L c ps).isEmpty)) = true := h2
      rw [Bool.and_eq_true] at h2
      have hs := h2.1
      have hn : nextL L (.step c b ps) = ⟨L.w, b, owe L c ps⟩ := by
        show (if stepOk L c b ps = true then _ else _) = _
        rw [if_pos hs]
      unfold stepOk at hs
      rw [Bool.and_eq_true, Bool.and_eq_true] at hs
      have ec : c = L.c := of_decide_eq_true hs.1.1
      have hm : mayF b c = true := hs.1.2
      rw [hn]
      refine ⟨?_, ?_, fun e => ?_, fun a e k => ?_⟩
      · rw [curT_snoc]; rfl
      · unfold mayF at hm
        rw [Bool.or_eq_true, Bool.and_eq_true] at hm
        rcases hm with z | z
        · show 0 ≤ b
          have := of_decide_eq_true z
          omega
        · exact (of_decide_eq_true z.1).1
      · rw [begs_snoc] at e
        have e1 := (List.append_eq_nil_iff.mp e)
        have hc0 := ih.nb e1.1
        have e2 := e1.2
        rw [show isBeg (.step c b ps) = true from decide_eq_true (ec.trans hc0)] at e2
        cases e2
      · by_cases hc : c = 0
        · have hb : isBeg (.step c b ps) = true := decide_eq_true hc
          rw [begs_snoc, hb, if_pos rfl, List.getLast?_concat] at e
          cases e
          rw [List.take_left' rfl, List.drop_left' rfl]
          show k ∈ (cutAll (if c = 0 then L.w else L.o) ps).map (·.1) ↔ _
          rw [if_pos hc, cut_keys, hw, toldOf_one]
          exact ⟨fun z => ⟨z.1, fun y => (nomatch y), z.2⟩, fun z => ⟨z.1, z.2.2⟩⟩
        · have hb : isBeg (.step c b ps) = false := decide_eq_false hc
          rw [begs_snoc, hb] at e
          have e : (begs ts).getLast? = some a := by
            rw [if_neg Bool.false_ne_true, List.append_nil] at e; exact e
          have hlt := begs_lt (getLast_mem e)
          show k ∈ (cutAll (if c = 0 then L.w else L.o) ps).map (·.1) ↔ _
          rw [if_neg hc, cut_keys, ih.o a e k, List.take_append_of_le_length (Nat.le_of_lt hlt), List.drop_append_of_le_length (Nat.le_of_lt hlt), cutsOf_append, toldOf_append, toldOf_one, List.mem_append, List.mem_append]
          constructor
          · rintro ⟨⟨a1, a2, a3⟩, a4⟩; exact ⟨a1, fun z => z.elim a2 (fun y => nomatch y), fun z => z.elim a3 a4⟩
          · rintro ⟨a1, a2, a3⟩; exact ⟨⟨a1, fun z => a2 (.inl z), fun z => a3 (.inl z)⟩, fun z => a3 (.inr z)⟩
theorem oinv {ts : List Thing} (h : fw L0 ts = none) : OInv ts (runL L0 ts) := by
  have := oinv_rev ts.reverse (by rw [List.reverse_reverse]; exact h)
  rw [List.reverse_reverse] at this
  exact this
noncomputable def atW (ts : List Thing) (c : Int) : Nat := if c = 0 then ts.length else ((begs ts).getLast?).getD 0
theorem owe_keys {ts : List Thing} (h : fw L0 ts = none) {c : Int} (hc : c = (runL L0 ts).c) (ps : MRow) (k : Int) :
    k ∈ (owe (runL L0 ts) c ps).map (·.1) ↔ (k ∈ (heldR (ts.take (atW ts c))).map (·.1) ∧ k ∉ cutsOf (ts.drop (atW ts c)) ∧ k ∉ ps.map (·.1) ++ toldOf (ts.drop (atW ts c))) := by
  have O := oinv h
  unfold owe atW
  by_cases z : c = 0
  · rw [if_pos z, if_pos z, cut_keys, held_w, List.take_length, List.drop_length]
    show _ ↔ _ ∧ k ∉ [] ∧ k ∉ ps.map (·.1) ++ []
    rw [List.append_nil]
    exact ⟨fun y => ⟨y.1, fun x => (nomatch x), y.2⟩, fun y => ⟨y.1, y.2.2⟩⟩
  · rw [if_neg z, if_neg z, cut_keys]
    cases e : (begs ts).getLast? with
    | none =>
      have : begs ts = [] := List.getLast?_eq_none_iff.mp e
      exact absurd (hc.trans (O.nb this)) z
    | some a =>
      rw [O.o a e k, List.mem_append]
      constructor
      · rintro ⟨⟨a1, a2, a3⟩, a4⟩; exact ⟨a1, a2, fun z => z.elim a4 a3⟩
      · rintro ⟨a1, a2, a3⟩; exact ⟨⟨a1, a2, fun z => a3 (.inr z)⟩, fun z => a3 (.inl z)⟩
noncomputable def missL (ts : List Thing) (c : Int) (ps : MRow) : List Int := ((heldR (ts.take (atW ts c))).map (·.1)).filter fun k => decide (k ∉ cutsOf (ts.drop (atW ts c))) && decide (k ∉ ps.map (·.1) ++ toldOf (ts.drop (atW ts c)))
theorem miss_empty {ts : List Thing} (h : fw L0 ts = none) {c : Int} (hc : c = (runL L0 ts).c) (ps : MRow) : (missL ts c ps).isEmpty = (owe (runL L0 ts) c ps).isEmpty := by
  rw [Bool.eq_iff_iff, List.isEmpty_iff, List.isEmpty_iff]
  constructor
  · intro e
    cases g : owe (runL L0 ts) c ps with
    | nil => rfl
    | cons q o =>
      have := (owe_keys h hc ps q.1).mp (by rw [g]; exact List.mem_cons_self ..)
      have : q.1 ∈ missL ts c ps := List.mem_filter.mpr ⟨this.1, by rw [decide_eq_true this.2.1, decide_eq_true this.2.2]; rfl⟩
      rw [e] at this
      cases this
  · intro e
    cases g : missL ts c ps with
    | nil => rfl
    | cons q o =>
      have hm : q ∈ missL ts c ps := by rw [g]; exact List.mem_cons_self ..
      obtain ⟨h1, h2⟩ := List.mem_filter.mp hm
      rw [Bool.and_eq_true] at h2
      have := (owe_keys h hc ps q).mpr ⟨h1, of_decide_eq_true h2.1, of_decide_eq_true h2.2⟩
      rw [e] at this
      cases this
end SW

namespace K
open PySem PySem.Spec PyProof.Rows L2 SW
end K
namespace SW
open PySem PySem.Spec PyProof.Rows L2
theorem wVarA {σ : L2.St} {H : Hp} {Q : VK} {v : V} {i : Nat} (h : Q v H) (e : σ[i]? = some (some v) := by with_unfolding_all exact rfl) : tVar i σ H Q := ⟨v, e, h⟩
theorem wModA {H : Hp} {Q : VK} {g : Int → Int → V} {i j : Int} (h : Q (g i j) H) (c : 0 < j := by with_unfolding_all omega) : rI (fun _ j => 0 < j) g (.int i) (.int j) H Q := wMod c h
theorem wDivLA {H : Hp} {Q : VK} {g : Int → Int → V} {i j : Int} (h : Q (g i j) H) (c : 0 < j ∧ j < 18446744073709551616 := by with_unfolding_all omega) : rI CDivL g (.int i) (.int j) H Q := wDivL c h
theorem wMulA {H : Hp} {Q : VK} {g : Int → Int → V} {i j : Int} (h : Q (g i j) H) (c : (-18446744073709551616 < i ∧ i < 18446744073709551616) ∨ (-18446744073709551616 < j ∧ j < 18446744073709551616) := by with_unfolding_all omega) : rI CMul g (.int i) (.int j) H Q := wMul c h
theorem wPowA {H : Hp} {Q : VK} {g : Int → Int → V} {i j : Int} (h : Q (g i j) H) (c : 0 ≤ j ∧ j ≤ 1000000 ∧ i.natAbs < 2 ^ 64 := by with_unfolding_all decide) : rI CPow g (.int i) (.int j) H Q := wPow c h
theorem wIxLA {K : PySem.W.Frag} {H : Hp} {Q : VK} {v : V} {p : Addr} {xs : List V} {i : Int} (h : Q v H) (e : H p = some (.lst xs) := by first | with_reducible assumption | exact upd_same) (a : atI xs i = some v := by with_unfolding_all exact rfl) : rIxL K (.ref p) (.int i) H Q := wIxL e a h
theorem wIxTA {K : PySem.W.Frag} {H : Hp} {Q : VK} {v : V} {p : Addr} {xs : List V} {i : Int} (h : Q v H) (e : H p = some (.tup xs) := by first | with_reducible assumption | exact upd_same) (a : atI xs i = some v := by with_unfolding_all exact rfl) : rIxT K (.ref p) (.int i) H Q := wIxT e a h
theorem wSetLA {H : Hp} {v : V} {p : Addr} {xs : List V} {i : Int} {j : Nat} {Q : Hp → Prop} (h : Q (upd H p (.lst (xs.set j v)))) (e : H p = some (.lst xs) := by first | with_reducible assumption | exact upd_same) (hj : ixN xs.length i = some j := by with_unfolding_all exact rfl) : rSetL (.ref p) (.int i) v H Q := wSetL e hj h
theorem wGoA {N N' : L2.St → Hp → Prop} {σ : L2.St} {H : Hp} (h : N' σ H) (e : N = N' := by with_reducible assumption) : N σ H := wGo e h
end SW
namespace K
open PySem PySem.Spec PyProof.Rows L2 SW
local macro_rules | `(tactic| walk_at $x:str) => do
  let h ← `(?_)
  let l ← `(fun _ _ => ?_)
  let ws := if x.getString == "W0" then "wCons wNil wVarA" else if x.getString == "W1" then "wC wName wGoA" else "wSeqC wCut wAsg wName wOp wC wVarA wI0 wModA wDivLA wMulA wPowA wEqI wNeI wIfS wTest wB wNot wNotV wAndV wOrV wBl wIxLA wIxTA wSub wSetLA wNil wCons wLst wTup wCall wCB wRet wDrop wNext wFor wIList wRng1 wAnd wOr wChain wComp wInt1 wUn wFld wSFld wMeth wMake wDGet1 wDPop2 wDPut wCompSet wSl wNoPart wPart wITup wDPop1 wDIn wU wEnum wCompN wRevL wDGet wIDict wDNotIn wGoA"
  let t ← (ws.splitOn " ").foldrM (fun r t => `(tactic| first | with_reducible refine $(Lean.mkIdent (Lean.Name.mkStr `SW r)) $(if r == "wSeqC" || r == "wCut" then l else h) | $t:tactic)) (← `(tactic| fail))
  `(tactic| repeat $t:tactic)



noncomputable def top (i : Nat) : Stmt := PySem.Challenge.pw_slowshift_k31_first_wrong_thing.main.body.getD i (.Pass ⟨0, 0, 0, 0⟩)
noncomputable abbrev s_is_whole : Stmt := (top 2)
theorem sc_is_whole : FnScope ["thing"] ["thing"] (defScope s_is_whole) := ⟨rfl, rfl, rfl, by decide +kernel, rfl, by decide +kernel, by decide +kernel⟩
noncomputable abbrev s_is_point : Stmt := (top 3)
theorem sc_is_point : FnScope ["thing"] ["thing"] (defScope s_is_point) := ⟨rfl, rfl, rfl, by decide +kernel, rfl, by decide +kernel, by decide +kernel⟩
noncomputable abbrev s_Listener___init : Stmt := (inClass (top 5) 0)
theorem sc_Listener___init : FnScope ["self"] ["self"] (defScope s_Listener___init) := ⟨rfl, rfl, rfl, by decide +kernel, rfl, by decide +kernel, by decide +kernel⟩
noncomputable abbrev s_Listener_agrees : Stmt := (inClass (top 5) 1)
theorem sc_Listener_agrees : FnScope ["self", "thing"] ["self", "thing"] (defScope s_Listener_agrees) := ⟨rfl, rfl, rfl, by decide +kernel, rfl, by decide +kernel, by decide +kernel⟩
noncomputable abbrev s_Listener_agrees_to_deed : Stmt := (inClass (top 5) 2)
theorem sc_Listener_agrees_to_deed : FnScope ["self", "thing", "key", "before"] ["self", "thing"] (defScope s_Listener_agrees_to_deed) := ⟨rfl, rfl, rfl, by decide +kernel, rfl, by decide +kernel, by decide +kernel⟩
noncomputable abbrev s_Listener_agrees_to_step : Stmt := (inClass (top 5) 3)
theorem sc_Listener_agrees_to_step : FnScope ["self", "cursor", "following", "pairs", "pair"] ["self", "cursor", "following", "pairs"] (defScope s_Listener_agrees_to_step) := ⟨rfl, rfl, rfl, by decide +kernel, rfl, by decide +kernel, by decide +kernel⟩
noncomputable abbrev s_Listener_has_all : Stmt := (inClass (top 5) 4)
theorem sc_Listener_has_all : FnScope ["self", "pairs", "unlike"] ["self", "pairs"] (defScope s_Listener_has_all) := ⟨rfl, rfl, rfl, by decide +kernel, rfl, by decide +kernel, by decide +kernel⟩
noncomputable abbrev s_may_follow : Stmt := (top 6)
theorem sc_may_follow : FnScope ["following", "cursor"] ["following", "cursor"] (defScope s_may_follow) := ⟨rfl, rfl, rfl, by decide +kernel, rfl, by decide +kernel, by decide +kernel⟩
noncomputable abbrev s_first_wrong : Stmt := (top 7)
theorem sc_first_wrong : FnScope ["story", "listener", "number", "thing"] ["story"] (defScope s_first_wrong) := ⟨rfl, rfl, rfl, by decide +kernel, rfl, by decide +kernel, by decide +kernel⟩
noncomputable abbrev s_law_cell_at : Stmt := (top 9)
theorem sc_law_cell_at : FnScope ["script", "k"] ["script", "k"] (defScope s_law_cell_at) := ⟨rfl, rfl, rfl, by decide +kernel, rfl, by decide +kernel, by decide +kernel⟩
noncomputable abbrev s_law_mixed : Stmt := (top 10)
theorem sc_law_mixed : FnScope ["cell", "k", "number"] ["cell", "k"] (defScope s_law_mixed) := ⟨rfl, rfl, rfl, by decide +kernel, rfl, by decide +kernel, by decide +kernel⟩
noncomputable abbrev s_law_pot : Stmt := (top 11)
theorem sc_law_pot : FnScope ["cell"] ["cell"] (defScope s_law_pot) := ⟨rfl, rfl, rfl, by decide +kernel, rfl, by decide +kernel, by decide +kernel⟩
noncomputable abbrev s_law_take : Stmt := (top 12)
theorem sc_law_take : FnScope ["pot", "many", "told"] ["pot", "many"] (defScope s_law_take) := ⟨rfl, rfl, rfl, by decide +kernel, rfl, by decide +kernel, by decide +kernel⟩
noncomputable abbrev s_law_worth : Stmt := (top 13)
theorem sc_law_worth : FnScope ["pot"] ["pot"] (defScope s_law_worth) := ⟨rfl, rfl, rfl, by decide +kernel, rfl, by decide +kernel, by decide +kernel⟩
noncomputable abbrev s_law_plain_done : Stmt := (top 14)
theorem sc_law_plain_done : FnScope ["plain", "deed", "told"] ["plain", "deed"] (defScope s_law_plain_done) := ⟨rfl, rfl, rfl, by decide +kernel, rfl, by decide +kernel, by decide +kernel⟩
noncomputable abbrev s_law_deed_told : Stmt := (top 15)
theorem sc_law_deed_told : FnScope ["pot", "plain", "key", "way", "deed"] ["pot", "plain"] (defScope s_law_deed_told) := ⟨rfl, rfl, rfl, by decide +kernel, rfl, by decide +kernel, by decide +kernel⟩
noncomputable abbrev s_law_step_told : Stmt := (top 16)
theorem sc_law_step_told : FnScope ["pot", "plain", "walk", "cursor", "behind", "wanted", "keys"] ["pot", "plain", "walk"] (defScope s_law_step_told) := ⟨rfl, rfl, rfl, by decide +kernel, rfl, by decide +kernel, by decide +kernel⟩
noncomputable abbrev s_law_story : Stmt := (top 17)
theorem sc_law_story : FnScope ["pot", "most", "plain", "walk", "story", "k"] ["pot", "most"] (defScope s_law_story) := ⟨rfl, rfl, rfl, by decide +kernel, rfl, by decide +kernel, by decide +kernel⟩
noncomputable abbrev s_law_bent_step : Stmt := (top 18)
theorem sc_law_bent_step : FnScope ["pot", "row", "way", "pairs", "cursor", "some", "more", "at", "key", "worth", "other"] ["pot", "row"] (defScope s_law_bent_step) := ⟨rfl, rfl, rfl, by decide +kernel, rfl, by decide +kernel, by decide +kernel⟩
noncomputable abbrev s_law_bent : Stmt := (top 19)
theorem sc_law_bent : FnScope ["pot", "story", "at", "ahead", "row", "rest", "way", "others", "other"] ["pot", "story"] (defScope s_law_bent) := ⟨rfl, rfl, rfl, by decide +kernel, rfl, by decide +kernel, by decide +kernel⟩
noncomputable abbrev s_law_held : Stmt := (top 20)
theorem sc_law_held : FnScope ["rows", "held", "row"] ["rows"] (defScope s_law_held) := ⟨rfl, rfl, rfl, by decide +kernel, rfl, by decide +kernel, by decide +kernel⟩
noncomputable abbrev s_law_missing : Stmt := (top 21)
theorem sc_law_missing : FnScope ["ahead", "row", "begins", "at", "cuts", "told", "one"] ["ahead", "row"] (defScope s_law_missing) := ⟨rfl, rfl, rfl, by decide +kernel, rfl, by decide +kernel, by decide +kernel⟩
noncomputable abbrev s_law_fits : Stmt := (top 22)
theorem sc_law_fits : FnScope ["ahead", "row", "held", "steps", "cursor"] ["ahead", "row"] (defScope s_law_fits) := ⟨rfl, rfl, rfl, by decide +kernel, rfl, by decide +kernel, by decide +kernel⟩
noncomputable abbrev s_law_first : Stmt := (top 23)
theorem sc_law_first : FnScope ["story", "k"] ["story"] (defScope s_law_first) := ⟨rfl, rfl, rfl, by decide +kernel, rfl, by decide +kernel, by decide +kernel⟩
noncomputable abbrev s_law_told : Stmt := (top 24)
theorem sc_law_told : FnScope ["story", "handed", "found", "due"] ["story"] (defScope s_law_told) := ⟨rfl, rfl, rfl, by decide +kernel, rfl, by decide +kernel, by decide +kernel⟩
noncomputable abbrev s_law : Stmt := (top 25)
theorem sc_law : FnScope ["script", "cell", "pot", "story", "once"] ["script"] (defScope s_law) := ⟨rfl, rfl, rfl, by decide +kernel, rfl, by decide +kernel, by decide +kernel⟩

structure Gs (K : PySem.W.Frag) (mg : Str → Option Value) (C : Addr) : Prop where
  c_LAST_POINT : ∃ t, mg "LAST_POINT" = some (.int 65535 t)
  cl_Listener : Cls K C
  n_Listener_worths : NoAttr K C "worths"
  n_Listener_cursor : NoAttr K C "cursor"
  n_Listener_owed : NoAttr K C "owed"
  b_int : mg "int" = none
  b_bool : mg "bool" = none
  b_isinstance : mg "isinstance" = none
  b_range : mg "range" = none
  b_len : mg "len" = none
  b_list : mg "list" = none
  b_tuple : mg "tuple" = none
  b_max : mg "max" = none
  b_set : mg "set" = none
  b_dict : mg "dict" = none
  b_all : mg "all" = none
  b_sorted : mg "sorted" = none
  b_enumerate : mg "enumerate" = none
theorem hu1_of {A : Around} {k : Nat} (hr : Room k A) : A.units < cLine := Nat.lt_of_le_of_lt (Nat.le_add_right _ 1) (hu_of hr)
section
variable {P : Program} {w : World} {K : PySem.W.Frag} {mg : Str → Option Value} {base : Heap} {C : Addr}
theorem F_whole (d : Dfn K mg "is_whole" s_is_whole ["thing"]) (g : Gs K mg C) : Fn P w K mg base "is_whole" 1 ["thing"] spWhole := by
  refine d.fn sc_is_whole (fun vs H Q E h => ?_) (fun f cdv A outer s H vs Q E hr h => ?_)
  · obtain ⟨n, rfl, _⟩ := h
    rfl
  · obtain ⟨n, rfl, q⟩ := h
    refine ⟨_, (B.sone (B.ret (B.and (B.cB SW.call_isi g.b_isinstance SW.b_isinstance (B.cons (B.v 0) (B.cons (B.ty g.b_int SW.b_int) B.nil))) (B.one (B.not (B.cB SW.call_isi g.b_isinstance SW.b_isinstance (B.cons (B.v 0) (B.cons (B.ty g.b_bool SW.b_bool) B.nil)))))))), ?_⟩
    walk_at "W"
    refine SW.iIsi (.int n) isi_int_int ?_
    walk_at "W"
    refine iteT ?_
    walk_at "W"
    refine SW.iIsi (.int n) isi_int_bool ?_
    walk_at "W"
    exact q
noncomputable def spIsP : Sp := fun vs H Q _ => ∃ n : Int, vs = [.int n] ∧ Q (.bl (decide (0 ≤ n ∧ n ≤ 65535))) H
theorem F_isp (d : Dfn K mg "is_point" s_is_point ["thing"]) (g : Gs K mg C) (F_is_whole : Fn P w K mg base "is_whole" 1 ["thing"] spWhole) : Fn P w K mg base "is_point" 2 ["thing"] spIsP := by
  refine d.fn sc_is_point (fun vs H Q E h => ?_) (fun f cdv A outer s H vs Q E hr h => ?_)
  · obtain ⟨n, rfl, _⟩ := h
    rfl
  · obtain ⟨n, rfl, q⟩ := h
    refine ⟨_, (B.sone (B.ret (B.and (B.fn F_is_whole (hr.mono (by first | decide | omega)) (B.cons (B.v 0) B.nil)) (B.one (B.chain op_le op_le B.int (B.v 0) (B.gint g.c_LAST_POINT)))))), ?_⟩
    walk_at "W"
    refine ⟨_, rfl, ?_⟩
    walk_at "W"
    refine iteT ?_
    walk_at "W"
    by_cases h0 : 0 ≤ n
    · refine iteY h0 ?_
      walk_at "W"
      have e : decide (n ≤ 65535) = decide (0 ≤ n ∧ n ≤ 65535) := by simp [h0]
      rw [e]
      exact q
    · refine iteNo h0 ?_
      have e : decide (0 ≤ n ∧ n ≤ 65535) = false := by simp [h0]
      rw [e] at q
      exact q
theorem F_may (d : Dfn K mg "may_follow" s_may_follow ["following", "cursor"]) (F_is_point : Fn P w K mg base "is_point" 2 ["thing"] spIsP) : Fn P w K mg base "may_follow" 3 ["following", "cursor"] spMayF := by
  refine d.fn sc_may_follow (fun vs H Q E h => ?_) (fun f cdv A outer s H vs Q E hr h => ?_)
  · obtain ⟨b, c, rfl, _⟩ := h
    rfl
  · obtain ⟨b, c, rfl, q⟩ := h
    refine ⟨_, (B.sone (B.ret (B.or (B.cmp op_eq (B.v 0) B.int) (B.one (B.and (B.fn F_is_point (hr.mono (by first | decide | omega)) (B.cons (B.v 0) B.nil)) (B.one (B.cmp op_gt (B.v 0) (B.v 1)))))))), ?_⟩
    walk_at "W"
    unfold mayF at q
    by_cases h0 : b = 0
    · rw [decide_eq_true h0, Bool.true_or] at q
      refine iteY (by rw [h0]) ?_
      exact q
    · rw [decide_eq_false h0, Bool.false_or] at q
      refine iteNo (fun z => h0 (by injection z)) ?_
      walk_at "W"
      refine ⟨_, rfl, ?_⟩
      walk_at "W"
      by_cases h1 : 0 ≤ b ∧ b ≤ 65535
      · rw [decide_eq_true h1, Bool.true_and] at q
        refine iteY h1 ?_
        walk_at "W"
        exact q
      · rw [decide_eq_false h1, Bool.false_and] at q
        refine iteNo h1 ?_
        exact q
theorem L_init (d : Dk K mg C "Listener" "Listener.__init__" s_Listener___init ["self"]) (g : Gs K mg C) : Mkr P w K mg base C "Listener" 1 ["self"] (spLInit C) := by
  refine d.mk' sc_Listener___init (fun vs H Q E h => ?_) (fun f cdv A outer s H vs Q E hr h => ?_)
  · obtain ⟨x, dx, rfl, _⟩ := h
    rfl
  · obtain ⟨x, dx, rfl, hx, q⟩ := h
    refine ⟨_, (B.scons (B.sfld (B.v 0) B.dnew)
      (B.scons (B.sfld (B.v 0) B.int)
      (B.sone (B.sfld (B.v 0) B.dnew)))), ?_⟩
    walk_at "W"
    intro wa hwa
    have nw : x ≠ wa := ne_of_none hx hwa
    walk_at "W"
    refine SW.iSFld (by rw [upd_ne nw]; exact hx) g.cl_Listener g.n_Listener_worths (by show 0 < 1000; decide) ?_
    walk_at "W"
    refine SW.iSFld upd_same g.cl_Listener g.n_Listener_cursor (by show 1 < 1000; decide) ?_
    walk_at "W"
    intro oa hoa
    have no : x ≠ oa := ne_of_none upd_same hoa
    rw [upd_ne no.symm, upd_ne no.symm] at hoa
    have nwo : wa ≠ oa := fun z => by rw [z, upd_same] at hoa; cases hoa
    have hoa0 : H oa = none := by rw [upd_ne nwo.symm] at hoa; exact hoa
    walk_at "W"
    refine SW.iSFld (by rw [upd_ne no]; exact upd_same) g.cl_Listener g.n_Listener_owed (by show 2 < 1000; decide) ?_
    walk_at "W"
    refine q _ wa oa ⟨⟨dx, upd_same⟩, ?_, ?_, List.nodup_nil, List.nodup_nil, nwo⟩ hwa hoa0 fun b o nb e => ?_
    · rw [upd_ne nw.symm, upd_ne nwo, upd_ne nw.symm, upd_ne nw.symm, upd_same]; rfl
    · rw [upd_ne no.symm, upd_same]; rfl
    · rw [upd_ne nb, upd_ne (ne_of_none e hoa0), upd_ne nb, upd_ne nb, upd_ne (ne_of_none e hwa)]; exact e
end

section
variable {P : Program} {w : World} {K : PySem.W.Frag} {mg : Str → Option Value} {base : Heap} {C : Addr}
theorem L_deed (d : Dm K C "agrees_to_deed" "Listener.agrees_to_deed" s_Listener_agrees_to_deed ["self", "thing"]) (g : Gs K mg C) : Mt P w K mg base C "agrees_to_deed" 1 ["self", "thing"] (spDeedA C) := by
  refine d.mt sc_Listener_agrees_to_deed (fun vs H Q E h => ?_) (fun f cdv A outer s H vs Q E hr h => ?_)
  · obtain ⟨p, wa, oa, v, L, th, rfl, _⟩ := h
    rfl
  · obtain ⟨p, wa, oa, v, L, th, rfl, X, hv, hd, hl, q⟩ := h
    first | (have zz_ := X.ob; have dx := zz_.1; have hp := zz_.2; clear zz_) | obtain ⟨dx, hp⟩ := X.ob
    have hw := X.hw
    have hlen : (kvs L.w).length < sizeLine := by rw [kvs_len]; exact Nat.lt_of_le_of_lt hl (by decide)
    refine ⟨_, (B.scons (B.set 2 sc_Listener_agrees_to_deed.nd (B.ix ix_tup (B.v 1) B.int))
      (B.scons (B.set 3 sc_Listener_agrees_to_deed.nd (B.dget1 (hu_of hr) (B.fld (B.v 0)) (B.v 2) (m := B.m1)))
      (B.scons (B.ifs (B.tcmp op_eq (B.ix ix_tup (B.v 1) B.int) B.str) (B.sone (B.dput (hu_of hr) (B.fld (B.v 0)) (B.v 2) (B.ix ix_tup (B.v 1) B.int))) B.snil)
      (B.scons (B.ifs (B.tcmp op_eq (B.ix ix_tup (B.v 1) B.int) B.str) (B.scons (B.expr (B.dpop2 (B.fld (B.v 0)) (B.v 2) B.non (m := B.m2)))
      (B.sone (B.expr (B.dpop2 (B.fld (B.v 0)) (B.v 2) B.non (m := B.m2))))) B.snil)
      (B.sone (B.ret (B.cmp op_eq (B.ix ix_tup (B.v 1) (B.un un_neg B.int)) (B.v 3)))))))), ?_⟩
    cases th with
    | put k y t =>
      obtain ⟨u, rfl, hu⟩ := hv
      have hu2 : upd H wa (.dK (kvs (rPut L.w k y))) u = some (.tup [.str "put", .int k, .int y, oV t]) := by rw [upd_ne (ne_of hu hw (by intro z; cases z))]; exact hu
      walk_at "W"
      refine SW.iFld hp g.cl_Listener g.n_Listener_worths rfl ?_
      walk_at "W"
      refine ⟨wa, rfl, .inl ⟨_, .inl hw⟩, ?_⟩
      walk_at "W"
      refine ⟨_, DGet.k (k := Sum.inl k) hw, ?_⟩
      rw [oV_getD]
      walk_at "W"
      refine ⟨rfl, ?_⟩
      walk_at "W"
      refine iteY rfl ?_
      walk_at "W"
      refine SW.iFld hp g.cl_Listener g.n_Listener_worths rfl ?_
      walk_at "W"
      refine ⟨wa, _, rfl, DPut.k (k := Sum.inl k) hw hlen, ?_⟩
      rw [putK_kvs]
      walk_at "W"
      refine ⟨rfl, ?_⟩
      walk_at "W"
      refine iteNo (str_ne (by decide +kernel)) ?_
      walk_at "W"
      refine ⟨oV_scal _ _, ?_⟩
      rw [oV_inj]
      exact q _ oa (X.setw (rPut_ok X.kw)) (.inl rfl) (Fr.updw X)
    | look k t =>
      obtain ⟨u, rfl, hu⟩ := hv
      walk_at "W"
      refine SW.iFld hp g.cl_Listener g.n_Listener_worths rfl ?_
      walk_at "W"
      refine ⟨wa, rfl, .inl ⟨_, .inl hw⟩, ?_⟩
      walk_at "W"
      refine ⟨_, DGet.k (k := Sum.inl k) hw, ?_⟩
      rw [oV_getD]
      walk_at "W"
      refine ⟨rfl, ?_⟩
      walk_at "W"
      refine iteNo (str_ne (by decide +kernel)) ?_
      walk_at "W"
      refine ⟨rfl, ?_⟩
      walk_at "W"
      refine iteNo (str_ne (by decide +kernel)) ?_
      walk_at "W"
      refine ⟨oV_scal _ _, ?_⟩
      rw [oV_inj]
      exact q _ oa X (.inl rfl) (Fr.refl _ _)
    | cut k t =>
      obtain ⟨u, rfl, hu⟩ := hv
      walk_at "W"
      refine SW.iFld hp g.cl_Listener g.n_Listener_worths rfl ?_
      walk_at "W"
      refine ⟨wa, rfl, .inl ⟨_, .inl hw⟩, ?_⟩
      walk_at "W"
      refine ⟨_, DGet.k (k := Sum.inl k) hw, ?_⟩
      rw [oV_getD]
      walk_at "W"
      refine ⟨rfl, ?_⟩
      walk_at "W"
      refine iteNo (str_ne (by decide +kernel)) ?_
      walk_at "W"
      refine ⟨rfl, ?_⟩
      walk_at "W"
      refine iteY rfl ?_
      walk_at "W"
      refine SW.iFld hp g.cl_Listener g.n_Listener_worths rfl ?_
      walk_at "W"
      refine ⟨wa, rfl, .inl ⟨_, .inl hw⟩, ?_⟩
      walk_at "W"
      refine pop_any hw (fun H1 h1 v => ?_)
      have X1 : LsX C H1 p ⟨rCut L.w k, L.c, L.o⟩ wa oa := by rw [h1]; exact X.setw (rCut_ok X.kw)
      have F1 : Fr (fp p wa oa) H H1 := by rw [h1]; exact Fr.updw X
      have hu1 := X.tk F1 _ _ hu
      first | (have zz_ := X1.ob; have dx1 := zz_.1; have hp1 := zz_.2; clear zz_) | obtain ⟨dx1, hp1⟩ := X1.ob
      have ho1 := X1.ho
      walk_at "W"
      refine SW.iFld hp1 g.cl_Listener g.n_Listener_owed rfl ?_
      walk_at "W"
      refine ⟨oa, rfl, .inl ⟨_, .inl ho1⟩, ?_⟩
      walk_at "W"
      refine pop_any ho1 (fun H2 h2 v => ?_)
      have X2 : LsX C H2 p ⟨rCut L.w k, L.c, rCut L.o k⟩ wa oa := by rw [h2]; exact X1.seto (rCut_ok X1.ko)
      have F2 : Fr (fp p wa oa) H H2 := F1.trans (by rw [h2]; exact Fr.updo X1)
      have hu2 := X.tk F2 _ _ hu
      walk_at "W"
      refine ⟨oV_scal _ _, ?_⟩
      rw [oV_inj]
      exact q _ oa X2 (.inl rfl) F2
    | step a b c => cases hd
theorem L_has (d : Dm K C "has_all" "Listener.has_all" s_Listener_has_all ["self", "pairs"]) (g : Gs K mg C) : Mt P w K mg base C "has_all" 1 ["self", "pairs"] (spHasAll C) := by
  refine d.mt sc_Listener_has_all (fun vs H Q E h => ?_) (fun f cdv A outer s H vs Q E hr h => ?_)
  · obtain ⟨p, q, wa, oa, L, xs, ps, rfl, _⟩ := h
    rfl
  · obtain ⟨p, q, wa, oa, L, xs, ps, rfl, X, hq, hps, hl, k⟩ := h
    have hxl := hps.len
    refine ⟨_, (B.scons (B.set 2 sc_Listener_has_all.nd (B.cmp op_eq (B.cB SW.call_lenS g.b_len SW.b_len (B.cons (B.cT SW.call_setL g.b_set SW.b_set (B.cons (SW.B.comp [] ["pair"] (SW.CompScope.of rfl rfl (by decide +kernel) (by decide +kernel) rfl trivial rfl rfl rfl) (by decide +kernel) (B.itup (B.v 1)) (fun _ _ _ _ => (B.ix (SW.ix_tupK K) (B.v 0) B.int))) B.nil)) B.nil)) (B.cB call_len_seq g.b_len SW.b_len (B.cons (B.v 1) B.nil))))
      (B.sone (B.ret (B.and (B.v 2) (B.one (B.cB SW.call_allL g.b_all SW.b_all (B.cons (SW.B.compN ["key", "worth"] [0] ["key", "worth", "self"] (SW.CompScopeN.of rfl rfl (by decide +kernel) (by decide +kernel) ⟨rfl, trivial⟩ rfl rfl rfl) (B.itup (B.v 1)) (fun _ _ _ _ => (B.gtupK K (n := 2) (B.gcons (B.gname (i := 0) (show (["key", "worth", "self"] : List Str).Nodup by decide +kernel)) (B.gcons (B.gname (i := 1) (show (["key", "worth", "self"] : List Str).Nodup by decide +kernel)) B.gnil)))) (fun _ _ _ _ => (B.cmp op_eq (B.dget1 (hu_of hr) (B.fldK K (B.v 2)) (B.v 0) (m := B.m1)) (B.v 1)))) B.nil))))))), ?_⟩
    walk_at "W"
    refine ⟨q, rfl, ⟨_, SqT.of hq⟩, fun D hD => ?_⟩
    refine comp_tupU (xs := xs) (fun i σ' H' => ∃ v, σ' = [v] ∧ Same H H' ∧ H' D = some (.lst (((ps.take i).map (·.1)).map V.int))) ⟨none, rfl, Same.new hD, upd_same⟩ (fun i σ' H' _ ⟨v, _, s', _⟩ => SqT.of (s' _ _ hq)) ?_ ?_
    · rintro i x σ' H' hx hi ⟨v, rfl, s', hD'⟩
      obtain ⟨pp, hpp, a, rfl, ha⟩ := paired_get hps hx
      have ha' := s' _ _ ha
      have hDn := fun b o (e : H b = some o) => ne_of_none e hD
      walk_at "W"
      refine CN.mk hi hD' (by rw [List.length_map, List.length_map, List.length_take]; exact Nat.lt_of_le_of_lt (Nat.le_trans (Nat.min_le_right ..) hl) (by decide)) ⟨_, rfl, fun b o e => by rw [upd_ne (hDn b o e)]; exact s' _ _ e, ?_⟩
      rw [upd_same, List.take_add_one, hpp]
      simp
    · rintro σ' H' ⟨v, rfl, s', hD'⟩
      rw [hxl, List.take_length] at hD'
      walk_at "W"
      refine ⟨D, ps.map (·.1), rfl, SqL.of hD', by rw [List.length_map]; omega, rfl, fun a S ha => ?_⟩
      have s2 := s'.trans (Same.new (o := .set S (nDist (ps.map (·.1)))) ha)
      walk_at "W"
      refine ⟨a, S, _, rfl, upd_same, ?_⟩
      walk_at "W"
      refine SW.iLen (.inr (SqT.of (s2 _ _ hq))) ?_
      walk_at "W"
      rw [hxl]
      have X2 := X.same s2
      by_cases hn : nDist (ps.map (·.1)) = ps.length
      · refine iteY (by rw [hn]) ?_
        walk_at "W"
        refine ⟨q, rfl, ⟨_, SqT.of (s2 _ _ hq)⟩, fun D2 hD2 => ?_⟩
        obtain ⟨H2, hH2⟩ : ∃ H2, H2 = upd H' a (.set S (nDist (ps.map (·.1)))) := ⟨_, rfl⟩
        rw [← hH2] at s2 hD2 X2 ⊢
        clear hH2
        refine compN_tup (tt := fun _ H Q => Q true H) (xs := xs) (fun i σ' H' => (∃ v0 v1, σ' = [v0, v1, some (.ref p)]) ∧ Same H2 H' ∧ H' D2 = some (.lst (((ps.take i).map fun q => decide (rLook L.w q.1 = some q.2)).map V.bl))) ⟨⟨none, none, rfl⟩, Same.new hD2, upd_same⟩ (fun i σ' H' _ ⟨_, s', _⟩ => SqT.of (s' _ _ (s2 _ _ hq))) ?_ ?_
        · rintro i x σ' H' hx hi ⟨⟨v0, v1, rfl⟩, s', hD'⟩
          obtain ⟨⟨k1, y1⟩, hpp, a, rfl, ha⟩ := paired_get hps hx
          have ha' := s' _ _ (s2 _ _ ha)
          have X' := X2.same s'
          first | (have zz_ := X'.ob; have dx := zz_.1; have hp := zz_.2; clear zz_) | obtain ⟨dx, hp⟩ := X'.ob
          have hDn := fun b o (e : H2 b = some o) => ne_of_none e hD2
          refine ⟨a, _, rfl, SqT.of ha', rfl, _, _, rfl, ?_⟩
          walk_at "W"
          refine ⟨_, _, rfl, ?_⟩
          walk_at "W"
          refine ⟨rfl, ?_⟩
          refine iteT ?_
          walk_at "W"
          refine SW.iFld hp g.cl_Listener g.n_Listener_worths rfl ?_
          walk_at "W"
          refine ⟨wa, rfl, .inl ⟨_, .inl X'.hw⟩, ?_⟩
          walk_at "W"
          refine ⟨_, DGet.k (k := Sum.inl k1) X'.hw, ?_⟩
          rw [oV_getD]
          walk_at "W"
          refine ⟨oV_scal _ (some y1), ?_⟩
          rw [show V.int y1 = oV (some y1) from rfl, oV_inj]
          refine CN.mk hi hD' (by rw [List.length_map, List.length_map, List.length_take]; exact Nat.lt_of_le_of_lt (Nat.le_trans (Nat.min_le_right ..) hl) (by decide)) ⟨⟨_, _, rfl⟩, fun b o e => by rw [upd_ne (hDn b o e)]; exact s' _ _ e, ?_⟩
          rw [upd_same, List.take_add_one, hpp]
          simp
        · rintro σ' H' ⟨⟨v0, v1, rfl⟩, s', hD'⟩
          rw [hxl, List.take_length] at hD'
          walk_at "W"
          refine ⟨D2, _, rfl, SqL.of hD', rfl, ?_⟩
          have e : hasAll L.w ps = List.all (ps.map fun q => decide (rLook L.w q.1 = some q.2)) id := by
            unfold hasAll
            rw [decide_eq_true hn, Bool.true_and, List.all_map]
            rfl
          rw [← e]
          exact k _ (s2.trans s')
      · refine iteNo (fun z => hn (by injection z with z; omega)) ?_
        have e : hasAll L.w ps = false := by
          unfold hasAll
          rw [decide_eq_false hn, Bool.false_and]
        have k' := k _ s2
        rw [e] at k'
        exact k'
end

section
variable {P : Program} {w : World} {K : PySem.W.Frag} {mg : Str → Option Value} {base : Heap} {C : Addr}
theorem L_step (d : Dm K C "agrees_to_step" "Listener.agrees_to_step" s_Listener_agrees_to_step ["self", "cursor", "following", "pairs"]) (g : Gs K mg C) (F_may_follow : Fn P w K mg base "may_follow" 3 ["following", "cursor"] spMayF) (M_Listener_has_all : Mt P w K mg base C "has_all" 1 ["self", "pairs"] (spHasAll C)) :
    Mt P w K mg base C "agrees_to_step" 4 ["self", "cursor", "following", "pairs"] (spStepA C) := by
  refine d.mt sc_Listener_agrees_to_step (fun vs H Q E h => ?_) (fun f cdv A outer s H vs Q E hr h => ?_)
  · obtain ⟨p, q, wa, oa, c, b, L, xs, ps, rfl, _⟩ := h
    rfl
  · obtain ⟨p, q, wa, oa, c, b, L, xs, ps, rfl, X, hq, hps, hl, hwl, k⟩ := h
    first | (have zz_ := X.ob; have dx := zz_.1; have hp := zz_.2; clear zz_) | obtain ⟨dx, hp⟩ := X.ob
    have hxl := hps.len
    have no : stepOk L c b ps = false → Q (.bl false) H := fun z => by
      have e1 : agr L (.step c b ps) = false := by show (stepOk L c b ps && _) = false; rw [z]; rfl
      have e2 : nextL L (.step c b ps) = L := by show (if stepOk L c b ps = true then _ else _) = _; rw [z]; rfl
      have k' := k H oa (by rw [e2]; exact X) (.inl rfl) (Fr.refl _ _)
      rw [e1] at k'
      exact k'
    refine ⟨_, (B.scons (B.ifs (B.tw (B.wor (B.tcmp op_ne (B.v 1) (B.fld (B.v 0))) (B.wor (B.tnot (B.tval (B.fn F_may_follow (hr.mono (by first | decide | omega)) (B.cons (B.v 2) (B.cons (B.v 1) B.nil))))) (B.wor1 (B.tnot (B.tval (B.meth (B.v 0) g.cl_Listener M_Listener_has_all (hr.mono (by first | decide | omega)) (B.cons (B.v 3) B.nil)))))))) (B.sone (B.ret B.bl)) B.snil)
      (B.scons (B.ifs (B.tcmp op_eq (B.v 1) B.int) (B.sone (B.sfld (B.v 0) (B.cT SW.call_dictD g.b_dict SW.b_dict (B.cons (B.fld (B.v 0)) B.nil)))) B.snil)
      (B.scons (B.fors (B.itup (B.v 3)) (B.gname (i := 4) sc_Listener_agrees_to_step.nd) (B.sone (B.expr (B.dpop2 (B.fld (B.v 0)) (B.ix ix_tup (B.v 4) B.int) B.non (m := B.m2)))))
      (B.scons (B.sfld (B.v 0) (B.v 2))
      (B.sone (B.ret (B.or (B.cmp op_ne (B.v 2) B.int) (B.one (B.cmp op_eq (B.cB call_lenD g.b_len SW.b_len (B.cons (B.fld (B.v 0)) B.nil)) B.int))))))))), ?_⟩
    walk_at "W"
    refine SW.iFld hp g.cl_Listener g.n_Listener_cursor rfl ?_
    walk_at "W"
    by_cases hc : c = L.c
    · rw [show decide (V.int c = V.int L.c) = true from decide_eq_true (by rw [hc])]
      refine iteF ?_
      walk_at "W"
      refine wMayF ?_
      walk_at "W"
      by_cases hm : mayF b c = true
      · rw [hm]
        refine iteF ?_
        walk_at "W"
        refine ⟨p, dx, _, rfl, hp, rfl, ?_⟩
        walk_at "W"
        refine wHasAll X hq hps hl fun H1 s1 => ?_
        have X1 := X.same s1
        have hq1 := s1 _ _ hq
        walk_at "W"
        by_cases hh : hasAll L.w ps = true
        · rw [hh]
          refine iteF ?_
          have hok : stepOk L c b ps = true := by
            unfold stepOk
            rw [decide_eq_true hc, hm, hh]; rfl
          walk_at "W"
          rename_i N1 hN1
          have rest : ∀ H2 oa2, LsX C H2 p ⟨L.w, L.c, if c = 0 then L.w else L.o⟩ wa oa2 → (oa2 = oa ∨ H oa2 = none) → Fr (fp p wa oa) H H2 → N1 [some (.ref p), some (.int c), some (.int b), some (.ref q), none] H2 := by
            intro H2 oa2 X2 g2 f2
            have hq2 := X.tk f2 _ _ hq
            have hps2 := hps.keep (X.tk f2)
            refine SW.wGo hN1 ?_
            walk_at "W"
            refine ⟨q, rfl, ⟨_, SqT.of hq2⟩, ?_⟩
            refine for_tup (xs := xs) (fun i σ H' => ∃ v, σ = [some (.ref p), some (.int c), some (.int b), some (.ref q), v] ∧ LsX C H' p ⟨L.w, L.c, cutAll (if c = 0 then L.w else L.o) (ps.take i)⟩ wa oa2 ∧ Fr (fp p wa oa2) H2 H') ⟨none, rfl, X2, Fr.refl _ _⟩ (fun i σ H' _ ⟨v, _, X', f'⟩ => SqT.of (X2.tk f' _ _ hq2)) ?_ ?_
            · rintro i x σ H' hx ⟨v, rfl, X', f'⟩
              obtain ⟨⟨k1, y1⟩, hpp, a, rfl, ha⟩ := paired_get hps2 hx
              have ha' := X2.tk f' _ _ ha
              first | (have zz_ := X'.ob; have dx' := zz_.1; have hp' := zz_.2; clear zz_) | obtain ⟨dx', hp'⟩ := X'.ob
              walk_at "W"
              refine SW.iFld hp' g.cl_Listener g.n_Listener_owed rfl ?_
              walk_at "W"
              refine ⟨oa2, rfl, .inl ⟨_, .inl X'.ho⟩, ?_⟩
              walk_at "W"
              refine pop_any X'.ho (fun H3 h3 v => ?_)
              refine ⟨_, rfl, ?_, f'.trans (by rw [h3]; exact Fr.updo X')⟩
              rw [List.take_add_one, hpp]
              show LsX C H3 p ⟨L.w, L.c, cutAll _ (ps.take i ++ [(k1, y1)])⟩ wa oa2
              rw [cutAll_snoc, h3]
              exact X'.seto (rCut_ok X'.ko)
            · rintro σ H' ⟨v, rfl, X', f'⟩
              rw [hxl, List.take_length] at X'
              first | (have zz_ := X'.ob; have dx' := zz_.1; have hp' := zz_.2; clear zz_) | obtain ⟨dx', hp'⟩ := X'.ob
              walk_at "W"
              refine SW.iSFld hp' g.cl_Listener g.n_Listener_cursor (by show 3 < 1000; decide) ?_
              have X4 : LsX C (upd H' p (.ins C dx' (putF "cursor" (.int b) [("worths", .ref wa), ("cursor", .int L.c), ("owed", .ref oa2)]))) p ⟨L.w, b, owe L c ps⟩ wa oa2 :=
                ⟨⟨dx', upd_same⟩, by rw [upd_ne X'.npw.symm]; exact X'.hw, by rw [upd_ne X'.npo.symm]; exact X'.ho, X'.kw, X'.ko, X'.ne⟩
              have F4 : Fr (fp p wa oa) H (upd H' p (.ins C dx' (putF "cursor" (.int b) [("worths", .ref wa), ("cursor", .int L.c), ("owed", .ref oa2)]))) := fun b o n e => by
                rw [upd_ne fun z => n (.inl z)]
                refine f' b o (fun z => ?_) (f2 b o n e)
                rcases z with z | z | z
                · exact n (.inl z)
                · exact n (.inr (.inl z))
                · rcases g2 with g2 | g2
                  · exact n (.inr (.inr (z.trans g2)))
                  · rw [z, g2] at e; cases e
              have e2 : nextL L (.step c b ps) = ⟨L.w, b, owe L c ps⟩ := by show (if stepOk L c b ps = true then _ else _) = _; rw [hok]; rfl
              have e1 : agr L (.step c b ps) = (decide (b ≠ 0) || (owe L c ps).isEmpty) := by show (stepOk L c b ps && _) = _; rw [hok]; rfl
              have k' := k _ oa2 (by rw [e2]; exact X4) g2 F4
              rw [e1] at k'
              first | (have zz_ := X4.ob; have dx4 := zz_.1; have hp4 := zz_.2; clear zz_) | obtain ⟨dx4, hp4⟩ := X4.ob
              walk_at "W"
              by_cases hb : b = 0
              · rw [show decide (V.int b = V.int 0) = true from decide_eq_true (by rw [hb])]
                rw [show decide (b ≠ 0) = false from decide_eq_false (fun z => z hb), Bool.false_or] at k'
                refine iteF ?_
                walk_at "W"
                refine SW.iFld hp4 g.cl_Listener g.n_Listener_owed rfl ?_
                walk_at "W"
                refine ⟨oa2, _, rfl, X4.ho, ?_⟩
                walk_at "W"
                rw [kvs_len]
                have e : decide (V.int ((owe L c ps).length : Nat) = V.int 0) = (owe L c ps).isEmpty := by
                  rw [dec_int]
                  cases owe L c ps with
                  | nil => rfl
                  | cons a b => show (((b.length + 1 : Nat) : Int) == 0) = false; rw [beq_eq_false_iff_ne]; omega
                rw [e]
                exact k'
              · rw [show decide (V.int b = V.int 0) = false from decide_eq_false (fun z => hb (by injection z))]
                rw [show decide (b ≠ 0) = true from decide_eq_true hb, Bool.true_or] at k'
                refine iteT ?_
                exact k'
          by_cases hc0 : c = 0
          · refine iteY (by rw [hc0]) ?_
            first | (have zz_ := X1.ob; have dx1 := zz_.1; have hp1 := zz_.2; clear zz_) | obtain ⟨dx1, hp1⟩ := X1.ob
            walk_at "W"
            refine SW.iFld hp1 g.cl_Listener g.n_Listener_worths rfl ?_
            walk_at "W"
            refine ⟨wa, _, rfl, X1.hw, fun oa2 ho2 => ?_⟩
            have np2 : p ≠ oa2 := ne_of_none hp1 ho2
            have nw2 : wa ≠ oa2 := ne_of_none X1.hw ho2
            walk_at "W"
            refine SW.iSFld (by rw [upd_ne np2]; exact hp1) g.cl_Listener g.n_Listener_owed (by show 3 < 1000; decide) ?_
            refine rest _ oa2 ⟨⟨dx1, upd_same⟩, ?_, ?_, X.kw, ?_, nw2⟩ (.inr (s1.free ho2)) fun b o n e => ?_
            · rw [upd_ne X1.npw.symm, upd_ne nw2]; exact X1.hw
            · rw [upd_ne np2.symm, upd_same, if_pos hc0]
            · show ROk (if c = 0 then L.w else L.o)
              rw [if_pos hc0]; exact X.kw
            · rw [upd_ne fun z => n (.inl z), upd_ne (ne_of_none (s1 _ _ e) ho2)]; exact s1 _ _ e
          · refine iteNo (fun z => hc0 (by injection z)) ?_
            refine rest H1 oa ?_ (.inl rfl) (Fr.same s1)
            rw [if_neg hc0]
            exact X1
        · rw [Bool.not_eq_true] at hh
          rw [hh]
          refine iteT ?_
          walk_at "W"
          have e1 : stepOk L c b ps = false := by unfold stepOk; rw [hh, Bool.and_false]
          have e2 : agr L (.step c b ps) = false := by show (stepOk L c b ps && _) = false; rw [e1]; rfl
          have e3 : nextL L (.step c b ps) = L := by show (if stepOk L c b ps = true then _ else _) = _; rw [e1]; rfl
          have k' := k H1 oa (by rw [e3]; exact X1) (.inl rfl) (Fr.same s1)
          rw [e2] at k'
          exact k'
      · rw [Bool.not_eq_true] at hm
        rw [hm]
        refine iteT ?_
        walk_at "W"
        exact no (by unfold stepOk; rw [hm, Bool.and_false, Bool.false_and])
    · rw [show decide (V.int c = V.int L.c) = false from decide_eq_false (fun z => hc (by injection z))]
      refine iteT ?_
      walk_at "W"
      exact no (by unfold stepOk; rw [decide_eq_false hc, Bool.false_and, Bool.false_and])
theorem L_agrees (d : Dm K C "agrees" "Listener.agrees" s_Listener_agrees ["self", "thing"]) (g : Gs K mg C) (M_Listener_agrees_to_deed : Mt P w K mg base C "agrees_to_deed" 1 ["self", "thing"] (spDeedA C)) (M_Listener_agrees_to_step : Mt P w K mg base C "agrees_to_step" 4 ["self", "cursor", "following", "pairs"] (spStepA C)) :
    Mt P w K mg base C "agrees" 5 ["self", "thing"] (spAgrees C) := by
  refine d.mt sc_Listener_agrees (fun vs H Q E h => ?_) (fun f cdv A outer s H vs Q E hr h => ?_)
  · obtain ⟨p, wa, oa, v, L, th, rfl, _⟩ := h
    rfl
  · obtain ⟨p, wa, oa, v, L, th, rfl, X, hv, hf, hl, k⟩ := h
    first | (have zz_ := X.ob; have dx := zz_.1; have hp := zz_.2; clear zz_) | obtain ⟨dx, hp⟩ := X.ob
    refine ⟨_, (B.scons (B.ifs (B.tcmp op_eq (B.ix ix_tup (B.v 1) B.int) B.str) (B.sone (B.ret (B.meth (B.v 0) g.cl_Listener M_Listener_agrees_to_step (hr.mono (by first | decide | omega)) (B.cons (B.ix ix_tup (B.v 1) B.int) (B.cons (B.ix ix_tup (B.v 1) B.int) (B.cons (B.ix ix_tup (B.v 1) B.int) B.nil)))))) B.snil)
      (B.sone (B.ret (B.meth (B.v 0) g.cl_Listener M_Listener_agrees_to_deed (hr.mono (by first | decide | omega)) (B.cons (B.v 1) B.nil))))), ?_⟩
    cases th with
    | step c b ps =>
      obtain ⟨u, q, xs, rfl, hu, hq, hps⟩ := hv
      walk_at "W"
      refine ⟨rfl, ?_⟩
      walk_at "W"
      refine iteY rfl ?_
      walk_at "W"
      refine ⟨p, dx, _, rfl, hp, rfl, ?_⟩
      walk_at "W"
      exact wStepA X hq hps hf hl k
    | put a b c =>
      obtain ⟨u, rfl, hu⟩ := id hv
      walk_at "W"
      refine ⟨rfl, ?_⟩
      walk_at "W"
      refine iteNo (str_ne (by decide +kernel)) ?_
      walk_at "W"
      refine ⟨p, dx, _, rfl, hp, rfl, ?_⟩
      walk_at "W"
      exact wDeedA X hv rfl hl k
    | look a b =>
      obtain ⟨u, rfl, hu⟩ := id hv
      walk_at "W"
      refine ⟨rfl, ?_⟩
      walk_at "W"
      refine iteNo (str_ne (by decide +kernel)) ?_
      walk_at "W"
      refine ⟨p, dx, _, rfl, hp, rfl, ?_⟩
      walk_at "W"
      exact wDeedA X hv rfl hl k
    | cut a b =>
      obtain ⟨u, rfl, hu⟩ := id hv
      walk_at "W"
      refine ⟨rfl, ?_⟩
      walk_at "W"
      refine iteNo (str_ne (by decide +kernel)) ?_
      walk_at "W"
      refine ⟨p, dx, _, rfl, hp, rfl, ?_⟩
      walk_at "W"
      exact wDeedA X hv rfl hl k
theorem F_first (d : Dfn K mg "first_wrong" s_first_wrong ["story"]) (g : Gs K mg C) (K_Listener : Mkr P w K mg base C "Listener" 1 ["self"] (spLInit C)) (M_Listener_agrees : Mt P w K mg base C "agrees" 5 ["self", "thing"] (spAgrees C)) : Fn P w K mg base "first_wrong" 6 ["story"] spFW := by
  refine d.fn sc_first_wrong (fun vs H Q E h => ?_) (fun f cdv A outer s H vs Q E hr h => ?_)
  · obtain ⟨st, xs, ths, rfl, _⟩ := h
    rfl
  · obtain ⟨st, xs, ths, rfl, hs, hths, hlen, hfit, k⟩ := h
    have hxl := paired_len hths
    refine ⟨_, (B.scons (B.set 1 sc_first_wrong.nd (SW.B.make0 K_Listener (hr.mono (by first | decide | omega))))
      (B.scons (B.fors (SW.B.ienum g.b_enumerate (B.cons (B.v 0) B.nil)) (B.gtup (B.gcons (B.gname (i := 2) sc_first_wrong.nd) (B.gcons (B.gname (i := 3) sc_first_wrong.nd) B.gnil))) (B.sone (B.ifs (B.tnot (B.tval (B.meth (B.v 1) g.cl_Listener M_Listener_agrees (hr.mono (by first | decide | omega)) (B.cons (B.v 3) B.nil)))) (B.sone (B.ret (B.v 2))) B.snil)))
      (B.sone (B.ret B.non)))), ?_⟩
    walk_at "W"
    intro x dx hx hdx hne
    have s0 : Same H (upd (upd H dx (.own x)) x (.ins C dx [])) := (Same.new hdx).trans (Same.new (by rw [upd_ne hne.symm]; exact hx))
    refine ⟨x, dx, rfl, upd_same, fun H1 wa oa X1 hwa hoa k1 => ⟨rfl, ?_⟩⟩
    have s1 : Same H H1 := fun b o e => k1 b o (ne_of_none e hx) (s0 b o e)
    walk_at "W"
    refine ⟨st, rfl, ⟨_, SqL.of (s1 _ _ hs)⟩, ?_⟩
    refine for_enum (xs := xs) (fun i σ H' => ∃ (L : LS) (oa : Addr) (v2 v3 : Option V), σ = [some (.ref st), some (.ref x), v2, v3] ∧ Same H H' ∧ LsX C H' x L wa oa ∧ H oa = none ∧ L.w.length ≤ i ∧ fw L0 ths = (fw L (ths.drop i)).map (· + i))
      ⟨L0, oa, _, _, rfl, s1, X1, s0.free hoa, Nat.le_refl _, ?_⟩ (fun i σ H' ⟨L, oa, _, _, _, s', _⟩ => SqL.of (s' _ _ hs)) ?_ ?_
    · show fw L0 ths = (fw L0 ths).map (· + 0)
      cases fw L0 ths <;> rfl
    · rintro i v σ H' T hx' hT ⟨L, oa, v2, v3, rfl, s', X', hoa, hwl, hfw⟩
      first | (have zz_ := paired_get hths hx'; have th := zz_.1; have hth := zz_.2.1; have hv := zz_.2.2; clear zz_) | obtain ⟨th, hth, hv⟩ := paired_get hths hx'
      have hi : i < xs.length := (List.getElem?_eq_some_iff.mp hx').1
      have sT : Same H (upd H' T (.tup [.int i, v])) := s'.trans (Same.new hT)
      have XT := X'.same (Same.new (o := .tup [.int i, v]) hT)
      first | (have zz_ := XT.ob; have dx' := zz_.1; have hp' := zz_.2; clear zz_) | obtain ⟨dx', hp'⟩ := XT.ob
      have hd : ths.drop i = th :: ths.drop (i + 1) := by
        have hi' : i < ths.length := by omega
        rw [List.drop_eq_getElem_cons hi']
        rw [List.getElem?_eq_getElem hi'] at hth
        rw [Option.some.inj hth]
      have hu : fw L (th :: ths.drop (i + 1)) = if agr L th = true then (fw (nextL L th) (ths.drop (i + 1))).map (· + 1) else some 0 := rfl
      rw [hd, hu] at hfw
      clear hu
      refine ⟨T, _, rfl, SqT.of upd_same, rfl, _, _, rfl, ?_⟩
      walk_at "W"
      refine ⟨_, _, rfl, ?_⟩
      walk_at "W"
      refine ⟨rfl, ?_⟩
      walk_at "W"
      refine ⟨x, dx', _, rfl, hp', rfl, ?_⟩
      walk_at "W"
      refine wAgrees XT (hv.keep (SW.Same.tk sT)) (hfit th (List.mem_of_getElem? hth)) (by omega) fun H2 oa2 X2 g2 f2 => ?_
      have s2 : Same H H2 := fun b o e => f2 b o (fun z => by
        rcases z with z | z | z
        · rw [z, hx] at e; cases e
        · rw [z, s0.free hwa] at e; cases e
        · rw [z, hoa] at e; cases e) (sT _ _ e)
      have hoa2 : H oa2 = none := by
        rcases g2 with g2 | g2
        · rw [g2]; exact hoa
        · exact sT.free g2
      walk_at "W"
      cases ha : agr L th with
      | true =>
        rw [ha, if_pos rfl] at hfw
        refine iteF ?_
        refine ⟨_, oa2, _, _, rfl, s2, X2, hoa2, Nat.le_trans (next_len L th) (by omega), ?_⟩
        rw [hfw]
        cases fw (nextL L th) (ths.drop (i + 1)) with
        | none => rfl
        | some n => show some (n + 1 + i) = some (n + (i + 1)); congr 1; omega
      | false =>
        rw [ha, if_neg Bool.false_ne_true] at hfw
        refine iteT ?_
        walk_at "W"
        have k' := k H2 s2
        rw [hfw] at k'
        have e : oN (Option.map (· + i) (some 0)) = .int (i : Int) := by show V.int ((0 + i : Nat) : Int) = _; rw [Nat.zero_add]
        rw [e] at k'
        exact k'
    · rintro σ H' ⟨L, oa, v2, v3, rfl, s', X', hoa, hwl, hfw⟩
      walk_at "W"
      rw [hxl, List.drop_length] at hfw
      have k' := k H' s'
      rw [hfw] at k'
      exact k'
end

section
variable {P : Program} {w : World} {K : PySem.W.Frag} {mg : Str → Option Value} {base : Heap} {C : Addr}
theorem F_mixed (d : Dfn K mg "_law_mixed" s_law_mixed ["cell", "k"]) : Fn P w K mg base "_law_mixed" 1 ["cell", "k"] spMixedP := by
  refine d.fn sc_law_mixed (fun vs H Q E h => ?_) (fun f cdv A outer s H vs Q E hr h => ?_)
  · obtain ⟨c, k, rfl, _⟩ := h
    rfl
  · obtain ⟨c, k, rfl, q⟩ := h
    refine ⟨_, (B.scons (B.set 2 sc_law_mixed.nd (B.op op_mod (B.op op_mul (B.op op_add (B.op op_add (B.op op_mod (B.v 0) B.int) (B.op op_mul B.int (B.v 1))) B.int) B.int) B.int))
      (B.scons (B.set 2 sc_law_mixed.nd (B.op op_mod (B.op op_mul (B.v 2) (B.v 2)) B.int))
      (B.sone (B.ret (B.op op_fdivL (B.op op_mod (B.op op_mul (B.op op_add (B.v 2) (B.op op_mul B.int (B.op op_add (B.v 1) B.int))) B.int) B.int) B.int))))), ?_⟩
    walk_at "W"
    exact q _
theorem F_pot (d : Dfn K mg "_law_pot" s_law_pot ["cell"]) (g : Gs K mg C) : Fn P w K mg base "_law_pot" 1 ["cell"] spPotP := by
  refine d.fn sc_law_pot (fun vs H Q E h => ?_) (fun f cdv A outer s H vs Q E hr h => ?_)
  · obtain ⟨c, rfl, _⟩ := h
    rfl
  · obtain ⟨c, rfl, q⟩ := h
    refine ⟨_, (B.sone (B.ret (B.lst (B.cons (B.op op_mul (B.op op_mod (B.v 0) (B.op op_mulB (B.op op_mulB (B.op op_pow B.int B.int) (B.op op_pow B.int B.int)) (B.op op_pow B.int B.int))) (B.cT call_int1 g.b_int SW.b_int (B.cons (B.cmp op_ge (B.v 0) (B.op op_pow B.int B.int)) B.nil))) (B.cons (B.v 0) (B.cons B.int B.nil)))))), ?_⟩
    walk_at "W"
    refine ⟨_, _, rfl, rfl, mul_lit, ?_⟩
    walk_at "W"
    refine ⟨_, _, rfl, rfl, mul_lit2, ?_⟩
    refine wMod (by decide +kernel) ?_
    walk_at "W"
    exact ⟨by show (3 : Nat) ≤ sizeLine; decide, fun p hp => q p _ hp (Same.new hp) ⟨_, _, _, upd_same⟩⟩
theorem F_take (d : Dfn K mg "_law_take" s_law_take ["pot", "many"]) (F_law_mixed : Fn P w K mg base "_law_mixed" 1 ["cell", "k"] spMixedP) : Fn P w K mg base "_law_take" 2 ["pot", "many"] spTakeP := by
  refine d.fn sc_law_take (fun vs H Q E h => ?_) (fun f cdv A outer s H vs Q E hr h => ?_)
  · obtain ⟨p, m, rfl, _⟩ := h
    rfl
  · obtain ⟨p, m, rfl, hm0, hm1, ⟨a, b, c, hp⟩, k⟩ := h
    refine ⟨_, (B.scons (B.asg (B.op op_add (B.ix ix_list (B.v 0) B.int) B.int) (B.gsub (B.v 0) B.int set_list))
      (B.scons (B.ifs (B.tcmp op_gt (B.ix ix_list (B.v 0) B.int) B.int) (B.scons (B.set 2 sc_law_take.nd (B.op op_mod (B.ix ix_list (B.v 0) B.int) (B.v 1)))
      (B.scons (B.asg (B.op op_fdivL (B.ix ix_list (B.v 0) B.int) (B.v 1)) (B.gsub (B.v 0) B.int set_list))
      (B.sone (B.ret (B.v 2))))) B.snil)
      (B.sone (B.ret (B.op op_mod (B.fn F_law_mixed (hr.mono (by first | decide | omega)) (B.cons (B.ix ix_list (B.v 0) B.int) (B.cons (B.ix ix_list (B.v 0) B.int) B.nil))) (B.v 1)))))), ?_⟩
    walk_at "W"
    refine ite2 (fun _ => ?_) (fun _ => ?_)
    · walk_at "W"
      refine k _ _ (Int.emod_nonneg _ (by omega)) (Int.emod_lt_of_pos _ hm0) ⟨_, _, _, upd_same⟩ fun b o n e => ?_
      rw [upd_ne n, upd_ne n]; exact e
    · walk_at "W"
      refine wMixedP fun r => ?_
      walk_at "W"
      exact k _ _ (Int.emod_nonneg _ (by omega)) (Int.emod_lt_of_pos _ hm0) ⟨_, _, _, upd_same⟩ KeepBut.at
theorem F_worthP (d : Dfn K mg "_law_worth" s_law_worth ["pot"]) (F_law_take : Fn P w K mg base "_law_take" 2 ["pot", "many"] spTakeP) : Fn P w K mg base "_law_worth" 3 ["pot"] spWorthP := by
  refine d.fn sc_law_worth (fun vs H Q E h => ?_) (fun f cdv A outer s H vs Q E hr h => ?_)
  · obtain ⟨p, rfl, _⟩ := h
    rfl
  · obtain ⟨p, rfl, hp, k⟩ := h
    refine ⟨_, (B.sone (B.ret (B.ix ix_list (B.lst (B.cons (B.op op_sub (B.fn F_law_take (hr.mono (by first | decide | omega)) (B.cons (B.v 0) (B.cons B.int B.nil))) B.int) (B.cons (B.op op_sub (B.op op_pow B.int B.int) (B.fn F_law_take (hr.mono (by first | decide | omega)) (B.cons (B.v 0) (B.cons (B.op op_add (B.op op_mul B.int (B.op op_pow B.int B.int)) B.int) B.nil)))) (B.cons (B.un un_neg (B.op op_pow B.int B.int)) B.nil)))) (B.fn F_law_take (hr.mono (by first | decide | omega)) (B.cons (B.v 0) (B.cons B.int B.nil)))))), ?_⟩
    walk_at "W"
    refine wTakeP hp (by decide) (by decide) fun r1 H1 a1 b1 R1 K1 => ?_
    walk_at "W"
    refine wTakeP R1 (by decide) (by decide) fun r2 H2 a2 b2 R2 K2 => ?_
    walk_at "W"
    refine ⟨by show (3 : Nat) ≤ sizeLine; decide, fun q hq => ?_⟩
    walk_at "W"
    refine wTakeP (R2.new hq) (by decide) (by decide) fun r5 H5 a5 b5 R5 K5 => ?_
    have e5 := K5 q _ (R2.ne0 hq).symm upd_same
    first | (have zz_ := atI_in (xs := [V.int (r1 - 4), V.int (10 ^ (Int.toNat 9) - r2), V.int (-(10 ^ (Int.toNat 9)))]) a5 b5; have v := zz_.1; have hv := zz_.2.1; have hm := zz_.2.2; clear zz_) | obtain ⟨v, hv, hm⟩ := atI_in (xs := [V.int (r1 - 4), V.int (10 ^ (Int.toNat 9) - r2), V.int (-(10 ^ (Int.toNat 9)))]) a5 b5
    refine wIxL e5 hv ?_
    obtain ⟨z, rfl⟩ : ∃ z, v = V.int z := by
      simp only [List.mem_cons, List.not_mem_nil, or_false] at hm
      rcases hm with rfl | rfl | rfl <;> exact ⟨_, rfl⟩
    exact k z H5 R5 ((K1.trans K2).trans ((KeepBut.new hq).trans K5))
end
section
variable {P : Program} {w : World} {K : PySem.W.Frag} {mg : Str → Option Value} {base : Heap} {C : Addr}
theorem F_plain_done (d : Dfn K mg "_law_plain_done" s_law_plain_done ["plain", "deed"]) (g : Gs K mg C) : Fn P w K mg base "_law_plain_done" 1 ["plain", "deed"] spPlain := by
  refine d.fn sc_law_plain_done (fun vs H Q E h => ?_) (fun f cdv A outer s H vs Q E hr h => ?_)
  · obtain ⟨a, v, d, r, rfl, _⟩ := h
    rfl
  · obtain ⟨a, v, d, r, rfl, ha, ⟨u, rfl, hu⟩, ok, hl, k⟩ := h
    have hlen : (kvs r).length < sizeLine := by rw [kvs_len]; exact Nat.lt_of_le_of_lt hl (by decide)
    have nua : u ≠ a := ne_of hu ha (by intro z; cases z)
    refine ⟨_, (B.scons (B.set 2 sc_law_plain_done.nd (B.dget1 (hu_of hr) (B.v 0) (B.ix ix_tup (B.v 1) B.int) (m := B.m1)))
      (B.scons (B.ifs (B.tcmp op_eq (B.ix ix_tup (B.v 1) B.int) B.str) (B.sone (B.dput (hu_of hr) (B.v 0) (B.ix ix_tup (B.v 1) B.int) (B.ix ix_tup (B.v 1) B.int))) B.snil)
      (B.scons (B.ifs (B.tw (B.wand (B.tcmp op_eq (B.ix ix_tup (B.v 1) B.int) B.str) (B.wand1 (B.tdin (hu_of hr) (B.ix ix_tup (B.v 1) B.int) (B.v 0))))) (B.sone (B.expr (B.dpop1 (B.v 0) (B.ix ix_tup (B.v 1) B.int) (m := B.m1)))) B.snil)
      (B.sone (B.ret (B.v 2)))))), ?_⟩
    cases d with
    | put kk y =>
      have hu : H u = some (.tup [.str "put", .int kk, .int y]) := hu
      walk_at "W"
      refine ⟨a, rfl, .inl ⟨_, .inl ha⟩, ?_⟩
      walk_at "W"
      refine ⟨_, DGet.k (k := Sum.inl kk) ha, ?_⟩
      rw [oV_getD]
      walk_at "W"
      refine ⟨rfl, ?_⟩
      walk_at "W"
      refine iteY rfl ?_
      walk_at "W"
      refine ⟨a, _, rfl, DPut.k (k := Sum.inl kk) ha hlen, ?_⟩
      rw [putK_kvs]
      have hu2 : upd H a (.dK (kvs (rPut r kk y))) u = some (.tup [.str "put", .int kk, .int y]) := by rw [upd_ne nua]; exact hu
      walk_at "W"
      refine ⟨rfl, ?_⟩
      walk_at "W"
      refine iteNo (fun z => by injection z with z; exact absurd z (by decide +kernel)) ?_
      refine iteF ?_
      walk_at "W"
      exact k _ upd_same KeepBut.at
    | look kk =>
      have hu : H u = some (.tup [.str "look", .int kk]) := hu
      walk_at "W"
      refine ⟨a, rfl, .inl ⟨_, .inl ha⟩, ?_⟩
      walk_at "W"
      refine ⟨_, DGet.k (k := Sum.inl kk) ha, ?_⟩
      rw [oV_getD]
      walk_at "W"
      refine ⟨rfl, ?_⟩
      walk_at "W"
      refine iteNo (fun z => by injection z with z; exact absurd z (by decide +kernel)) ?_
      walk_at "W"
      refine ⟨rfl, ?_⟩
      walk_at "W"
      refine iteNo (fun z => by injection z with z; exact absurd z (by decide +kernel)) ?_
      refine iteF ?_
      walk_at "W"
      exact k _ ha (KeepBut.refl _ _)
    | cut kk =>
      have hu : H u = some (.tup [.str "cut", .int kk]) := hu
      walk_at "W"
      refine ⟨a, rfl, .inl ⟨_, .inl ha⟩, ?_⟩
      walk_at "W"
      refine ⟨_, DGet.k (k := Sum.inl kk) ha, ?_⟩
      rw [oV_getD]
      walk_at "W"
      refine ⟨rfl, ?_⟩
      walk_at "W"
      refine iteNo (fun z => by injection z with z; exact absurd z (by decide +kernel)) ?_
      walk_at "W"
      refine ⟨rfl, ?_⟩
      walk_at "W"
      refine iteY rfl ?_
      walk_at "W"
      refine ⟨a, _, rfl, DGet.k (k := Sum.inl kk) ha, ?_⟩
      walk_at "W"
      rw [valV_kvs]
      cases e : rLook r kk with
      | none =>
        refine iteF ?_
        walk_at "W"
        have ec : rCut r kk = r := rCut_no ((rLook_none_iff kk).mp e)
        have k' := k H (by show H a = some (.dK (kvs (rCut r kk))); rw [ec]; exact ha) (KeepBut.refl _ _)
        have k'' : Q (oV (rLook r kk)) H := k'
        rw [e] at k''
        exact k''
      | some y =>
        refine iteT ?_
        walk_at "W"
        refine ⟨a, rfl, .inl ⟨_, .inl ha⟩, ?_⟩
        walk_at "W"
        refine ⟨_, Sum.inl kk, V.int y, ha, rfl, by rw [valV_kvs, e]; rfl, ?_⟩
        rw [dropK_kvs]
        walk_at "W"
        have k'' : Q (oV (rLook r kk)) _ := k _ (upd_same (H := H) (a := a) (o := .dK (kvs (rCut r kk)))) KeepBut.at
        rw [e] at k''
        exact k''
theorem F_deed_told (d : Dfn K mg "_law_deed_told" s_law_deed_told ["pot", "plain"]) (g : Gs K mg C) (F_law_take : Fn P w K mg base "_law_take" 2 ["pot", "many"] spTakeP) (F_law_worth : Fn P w K mg base "_law_worth" 3 ["pot"] spWorthP) (F_law_plain_done : Fn P w K mg base "_law_plain_done" 1 ["plain", "deed"] spPlain) :
    Fn P w K mg base "_law_deed_told" 4 ["pot", "plain"] spDeedTold := by
  refine d.fn sc_law_deed_told (fun vs H Q E h => ?_) (fun f cdv A outer s H vs Q E hr h => ?_)
  · obtain ⟨p, a, r, rfl, _⟩ := h
    rfl
  · obtain ⟨p, a, r, rfl, hp, ha, ok, hl, k⟩ := h
    have nap := hp.neD ha
    refine ⟨_, (B.scons (B.set 2 sc_law_deed_told.nd (B.ix ix_list (B.lst (B.cons B.int (B.cons B.int (B.cons B.int (B.cons B.int (B.cons B.int (B.cons (B.op op_pow B.int B.int) B.nil))))))) (B.fn F_law_take (hr.mono (by first | decide | omega)) (B.cons (B.v 0) (B.cons B.int B.nil)))))
      (B.scons (B.set 3 sc_law_deed_told.nd (B.fn F_law_take (hr.mono (by first | decide | omega)) (B.cons (B.v 0) (B.cons B.int B.nil))))
      (B.scons (B.ifs (B.tcmp op_lt (B.v 3) B.int) (B.sone (B.set 4 sc_law_deed_told.nd (B.tup (B.cons B.str (B.cons (B.v 2) (B.cons (B.fn F_law_worth (hr.mono (by first | decide | omega)) (B.cons (B.v 0) B.nil)) B.nil)))))) (B.sone (B.set 4 sc_law_deed_told.nd (B.ix ix_list (B.lst (B.cons (B.tup (B.cons B.str (B.cons (B.v 2) B.nil))) (B.cons (B.tup (B.cons B.str (B.cons (B.v 2) B.nil))) (B.cons (B.tup (B.cons B.str (B.cons (B.v 2) B.nil))) B.nil)))) (B.op op_sub (B.v 3) B.int)))))
      (B.sone (B.ret (B.op op_catA (B.v 4) (B.tup (B.cons (B.fn F_law_plain_done (hr.mono (by first | decide | omega)) (B.cons (B.v 1) (B.cons (B.v 4) B.nil))) B.nil)))))))), ?_⟩
    walk_at "W"
    refine ⟨by show (6 : Nat) ≤ sizeLine; decide, fun q hq => ?_⟩
    walk_at "W"
    refine wTakeP (hp.new hq) (by decide) (by decide) fun r1 H1 a1 b1 R1 K1 => ?_
    have e1 := K1 q _ (hp.ne0 hq).symm upd_same
    first | (have zz_ := atI_in (xs := [V.int 0, V.int 1, V.int 2, V.int 3, V.int 7, V.int (10 ^ (Int.toNat 9))]) a1 b1; have v := zz_.1; have hv := zz_.2.1; have hm := zz_.2.2; clear zz_) | obtain ⟨v, hv, hm⟩ := atI_in (xs := [V.int 0, V.int 1, V.int 2, V.int 3, V.int 7, V.int (10 ^ (Int.toNat 9))]) a1 b1
    obtain ⟨key, rfl, hks⟩ : ∃ z, v = V.int z ∧ KS 0 z := by
      simp only [List.mem_cons, List.not_mem_nil, or_false] at hm
      rcases hm with rfl | rfl | rfl | rfl | rfl | rfl
      · exact ⟨_, rfl, .inl (by decide)⟩
      · exact ⟨_, rfl, .inl (by decide)⟩
      · exact ⟨_, rfl, .inl (by decide)⟩
      · exact ⟨_, rfl, .inl (by decide)⟩
      · exact ⟨_, rfl, .inl (by decide)⟩
      · exact ⟨_, rfl, .inr (by decide)⟩
    refine wIxL e1 hv ?_
    walk_at "W"
    refine wTakeP R1 (by decide) (by decide) fun way H2 a2 b2 R2 K2 => ?_
    have ha2 := K2 _ _ nap (K1 _ _ nap (Same.new (o := .lst [V.int 0, V.int 1, V.int 2, V.int 3, V.int 7, V.int (10 ^ (Int.toNat 9))]) hq _ _ ha))
    have F2 : KeepBut p H H2 := ((KeepBut.new hq).trans K1).trans K2
    walk_at "W"
    rename_i N1 hN1
    have rest : ∀ H3 u (d : Deed), deedK d = key → H3 u = some (.tup (deedT d)) → H3 a = some (.dK (kvs r)) → Pot H3 p → KeepBut p H H3 → N1 [some (.ref p), some (.ref a), some (.int key), some (.int way), some (.ref u)] H3 := by
      intro H3 u d hd hu ha3 R3 F3
      refine SW.wGo hN1 ?_
      walk_at "W"
      refine wPlain ha3 ⟨u, rfl, hu⟩ ok (Nat.le_trans hl (by decide)) fun H4 ha4 F4 => ?_
      have hu4 := F4 _ _ (ne_of hu ha3 (by intro z; cases z)) hu
      walk_at "W"
      refine ⟨by show (1 : Nat) ≤ sizeLine; decide, fun t ht => ?_⟩
      have s5 : Same H4 (upd H4 t (.tup [oV (rLook r (deedK d))])) := Same.new ht
      walk_at "W"
      refine ⟨u, t, _, _, rfl, rfl, s5 _ _ hu4, upd_same, by cases d with | put x y => exact (by decide : (4 : Nat) ≤ sizeLine) | look x => exact (by decide : (3 : Nat) ≤ sizeLine) | cut x => exact (by decide : (3 : Nat) ≤ sizeLine), fun z H6 s6 hz => ?_⟩
      have s46 := s5.trans s6
      first | (have zz_ := R3; have c1 := zz_.1; have c2 := zz_.2.1; have c3 := zz_.2.2.1; have hc := zz_.2.2.2; clear zz_) | obtain ⟨c1, c2, c3, hc⟩ := R3
      refine k _ H6 d (hd ▸ hks) ?_ (s46 _ _ ha4) ⟨c1, c2, c3, s46 _ _ (F4 _ _ nap.symm hc)⟩ fun b o n e => s46 _ _ (F4 _ _ (fun y => n (.inr y)) (F3 _ _ (fun y => n (.inl y)) e))
      cases d with
      | put x y => exact ⟨z, rfl, hz⟩
      | look x => exact ⟨z, rfl, hz⟩
      | cut x => exact ⟨z, rfl, hz⟩
    refine ite2 (fun hc => ?_) (fun hc => ?_)
    · walk_at "W"
      refine wWorthP R2 fun wv H3 R3 K3 => ?_
      walk_at "W"
      refine ⟨by show (3 : Nat) ≤ sizeLine; decide, fun u hu => ?_⟩
      refine rest _ u (.put key wv) rfl upd_same (Same.new hu _ _ (K3 _ _ nap ha2)) (R3.new hu) ((F2.trans K3).trans (KeepBut.new hu))
    · have hc : ¬ way < 2 := fun z => hc (decide_eq_true z)
      walk_at "W"
      refine ⟨by show (2 : Nat) ≤ sizeLine; decide, fun u1 h1 => ?_⟩
      walk_at "W"
      refine ⟨by show (2 : Nat) ≤ sizeLine; decide, fun u2 h2 => ?_⟩
      walk_at "W"
      refine ⟨by show (2 : Nat) ≤ sizeLine; decide, fun u3 h3 => ?_⟩
      walk_at "W"
      refine ⟨by show (3 : Nat) ≤ sizeLine; decide, fun l3 h4 => ?_⟩
      have t1 := Same.new (o := .tup [.str "look", .int key]) h1
      have t2 := Same.new (o := .tup [.str "cut", .int key]) h2
      have t3 := Same.new (o := .tup [.str "look", .int key]) h3
      have t4 := Same.new (o := .lst [.ref u1, .ref u2, .ref u3]) h4
      have t34 := t3.trans t4
      have t24 := t2.trans t34
      have t14 := t1.trans t24
      first | (have zz_ := atI_in (xs := [V.ref u1, V.ref u2, V.ref u3]) (i := way - 2) (by omega) (by show way - 2 < 3; omega); have v := zz_.1; have hv := zz_.2.1; have hm := zz_.2.2; clear zz_) | obtain ⟨v, hv, hm⟩ := atI_in (xs := [V.ref u1, V.ref u2, V.ref u3]) (i := way - 2) (by omega) (by show way - 2 < 3; omega)
      walk_at "W"
      refine wIxL upd_same hv ?_
      simp only [List.mem_cons, List.not_mem_nil, or_false] at hm
      rcases hm with rfl | rfl | rfl
      · exact rest _ u1 (.look key) rfl (t24 _ _ upd_same) (t14 _ _ ha2) (R2.same t14) (F2.trans (SW.Same.but t14))
      · exact rest _ u2 (.cut key) rfl (t34 _ _ upd_same) (t14 _ _ ha2) (R2.same t14) (F2.trans (SW.Same.but t14))
      · exact rest _ u3 (.look key) rfl (t4 _ _ upd_same) (t14 _ _ ha2) (R2.same t14) (F2.trans (SW.Same.but t14))
end

theorem inV_ints (k : Int) : ∀ ks : List Int, inV (V.int k) (ks.map V.int) = decide (k ∈ ks)
  | [] => rfl
  | j :: ks => by
    have ih := inV_ints k ks
    show (eqV (V.int j) (V.int k) || inV (V.int k) (ks.map V.int)) = decide (k ∈ j :: ks)
    rw [ih, Bool.eq_iff_iff, Bool.or_eq_true, decide_eq_true_iff, decide_eq_true_iff, List.mem_cons]
    show ((j == k) = true ∨ k ∈ ks) ↔ _
    rw [beq_iff_eq]
    exact ⟨fun z => z.elim (fun e => .inl e.symm) .inr, fun z => z.elim (fun e => .inl e.symm) .inr⟩
theorem flat_ints : ∀ ks : List Int, (ks.map V.int).all flatV = true
  | [] => rfl
  | _ :: ks => flat_ints ks
section
variable {P : Program} {w : World} {K : PySem.W.Frag} {mg : Str → Option Value} {base : Heap} {C : Addr}
theorem F_step_told (d : Dfn K mg "_law_step_told" s_law_step_told ["pot", "plain", "walk"]) (g : Gs K mg C) (F_law_take : Fn P w K mg base "_law_take" 2 ["pot", "many"] spTakeP) : Fn P w K mg base "_law_step_told" 3 ["pot", "plain", "walk"] spStepTold := by
  refine d.fn sc_law_step_told (fun vs H Q E h => ?_) (fun f cdv A outer s H vs Q E hr h => ?_)
  · obtain ⟨p, a, w, l, c, r, ks, rfl, _⟩ := h
    rfl
  · obtain ⟨p, a, w, l, c, r, ks, rfl, hp, ha, ok, hl, hw, hlk, nlp, hkl, c0, c1, hks, k⟩ := h
    have nap := hp.neD ha
    have nwp := hp.neL hw (show (2 : Nat) ≠ 3 by decide)
    have naw : a ≠ w := ne_of ha hw (by intro z; cases z)
    refine ⟨_, (B.scons (B.set 3 sc_law_step_told.nd (B.ix ix_list (B.v 2) B.int))
      (B.scons (B.ifs (B.tcmp op_eq (B.v 3) B.int) (B.sone (B.asg (B.cB SW.call_sortedD g.b_sorted SW.b_sorted (B.cons (B.v 1) B.nil)) (B.gsub (B.v 2) B.int set_list))) B.snil)
      (B.scons (B.set 4 sc_law_step_told.nd B.int)
      (B.scons (B.ifs (B.tw (B.wand (B.tcmp op_lt (B.v 3) B.int) (B.wand1 (B.tcmp op_gt (B.fn F_law_take (hr.mono (by first | decide | omega)) (B.cons (B.v 0) (B.cons B.int B.nil))) B.int)))) (B.sone (B.set 4 sc_law_step_told.nd (B.op op_add (B.op op_add (B.v 3) B.int) (B.fn F_law_take (hr.mono (by first | decide | omega)) (B.cons (B.v 0) (B.cons (B.ix ix_list (B.lst (B.cons (B.op op_sub B.int (B.v 3)) (B.cons B.int B.nil))) (B.cT call_int1 g.b_int SW.b_int (B.cons (B.cmp op_lt (B.v 3) B.int) B.nil))) B.nil)))))) B.snil)
      (B.scons (B.set 5 sc_law_step_told.nd (SW.B.compIf [4] ["key", "behind"] (SW.CompScope.of rfl rfl (by decide +kernel) (by decide +kernel) rfl ⟨rfl, trivial⟩ rfl rfl rfl) (by decide +kernel) (B.ilist (B.ix ix_list (B.v 2) B.int)) (fun _ _ _ _ => (B.tcmp op_eq (B.v 1) B.int)) (fun _ _ _ _ => (B.v 0))))
      (B.scons (B.set 6 sc_law_step_told.nd (SW.B.compIf [0, 5] ["key", "pot", "wanted"] (SW.CompScope.of rfl rfl (by decide +kernel) (by decide +kernel) rfl ⟨rfl, rfl, trivial⟩ rfl rfl rfl) (by decide +kernel) (B.ilist (B.cB SW.call_sortedD g.b_sorted SW.b_sorted (B.cons (B.v 1) B.nil))) (fun _ _ _ _ => (B.tw (B.wor (B.tcmp op_eq (B.fn F_law_take (hr.mono (by first | decide | omega)) (B.cons (B.v 1) (B.cons B.int B.nil))) B.int) (B.wor1 (B.tcmpI (SW.op_inK K) (B.v 0) (B.v 2)))))) (fun _ _ _ _ => (B.v 0))))
      (B.scons (B.ifs (B.tcmp op_eq (B.fn F_law_take (hr.mono (by first | decide | omega)) (B.cons (B.v 0) (B.cons B.int B.nil))) B.int) (B.sone (B.set 6 sc_law_step_told.nd (SW.B.rev (B.v 6) (B.un un_neg B.int)))) B.snil)
      (B.scons (B.asg (B.v 4) (B.gsub (B.v 2) B.int set_list))
      (B.scons (B.asg (SW.B.compIf [6] ["key", "keys"] (SW.CompScope.of rfl rfl (by decide +kernel) (by decide +kernel) rfl ⟨rfl, trivial⟩ rfl rfl rfl) (by decide +kernel) (B.ilist (B.ix ix_list (B.v 2) B.int)) (fun _ _ _ _ => (B.tcmpI (SW.op_notinK K) (B.v 0) (B.v 1))) (fun _ _ _ _ => (B.v 0))) (B.gsub (B.v 2) B.int set_list))
      (B.sone (B.ret (B.tup (B.cons B.str (B.cons (B.v 3) (B.cons (B.v 4) (B.cons (B.cT call_tuple_of g.b_tuple SW.b_tuple (B.cons (SW.B.comp [1] ["key", "plain"] (SW.CompScope.of rfl rfl (by decide +kernel) (by decide +kernel) rfl ⟨rfl, trivial⟩ rfl rfl rfl) (by decide +kernel) (B.ilist (B.v 6)) (fun _ _ _ _ => (B.tup (B.cons (B.v 0) (B.cons (SW.B.dget (hu_of hr) (B.v 1) (B.v 0)) B.nil))))) B.nil)) B.nil)))))))))))))))), ?_⟩
    walk_at "W"
    rename_i N1 hN1
    have rest1 : ∀ H1 l1 (ks1 : List Int), H1 w = some (.lst [.int c, .ref l1]) → H1 l1 = some (.lst (ks1.map V.int)) → (∀ k, k ∈ ks1 ↔ k ∈ walkW c r ks) → ks1.length ≤ 64 → l1 ≠ p → l1 ≠ w → Fr (two p w) H H1 → Pot H1 p → N1 [some (.ref p), some (.ref a), some (.ref w), some (.int c), none, none, none] H1 := by
      intro H1 l1 ks1 hw1 hl1 hk1 hkl1 nl1p nl1w F1 R1
      have ha1 := F1 _ _ (fun z => by rcases z with z | z; exact nap z; exact naw z) ha
      refine SW.wGo hN1 ?_
      walk_at "W"
      rename_i N2 hN2
      have rest2 : ∀ H2 (b : Int), 0 ≤ b → b ≤ 65535 → (b = 0 ∨ c < b) → KeepBut p H1 H2 → Pot H2 p → N2 [some (.ref p), some (.ref a), some (.ref w), some (.int c), some (.int b), none, none] H2 := by
        intro H2 b b0 b1 bc K2 R2
        have hw2 := K2 _ _ nwp hw1
        have hl2 := K2 _ _ nl1p hl1
        have ha2 := K2 _ _ nap ha1
        refine SW.wGo hN2 ?_
        walk_at "W"
        refine ⟨l1, rfl, ⟨_, SqL.of hl2⟩, fun D hD => ?_⟩
        refine comp_list (xs := ks1.map V.int) (fun i σ' H' => ∃ v : Option V, σ' = [v, some (.int b)] ∧ Same H2 H' ∧ H' D = some (.lst ((if b = 0 then ks1.take i else []).map V.int))) ⟨none, rfl, Same.new hD, by rw [upd_same]; split <;> rfl⟩ (fun i σ' H' _ ⟨v, _, s', _⟩ => SqL.of (s' _ _ hl2)) ?_ ?_
        · rintro i x σ' H' hx hi ⟨v, rfl, s', hD'⟩
          rw [List.getElem?_map] at hx
          obtain ⟨ky, hky, rfl⟩ := Option.map_eq_some_iff.mp hx
          walk_at "W"
          by_cases hb : b = 0
          · rw [if_pos hb] at hD'
            refine iteY (by rw [hb]) ?_
            walk_at "W"
            refine CN.mk hi hD' (by rw [List.length_map, List.length_take]; exact Nat.lt_of_le_of_lt (Nat.le_trans (Nat.min_le_right ..) hkl1) (by decide)) ⟨_, rfl, fun b o e => by rw [upd_ne (ne_of_none e hD)]; exact s' _ _ e, ?_⟩
            rw [upd_same, if_pos hb, List.take_add_one, hky]
            simp
          · rw [if_neg hb] at hD'
            refine iteNo (fun z => hb (by injection z)) ?_
            exact CO.mk hi ⟨_, rfl, s', by rw [if_neg hb]; exact hD'⟩
        · rintro σ' H3 ⟨v, rfl, s3, hD3⟩
          obtain ⟨wt, hwt⟩ : ∃ wt, wt = if b = 0 then ks1 else [] := ⟨_, rfl⟩
          rw [List.length_map, List.take_length, ← hwt] at hD3
          have R3 := R2.same s3
          have ha3 := s3 _ _ ha2
          have nDp : D ≠ p := (R2.ne0 hD).symm
          walk_at "W"
          refine ⟨a, r, rfl, ha3, hl, rfl, fun sq srt hsq hperm _ => ?_⟩
          have s4 : Same H3 (upd H3 sq (.lst (srt.map V.int))) := Same.new hsq
          have nsq : sq ≠ p := (R3.ne0 hsq).symm
          refine ⟨sq, rfl, ⟨_, SqL.of upd_same⟩, fun D4 hD4 => ?_⟩
          obtain ⟨H4, hH4⟩ : ∃ H4, H4 = upd H3 sq (.lst (srt.map V.int)) := ⟨_, rfl⟩
          have hsq4 : H4 sq = some (.lst (srt.map V.int)) := by rw [hH4]; exact upd_same
          rw [← hH4] at s4 hD4 ⊢
          clear hH4
          have R4 := R3.same s4
          have nD4p : D4 ≠ p := (R4.ne0 hD4).symm
          have hsl : srt.length < 64 := by rw [hperm.length_eq, List.length_map]; exact hl
          refine comp_list (xs := srt.map V.int) (fun i σ' H' => ∃ (v : Option V) (kk : List Int), σ' = [v, some (.ref p), some (.ref D)] ∧ KeepBut p H4 H' ∧ Pot H' p ∧ H' D4 = some (.lst (kk.map V.int)) ∧ kk.Sublist (srt.take i) ∧ ∀ k ∈ srt.take i, k ∈ wt → k ∈ kk)
            ⟨none, [], rfl, KeepBut.new hD4, R4.new hD4, upd_same, by rw [List.take_zero]; exact List.Sublist.slnil, fun k hk => by rw [List.take_zero] at hk; cases hk⟩ (fun i σ' H' _ ⟨v, kk, _, K', _⟩ => SqL.of (K' _ _ nsq hsq4)) ?_ ?_
          · rintro i x σ' H' hx hi ⟨v, kk, rfl, K', R', hD', hsub, hwtk⟩
            rw [List.getElem?_map] at hx
            obtain ⟨ky, hky, rfl⟩ := Option.map_eq_some_iff.mp hx
            have htake : srt.take (i + 1) = srt.take i ++ [ky] := by rw [List.take_add_one, hky]; rfl
            have hkkl : kk.length ≤ 64 := Nat.le_trans hsub.length_le (Nat.le_trans (by rw [List.length_take]; exact Nat.min_le_right ..) (Nat.le_of_lt hsl))
            have yes : ∀ H5, KeepBut p H4 H5 → Pot H5 p → H5 D4 = some (.lst (kk.map V.int)) → CN (fun i σ' H' => ∃ (v : Option V) (kk : List Int), σ' = [v, some (.ref p), some (.ref D)] ∧ KeepBut p H4 H' ∧ Pot H' p ∧ H' D4 = some (.lst (kk.map V.int)) ∧ kk.Sublist (srt.take i) ∧ ∀ k ∈ srt.take i, k ∈ wt → k ∈ kk) (srt.map V.int).length i D4 [some (V.int ky), some (.ref p), some (.ref D)] (V.int ky) H5 := by
              intro H5 K5 R5 hD5
              refine CN.mk hi hD5 (by rw [List.length_map]; exact Nat.lt_of_le_of_lt hkkl (by decide)) ⟨_, kk ++ [ky], rfl, fun b o n e => by rw [upd_ne (ne_of_none e hD4)]; exact K5 _ _ n e, R5.upd nD4p.symm, by rw [upd_same, List.map_append]; rfl, ?_, fun k hk hkw => ?_⟩
              · rw [htake]; exact hsub.append (List.Sublist.refl _)
              · rw [htake] at hk
                rcases List.mem_append.mp hk with hk | hk
                · exact List.mem_append.mpr (.inl (hwtk k hk hkw))
                · exact List.mem_append.mpr (.inr hk)
            walk_at "W"
            refine wTakeP R' (by decide) (by decide) fun r5 H5 a5 b5 R5 K5 => ?_
            have K45 := K'.trans K5
            have hD5 := K5 _ _ nD4p hD'
            walk_at "W"
            refine ite2 (fun _ => ?_) (fun _ => ?_)
            · refine iteT ?_
              walk_at "W"
              exact yes H5 K45 R5 hD5
            · walk_at "W"
              refine ⟨D, _, rfl, .inl (SqL.of (K45 _ _ nDp (s4 _ _ hD3))), rfl, flat_ints wt, ?_⟩
              rw [inV_ints]
              walk_at "W"
              by_cases hin : ky ∈ wt
              · refine iteY hin ?_
                walk_at "W"
                exact yes H5 K45 R5 hD5
              · refine iteNo hin ?_
                refine CO.mk hi ⟨_, kk, rfl, K45, R5, hD5, ?_, fun k hk hkw => ?_⟩
                · rw [htake]; exact hsub.trans (List.sublist_append_left _ _)
                · rw [htake] at hk
                  rcases List.mem_append.mp hk with hk | hk
                  · exact hwtk k hk hkw
                  · rw [List.mem_singleton] at hk
                    rw [hk] at hkw
                    exact absurd hkw hin
          · rintro σ' H5 ⟨v, kk, rfl, K5, R5, hD5, hsub, hwtk⟩
            rw [List.length_map, List.take_length] at hsub hwtk
            have hnd : kk.Nodup := hsub.nodup (hperm.nodup_iff.mpr ok)
            have hmem : ∀ k ∈ kk, k ∈ r.map (·.1) := fun k hk => hperm.mem_iff.mp (hsub.subset hk)
            have hkr : kk.length ≤ r.length := Nat.le_trans hsub.length_le (by rw [hperm.length_eq, List.length_map]; exact Nat.le_refl _)
            have hall : b = 0 → ∀ k ∈ walkW c r ks, k ∈ kk := fun hb k hk => by
              refine hwtk k (hperm.mem_iff.mpr ?_) ?_
              · unfold walkW at hk
                by_cases hc : c = 0
                · rw [if_pos hc] at hk; exact hk
                · rw [if_neg hc] at hk; exact hks k hk
              · rw [hwt, if_pos hb]; exact (hk1 k).mpr hk
            have nD4w : D4 ≠ w := fun z => by rw [z, s4 _ _ (s3 _ _ hw2)] at hD4; cases hD4
            walk_at "W"
            refine wTakeP R5 (by decide) (by decide) fun r6 H6 a6 b6 R6 K6 => ?_
            have K46 := K5.trans K6
            have hD6 := K6 _ _ nD4p hD5
            walk_at "W"
            rename_i N3 hN3
            have rest3 : ∀ H7 kq (kl : List Int), H7 kq = some (.lst (kl.map V.int)) → kq ≠ w → (∀ k, k ∈ kl ↔ k ∈ kk) → kl.Nodup → kl.length ≤ r.length → KeepBut p H4 H7 → Pot H7 p → N3 [some (.ref p), some (.ref a), some (.ref w), some (.int c), some (.int b), some (.ref D), some (.ref kq)] H7 := by
              intro H7 kq kl hkq nkqw hkl7 hnd7 hll K7 R7
              have hw7 := K7 _ _ nwp (s4 _ _ (s3 _ _ hw2))
              have hl7 := K7 _ _ nl1p (s4 _ _ (s3 _ _ hl2))
              have ha7 := K7 _ _ nap (s4 _ _ (s3 _ _ ha2))
              refine SW.wGo hN3 ?_
              walk_at "W"
              obtain ⟨H8, hH8⟩ : ∃ H8, H8 = upd H7 w (.lst [.int b, .ref l1]) := ⟨_, rfl⟩
              have hw8 : H8 w = some (.lst [.int b, .ref l1]) := by rw [hH8]; exact upd_same
              have hl8 : H8 l1 = some (.lst (ks1.map V.int)) := by rw [hH8, upd_ne nl1w]; exact hl7
              have ha8 : H8 a = some (.dK (kvs r)) := by rw [hH8, upd_ne naw]; exact ha7
              have hkq8 : H8 kq = some (.lst (kl.map V.int)) := by rw [hH8, upd_ne nkqw]; exact hkq
              have R8 : Pot H8 p := by rw [hH8]; exact R7.upd nwp.symm
              have F8 : ∀ b o, b ≠ p → b ≠ w → H4 b = some o → H8 b = some o := fun b o n1 n2 e => by rw [hH8, upd_ne n2]; exact K7 _ _ n1 e
              show ∃ a, V.ref l1 = .ref a ∧ (∃ xs, SqL _ (upd H7 w (.lst [.int b, .ref l1])) a xs) ∧ _
              rw [← hH8]
              refine ⟨l1, rfl, ⟨_, SqL.of hl8⟩, ?_⟩
              show ∀ D, upd H7 w (.lst [.int b, .ref l1]) D = none → _
              rw [← hH8]
              intro D8 hD8
              refine comp_list (xs := ks1.map V.int) (fun i σ' H' => ∃ v : Option V, σ' = [v, some (.ref kq)] ∧ Same H8 H' ∧ H' D8 = some (.lst (((ks1.take i).filter fun k => decide (k ∉ kl)).map V.int))) ⟨none, rfl, (show Same H8 (upd (upd H7 w (.lst [.int b, .ref l1])) D8 (.lst [])) by rw [← hH8]; exact Same.new hD8), upd_same⟩ (fun i σ' H' _ ⟨v, _, s', _⟩ => SqL.of (s' _ _ hl8)) ?_ ?_
              · rintro i x σ' H' hx hi ⟨v, rfl, s', hD'⟩
                rw [List.getElem?_map] at hx
                obtain ⟨ky, hky, rfl⟩ := Option.map_eq_some_iff.mp hx
                have htake : ks1.take (i + 1) = ks1.take i ++ [ky] := by rw [List.take_add_one, hky]; rfl
                walk_at "W"
                refine ⟨kq, _, rfl, .inl (SqL.of (s' _ _ hkq8)), rfl, flat_ints kl, ?_⟩
                rw [inV_ints]
                walk_at "W"
                by_cases hin : ky ∈ kl
                · rw [decide_eq_true hin]
                  refine iteF ?_
                  refine CO.mk hi ⟨_, rfl, s', ?_⟩
                  rw [htake, List.filter_append, List.filter_cons_of_neg (by simp [hin]), List.filter_nil, List.append_nil]
                  exact hD'
                · rw [decide_eq_false hin]
                  refine iteT ?_
                  walk_at "W"
                  refine CN.mk hi hD' ?_ ⟨_, rfl, fun b o e => by rw [upd_ne (ne_of_none e hD8)]; exact s' _ _ e, ?_⟩
                  · rw [List.length_map]; exact Nat.lt_of_le_of_lt (Nat.le_trans (List.length_filter_le ..) (Nat.le_trans (by rw [List.length_take]; exact Nat.min_le_right ..) hkl1)) (by decide)
                  · rw [upd_same, htake, List.filter_append, List.filter_cons_of_pos (by simp [hin]), List.filter_nil, List.map_append]; rfl
              · rintro σ' H9 ⟨v, rfl, s9, hD9⟩
                rw [List.length_map, List.take_length] at hD9
                have hw9 := s9 _ _ hw8
                have nD8w : D8 ≠ w := fun z => by rw [z, hw8] at hD8; cases hD8
                have nD8p : D8 ≠ p := (R8.ne0 hD8).symm
                walk_at "W"
                obtain ⟨H10, hH10⟩ : ∃ H10, H10 = upd H9 w (.lst [.int b, .ref D8]) := ⟨_, rfl⟩
                have hw10 : H10 w = some (.lst [.int b, .ref D8]) := by rw [hH10]; exact upd_same
                have keep10 : ∀ x o, x ≠ w → H8 x = some o → H10 x = some o := fun x o n e => by rw [hH10, upd_ne n]; exact s9 _ _ e
                have hD10 : H10 D8 = some (.lst ((ks1.filter fun k => decide (k ∉ kl)).map V.int)) := by rw [hH10, upd_ne nD8w]; exact hD9
                have hkq10 := keep10 _ _ nkqw hkq8
                have ha10 := keep10 _ _ naw ha8
                have R10 : Pot H10 p := by obtain ⟨x1, x2, x3, e⟩ := R8; exact ⟨x1, x2, x3, keep10 _ _ nwp.symm e⟩
                show ∃ a, V.ref kq = .ref a ∧ (∃ xs, SqL _ (upd H9 w (.lst [.int b, .ref D8])) a xs) ∧ _
                rw [← hH10]
                refine ⟨kq, rfl, ⟨_, SqL.of hkq10⟩, ?_⟩
                show ∀ D, upd H9 w (.lst [.int b, .ref D8]) D = none → _
                rw [← hH10]
                intro D11 hD11
                obtain ⟨ps, hps⟩ : ∃ ps : MRow, ps = kl.map fun k => (k, (rLook r k).getD 0) := ⟨_, rfl⟩
                have hpm : ps.map (·.1) = kl := by rw [hps, List.map_map]; exact List.map_id' _
                have hpl : ps.length = kl.length := by rw [hps, List.length_map]
                have look : ∀ ky ∈ kl, ∃ y, rLook r ky = some y := fun ky hk => by
                  cases e : rLook r ky with
                  | none => exact absurd (hmem ky ((hkl7 ky).mp hk)) ((rLook_none_iff ky).mp e)
                  | some y => exact ⟨y, rfl⟩
                have hl64 : kl.length ≤ 64 := Nat.le_trans hll (Nat.le_of_lt hl)
                refine comp_listU (xs := kl.map V.int) (fun i σ' H' => ∃ (v : Option V) (as : List V), σ' = [v, some (.ref a)] ∧ Same H10 H' ∧ H' D11 = some (.lst as) ∧ Prs H' as (ps.take i)) ⟨none, [], rfl, (show Same H10 (upd (upd H9 w (.lst [.int b, .ref D8])) D11 (.lst [])) by rw [← hH10]; exact Same.new hD11), upd_same, .nil⟩ (fun i σ' H' _ ⟨v, as, _, s', _⟩ => SqL.of (s' _ _ hkq10)) ?_ ?_
                · rintro i x σ' H' hx hi ⟨v, as, rfl, s', hD', hpr⟩
                  rw [List.getElem?_map] at hx
                  obtain ⟨ky, hky, rfl⟩ := Option.map_eq_some_iff.mp hx
                  first | (have zz_ := look ky (List.mem_of_getElem? hky); have y := zz_.1; have hy := zz_.2; clear zz_) | obtain ⟨y, hy⟩ := look ky (List.mem_of_getElem? hky)
                  have htake : ps.take (i + 1) = ps.take i ++ [(ky, y)] := by
                    rw [List.take_add_one, hps, List.getElem?_map, hky]
                    show _ ++ [(ky, (rLook r ky).getD 0)] = _
                    rw [hy]
                    rfl
                  have hg : DGet H' a (V.int ky) (some (V.int y)) := by
                    have z := DGet.k (k := Sum.inl ky) (s' _ _ ha10)
                    rw [valV_kvs, hy] at z
                    exact z
                  walk_at "W"
                  refine ⟨a, _, rfl, hg, ?_⟩
                  walk_at "W"
                  refine ⟨by show (2 : Nat) ≤ sizeLine; decide, fun t ht => ?_⟩
                  have ntD : D11 ≠ t := ne_of_none hD' ht
                  refine CN.mk hi (ys := as) (by rw [upd_ne ntD]; exact hD') ?_ ⟨_, as ++ [.ref t], rfl, fun b o e => ?_, upd_same, ?_⟩
                  · rw [paired_len hpr, List.length_take]
                    exact Nat.lt_of_le_of_lt (Nat.le_trans (Nat.min_le_right ..) (by rw [hpl]; exact hl64)) (by decide)
                  · rw [upd_ne (ne_of_none e hD11), upd_ne (ne_of_none (s' _ _ e) ht)]; exact s' _ _ e
                  · rw [htake]
                    refine paired_append (.cons ⟨t, rfl, by rw [upd_ne ntD.symm]; exact upd_same⟩ .nil) (hpr.keep fun x xs e => ?_)
                    rw [upd_ne (ne_of e hD' (by intro z; cases z)), upd_ne (ne_of_none e ht)]; exact e
                · rintro σ' H12 ⟨v, as, rfl, s12, hD12, hpr⟩
                  rw [List.length_map, ← hpl, List.take_length] at hpr
                  walk_at "W"
                  refine ⟨D11, as, rfl, .inl ⟨SqL.of hD12, fun t ht => ?_⟩⟩
                  have s13 : Same H12 (upd H12 t (.tup as)) := Same.new ht
                  walk_at "W"
                  refine ⟨by show (4 : Nat) ≤ sizeLine; decide, fun u hu => ?_⟩
                  have s14 := s13.trans (Same.new (o := .tup [.str "step", .int c, .int b, .ref t]) hu)
                  have s1014 := s12.trans s14
                  have hDn : H D8 = none := by
                    cases e : H D8 with
                    | none => rfl
                    | some o =>
                      have z := F8 _ _ nD8p nD8w (s4 _ _ (s3 _ _ (K2 _ _ nD8p (F1 _ _ (fun z => z.elim nD8p nD8w) e))))
                      rw [hD8] at z
                      cases z
                  refine k _ _ b D8 (ks1.filter fun k => decide (k ∉ kl)) ps ⟨b0, b1, bc, by rw [hpm]; exact hnd7, fun q hq => ?_, fun hb k hk => by rw [hpm]; exact (hkl7 k).mpr (hall hb k hk), by rw [hpl]; exact hll, fun k => ?_, Nat.le_trans (List.length_filter_le ..) hkl1⟩
                    ⟨u, t, as, rfl, upd_same, Same.new hu _ _ upd_same, hpr.keep fun x xs e => s14 _ _ e⟩ (s1014 _ _ hw10) (s1014 _ _ hD10) nD8p hDn (R10.same s1014) fun x o n e => ?_
                  · rw [hps] at hq
                    obtain ⟨ky, hk, rfl⟩ := List.mem_map.mp hq
                    first | (have zz_ := look ky hk; have y := zz_.1; have hy := zz_.2; clear zz_) | obtain ⟨y, hy⟩ := look ky hk
                    show rLook r ky = some ((rLook r ky).getD 0)
                    rw [hy]; rfl
                  · rw [List.mem_filter, decide_eq_true_iff, hpm, hk1 k]
                  · have n1 : x ≠ p := fun z => n (.inl z)
                    have n2 : x ≠ w := fun z => n (.inr z)
                    exact s1014 _ _ (keep10 _ _ n2 (F8 _ _ n1 n2 (s4 _ _ (s3 _ _ (K2 _ _ n1 (F1 _ _ n e))))))
            clear hN3
            refine ite2 (fun _ => ?_) (fun _ => ?_)
            · walk_at "W"
              refine ⟨rfl, D4, _, rfl, SqL.of hD6, fun kq hkq => ?_⟩
              rw [← List.map_reverse]
              have nkp : kq ≠ p := (R6.ne0 hkq).symm
              refine rest3 _ kq kk.reverse upd_same ?_ (fun k => List.mem_reverse) ?_ (by rw [List.length_reverse]; exact hkr) (K46.trans (KeepBut.new hkq)) (R6.new hkq)
              · intro z
                rw [z, K46 _ _ nwp (s4 _ _ (s3 _ _ hw2))] at hkq
                cases hkq
              · exact (List.reverse_perm _).nodup_iff.mpr hnd
            · exact rest3 H6 D4 kk hD6 nD4w (fun _ => Iff.rfl) hnd hkr K46 R6
      clear hN2
      by_cases hc : c < 65535
      · refine iteY hc ?_
        walk_at "W"
        refine wTakeP R1 (by decide) (by decide) fun r2 H2 a2 b2 R2 K2 => ?_
        walk_at "W"
        refine ite2 (fun _ => ?_) (fun _ => ?_)
        · walk_at "W"
          refine ⟨by show (2 : Nat) ≤ sizeLine; decide, fun q hq => ?_⟩
          walk_at "W"
          by_cases h65 : c < 65000
          · rw [decide_eq_true h65]
            refine wIxL (v := .int 40) upd_same rfl ?_
            walk_at "W"
            refine wTakeP (R2.new hq) (by decide) (by decide) fun r3 H3 a3 b3 R3 K3 => ?_
            walk_at "W"
            exact rest2 H3 _ (by omega) (by omega) (.inr (by omega)) (K2.trans ((KeepBut.new hq).trans K3)) R3
          · rw [decide_eq_false h65]
            refine wIxL (v := .int (65535 - c)) upd_same rfl ?_
            walk_at "W"
            refine wTakeP (R2.new hq) (by omega) (by omega) fun r3 H3 a3 b3 R3 K3 => ?_
            walk_at "W"
            exact rest2 H3 _ (by omega) (by omega) (.inr (by omega)) (K2.trans ((KeepBut.new hq).trans K3)) R3
        · exact rest2 H2 0 (by decide) (by decide) (.inl rfl) K2 R2
      · refine iteNo hc ?_
        refine iteF ?_
        exact rest2 H1 0 (by decide) (by decide) (.inl rfl) (KeepBut.refl _ _) R1
    clear hN1
    have nlw : l ≠ w := ne_of hlk hw fun z => by
      injection z with z
      have : V.ref l ∈ ks.map V.int := by rw [z]; simp
      first | (have zz_ := List.mem_map.mp this; have e := zz_.2.2; clear zz_) | obtain ⟨_, _, e⟩ := List.mem_map.mp this
      cases e
    by_cases hc : c = 0
    · refine iteY (by rw [hc]) ?_
      walk_at "W"
      refine ⟨a, r, rfl, ha, hl, rfl, fun l1 ns hl1 hperm _ => ?_⟩
      have s1 : Same H (upd H l1 (.lst (ns.map V.int))) := Same.new hl1
      have hw' := s1 _ _ hw
      have n1w : l1 ≠ w := fun z => by rw [z, hw] at hl1; cases hl1
      walk_at "W"
      refine rest1 _ l1 ns upd_same (by rw [upd_ne n1w]; exact upd_same) (fun k => by unfold walkW; rw [if_pos hc]; exact hperm.mem_iff) ?_ (hp.ne0 hl1).symm n1w (fun b o n e => ?_) ((hp.new hl1).upd nwp.symm)
      · rw [hperm.length_eq, List.length_map]; exact Nat.le_of_lt hl
      · rw [upd_ne fun z => n (.inr z)]; exact s1 _ _ e
    · refine iteNo (fun z => hc (by injection z)) ?_
      exact rest1 H l ks hw hlk (fun k => by unfold walkW; rw [if_neg hc]) hkl nlp nlw (Fr.refl _ _) hp
end

theorem cut_mem {o : MRow} {kk : Int} (k : Int) : k ∈ (rCut o kk).map (·.1) ↔ k ∈ o.map (·.1) ∧ k ≠ kk := by
  constructor
  · intro z
    obtain ⟨q, hq, rfl⟩ := List.mem_map.mp z
    first | (have zz_ := List.mem_filter.mp hq; have h1 := zz_.1; have h2 := zz_.2; clear zz_) | obtain ⟨h1, h2⟩ := List.mem_filter.mp hq
    exact ⟨List.mem_map.mpr ⟨q, h1, rfl⟩, of_decide_eq_true h2⟩
  · rintro ⟨z, n⟩
    obtain ⟨q, hq, rfl⟩ := List.mem_map.mp z
    exact List.mem_map.mpr ⟨q, List.mem_filter.mpr ⟨hq, decide_eq_true n⟩, rfl⟩
theorem put_mem {r : MRow} {kk y k : Int} (h : k ∈ r.map (·.1)) : k ∈ (rPut r kk y).map (·.1) := by
  have h1 : rLook (rPut r kk y) k ≠ none := by
    rw [rLook_put]
    by_cases e : k = kk
    · rw [if_pos e]; intro z; cases z
    · rw [if_neg e]; exact fun z => (rLook_none_iff k).mp z h
  by_cases z : k ∈ (rPut r kk y).map (·.1)
  · exact z
  · exact absurd ((rLook_none_iff k).mpr z) h1
theorem deedR_ok {r : MRow} (h : ROk r) (d : Deed) : ROk (deedR r d) := by
  cases d with
  | put a b => exact rPut_ok h
  | look a => exact h
  | cut a => exact rCut_ok h
theorem deedR_len {r : MRow} {i : Nat} (h : ROk r) (d : Deed) (hl : r.length ≤ i) : (deedR r d).length ≤ i + 1 := by
  cases d with
  | put a b => show (rPut r a b).length ≤ _; rw [rPut_len]; split <;> omega
  | look a => show r.length ≤ _; omega
  | cut a => exact Nat.le_trans (rCut_le _ _) (Nat.le_succ_of_le hl)
theorem deedR_mem {r : MRow} {d : Deed} {q : Int × Int} (h : q ∈ deedR r d) : q.1 = deedK d ∨ ∃ q' ∈ r, q.1 = q'.1 := by
  cases d with
  | put a b => exact rPut_mem h
  | look a => exact .inr ⟨q, h, rfl⟩
  | cut a => exact .inr ⟨q, (List.mem_filter.mp h).1, rfl⟩
theorem agr_deed {L : LS} {r : MRow} (h : L.w = r) (d : Deed) : agr L (tellD d (rLook r (deedK d))) = true := by
  subst h
  cases d <;> exact decide_eq_true rfl
theorem next_deed {L : LS} {r : MRow} (h : L.w = r) (d : Deed) (t : Option Int) : (nextL L (tellD d t)).w = deedR r d ∧ (nextL L (tellD d t)).c = L.c := by
  subst h
  cases d <;> exact ⟨rfl, rfl⟩
theorem base_mem {L : LS} {c : Int} {r : MRow} {ks : List Int} (hw : L.w = r) (ho : ∀ k, k ∈ L.o.map (·.1) ↔ k ∈ ks) (k : Int) : k ∈ (if c = 0 then L.w else L.o).map (·.1) ↔ k ∈ walkW c r ks := by
  unfold walkW
  by_cases hc : c = 0
  · rw [if_pos hc, if_pos hc, hw]
  · rw [if_neg hc, if_neg hc]; exact ho k
theorem owe_mem {L : LS} {c : Int} {r ps : MRow} {ks : List Int} (hw : L.w = r) (ho : ∀ k, k ∈ L.o.map (·.1) ↔ k ∈ ks) (k : Int) : k ∈ (owe L c ps).map (·.1) ↔ k ∈ walkW c r ks ∧ k ∉ ps.map (·.1) := by
  unfold owe
  rw [cutAll_filter, ← base_mem (c := c) hw ho k]
  constructor
  · intro z
    obtain ⟨q, hq, rfl⟩ := List.mem_map.mp z
    first | (have zz_ := List.mem_filter.mp hq; have h1 := zz_.1; have h2 := zz_.2; clear zz_) | obtain ⟨h1, h2⟩ := List.mem_filter.mp hq
    exact ⟨List.mem_map.mpr ⟨q, h1, rfl⟩, of_decide_eq_true h2⟩
  · rintro ⟨z, n⟩
    obtain ⟨q, hq, rfl⟩ := List.mem_map.mp z
    exact List.mem_map.mpr ⟨q, List.mem_filter.mpr ⟨hq, decide_eq_true n⟩, rfl⟩
theorem step_ok {L : LS} {c b : Int} {r ps : MRow} {ks ks' : List Int} (hw : L.w = r) (hc : L.c = c) (T : StepT c b r ks ks' ps) : stepOk L c b ps = true := by
  unfold stepOk
  rw [decide_eq_true hc.symm, hw, hasAll_iff.mpr ⟨T.nd, T.at_⟩]
  have : mayF b c = true := by
    unfold mayF
    rcases T.bc with z | z
    · rw [decide_eq_true z]; rfl
    · rw [decide_eq_true (show 0 ≤ b ∧ b ≤ 65535 from ⟨T.b0, T.b1⟩), decide_eq_true z]; simp
  rw [this]
  rfl
theorem step_agr {L : LS} {c b : Int} {r ps : MRow} {ks ks' : List Int} (hw : L.w = r) (hc : L.c = c) (ho : ∀ k, k ∈ L.o.map (·.1) ↔ k ∈ ks) (T : StepT c b r ks ks' ps) : agr L (.step c b ps) = true := by
  show (stepOk L c b ps && (decide (b ≠ 0) || (owe L c ps).isEmpty)) = true
  rw [step_ok hw hc T, Bool.true_and]
  by_cases hb : b = 0
  · have : owe L c ps = [] := by
      cases e : owe L c ps with
      | nil => rfl
      | cons q o =>
        have := (owe_mem (c := c) (ps := ps) hw ho q.1).mp (by rw [e]; exact List.mem_cons_self ..)
        exact absurd (T.all hb _ this.1) this.2
    rw [this]
    simp
  · rw [decide_eq_true hb]; rfl
theorem step_next {L : LS} {c b : Int} {r ps : MRow} {ks ks' : List Int} (hw : L.w = r) (hc : L.c = c) (T : StepT c b r ks ks' ps) : nextL L (.step c b ps) = ⟨L.w, b, owe L c ps⟩ := by
  show (if stepOk L c b ps = true then _ else _) = _
  rw [step_ok hw hc T]; rfl
theorem fw_snoc {ths : List Thing} {t : Thing} (h : fw L0 ths = none) (a : agr (runL L0 ths) t = true) : fw L0 (ths ++ [t]) = none := by
  rw [fw_none_append ths [t] L0 h]
  have : fw (runL L0 ths) [t] = none := by
    show (if agr (runL L0 ths) t = true then _ else _) = none
    rw [if_pos a]; rfl
  rw [this]; rfl
noncomputable def Drawn (n m : Nat) (t : Thing) : Prop := TP (KS n) t ∧ match t with | .step _ _ ps => ps.length ≤ m | _ => True
structure IS (H : Hp) (p a w s l : Addr) (r : MRow) (c : Int) (ks : List Int) (xs : List V) (ths : List Thing) (i : Nat) (H' : Hp) : Prop where
  R : Pot H' p
  ha : H' a = some (.dK (kvs r))
  ok : ROk r
  rl : r.length ≤ i
  rk : ∀ q ∈ r, KS 0 q.1
  hw : H' w = some (.lst [.int c, .ref l])
  hl : H' l = some (.lst (ks.map V.int))
  nlp : l ≠ p
  nls : l ≠ s
  kl : ks.length ≤ 64
  c0 : 0 ≤ c
  c1 : c ≤ 65535
  kr : ∀ k ∈ ks, k ∈ r.map (·.1)
  hs : H' s = some (.lst xs)
  ht : ThVs H' xs ths
  tl : ths.length = i
  td : ∀ t ∈ ths, Drawn 0 64 t
  fn : fw L0 ths = none
  lw : (runL L0 ths).w = r
  lc : (runL L0 ths).c = c
  lo : ∀ k, k ∈ (runL L0 ths).o.map (·.1) ↔ k ∈ ks
  kp : KeepBut p H H'
noncomputable def spStory : Sp := fun vs H Q _ => ∃ (p : Addr) (most : Int), vs = [.ref p, .int most] ∧ 0 ≤ most ∧ most ≤ 40 ∧ Pot H p ∧
  ∀ s xs ths H', H s = none → H' s = some (.lst xs) → ThVs H' xs ths → ths.length ≤ 40 → (∀ t ∈ ths, Drawn 0 64 t) → fw L0 ths = none → Pot H' p → KeepBut p H H' → Q (.ref s) H'
section
variable {H H' H1 : Hp} {p a w s l : Addr} {r : MRow} {c : Int} {ks : List Int} {xs : List V} {ths : List Thing} {i : Nat}
theorem IS.keep (I : IS H p a w s l r c ks xs ths i H') (nsp : s ≠ p) (R1 : Pot H1 p) (K1 : KeepBut p H' H1) : IS H p a w s l r c ks xs ths i H1 :=
  ⟨R1, K1 _ _ (I.R.neD I.ha) I.ha, I.ok, I.rl, I.rk, K1 _ _ (I.R.neL I.hw (show (2 : Nat) ≠ 3 by decide)) I.hw, K1 _ _ I.nlp I.hl, I.nlp, I.nls, I.kl, I.c0, I.c1, I.kr, K1 _ _ nsp I.hs, I.ht.keep (I.R.tk K1), I.tl, I.td, I.fn, I.lw, I.lc, I.lo, I.kp.trans K1⟩
end
section
variable {P : Program} {w : World} {K : PySem.W.Frag} {mg : Str → Option Value} {base : Heap} {C : Addr}
theorem F_story (d : Dfn K mg "_law_story" s_law_story ["pot", "most"]) (g : Gs K mg C) (F_law_take : Fn P w K mg base "_law_take" 2 ["pot", "many"] spTakeP) (F_law_deed_told : Fn P w K mg base "_law_deed_told" 4 ["pot", "plain"] spDeedTold) (F_law_step_told : Fn P w K mg base "_law_step_told" 3 ["pot", "plain", "walk"] spStepTold) :
    Fn P w K mg base "_law_story" 5 ["pot", "most"] spStory := by
  refine d.fn sc_law_story (fun vs H Q E h => ?_) (fun f cdv A outer st H vs Q E hr h => ?_)
  · obtain ⟨p, most, rfl, _⟩ := h
    rfl
  · obtain ⟨p, most, rfl, m0, m1, hp, k⟩ := h
    refine ⟨_, (B.scons (B.set 2 sc_law_story.nd B.dnew)
      (B.scons (B.set 3 sc_law_story.nd (B.lst (B.cons B.int (B.cons (B.lst B.nil) B.nil))))
      (B.scons (B.set 4 sc_law_story.nd (B.lst B.nil))
      (B.scons (B.fors (B.irange g.b_range (B.cons (B.fn F_law_take (hr.mono (by first | decide | omega)) (B.cons (B.v 0) (B.cons (B.op op_add (B.v 1) B.int) B.nil))) B.nil)) (B.gname (i := 5) sc_law_story.nd) (B.sone (B.ifs (B.tcmp op_eq (B.fn F_law_take (hr.mono (by first | decide | omega)) (B.cons (B.v 0) (B.cons B.int B.nil))) B.int) (B.sone (B.expr (B.m PySem.F.plainAttrs_list PySem.F.slot_list_append PySem.F.type_list_append mt_append (B.v 4) (B.cons (B.fn F_law_step_told (hr.mono (by first | decide | omega)) (B.cons (B.v 0) (B.cons (B.v 2) (B.cons (B.v 3) B.nil)))) B.nil)))) (B.scons (B.expr (B.m PySem.F.plainAttrs_list PySem.F.slot_list_append PySem.F.type_list_append mt_append (B.v 4) (B.cons (B.fn F_law_deed_told (hr.mono (by first | decide | omega)) (B.cons (B.v 0) (B.cons (B.v 2) B.nil))) B.nil)))
      (B.sone (B.ifs (B.tcmp op_eq (B.ix ix_tup (B.ix ix_list (B.v 4) (B.un un_neg B.int)) B.int) B.str) (B.sone (B.asg (SW.B.compIf [4] ["key", "story"] (SW.CompScope.of rfl rfl (by decide +kernel) (by decide +kernel) rfl ⟨rfl, trivial⟩ rfl rfl rfl) (by decide +kernel) (B.ilist (B.ix ix_list (B.v 3) B.int)) (fun _ _ _ _ => (B.tcmp op_ne (B.v 0) (B.ix (SW.ix_tupK K) (B.ix (SW.ix_listK K) (B.v 1) (B.un un_neg B.int)) B.int))) (fun _ _ _ _ => (B.v 0))) (B.gsub (B.v 3) B.int set_list))) B.snil))))))
      (B.sone (B.ret (B.v 4))))))), ?_⟩
    walk_at "W"
    intro a ha
    walk_at "W"
    refine ⟨by show (0 : Nat) ≤ sizeLine; decide, fun l hl => ?_⟩
    walk_at "W"
    refine ⟨by show (2 : Nat) ≤ sizeLine; decide, fun w hw => ?_⟩
    walk_at "W"
    refine ⟨by show (0 : Nat) ≤ sizeLine; decide, fun s hs => ?_⟩
    have t1 : Same H (upd H a (.dK [])) := Same.new ha
    have t2 := Same.new (o := .lst []) hl
    have t3 := Same.new (o := .lst [.int 0, .ref l]) hw
    have t4 := Same.new (o := .lst []) hs
    have t12 := t1.trans t2
    have t13 := t12.trans t3
    have t14 := t13.trans t4
    have nap : a ≠ p := (hp.ne0 ha).symm
    have nlp : l ≠ p := ((hp.same t1).ne0 hl).symm
    have nwp : w ≠ p := ((hp.same t12).ne0 hw).symm
    have nsp : s ≠ p := ((hp.same t13).ne0 hs).symm
    have nsw : s ≠ w := fun z => by rw [z, upd_same] at hs; cases hs
    have nsa : s ≠ a := fun z => by rw [z, t3 _ _ (t2 _ _ upd_same)] at hs; cases hs
    have naw : a ≠ w := fun z => by rw [← z, t2 _ _ upd_same] at hw; cases hw
    have nls : l ≠ s := fun z => by rw [← z, t3 _ _ upd_same] at hs; cases hs
    have hs0 : H s = none := t13.free hs
    walk_at "W"
    refine wTakeP (hp.same t14) (by omega) (by omega) fun n H5 n0 n1 R5 K5 => ?_
    walk_at "W"
    refine ⟨n, rfl, by omega, by omega, ?_⟩
    refine SW.forRangeC (fun i σ H' => ∃ (r : MRow) (c : Int) (l : Addr) (ks : List Int) (xs : List V) (ths : List Thing) (v5 : Option V), σ = [some (.ref p), some (.int most), some (.ref a), some (.ref w), some (.ref s), v5] ∧ IS H p a w s l r c ks xs ths i H') ⟨[], 0, l, [], [], [], none, rfl, ?_⟩ ?_ ?_
    · exact ⟨R5, K5 _ _ nap (t4 _ _ (t3 _ _ (t2 _ _ upd_same))), List.nodup_nil, Nat.le_refl _, (fun _ h => nomatch h), K5 _ _ nwp (t4 _ _ upd_same), K5 _ _ nlp (t4 _ _ (t3 _ _ upd_same)), nlp, nls, Nat.zero_le _, by decide, by decide, (fun _ h => nomatch h), K5 _ _ nsp upd_same, .nil, rfl, (fun _ h => nomatch h), rfl, rfl, rfl, fun _ => Iff.rfl, (SW.Same.but t14).trans K5⟩
    · rintro i σ H' hi ⟨r, c, l, ks, xs, ths, v5, rfl, I⟩
      have hi40 : i < 41 := by omega
      walk_at "W"
      refine wTakeP I.R (by decide) (by decide) fun q H1 q0 q1 R1 K1 => ?_
      have I1 := I.keep nsp R1 K1
      clear I
      have hxl := paired_len I1.ht
      have htl := I1.tl
      have hrl := I1.rl
      walk_at "W"
      refine ite2 (fun _ => ?_) (fun _ => ?_)
      · walk_at "W"
        refine wBM ?_
        walk_at "W"
        refine ⟨.inl ⟨rfl, _, SqL.of I1.hs⟩, ?_⟩
        walk_at "W"
        refine wStepTold I1.R I1.ha I1.ok (by omega) I1.hw I1.hl I1.nlp I1.kl I1.c0 I1.c1 I1.kr fun v H2 b l' ks' ps T hv hw2 hl2 nl2p hl2n R2 F2 => ?_
        have hs2 := F2 _ _ (fun z => z.elim nsp nsw) I1.hs
        have ha2 := F2 _ _ (fun z => z.elim nap naw) I1.ha
        have nl2s : l' ≠ s := fun z => by rw [z, I1.hs] at hl2n; cases hl2n
        have tk2 : TK H1 H2 := F2.tk fun b xs z e => by
          rcases z with rfl | rfl
          · first | (have zz_ := I1.R; have e1 := zz_.2.2.2; clear zz_) | obtain ⟨_, _, _, e1⟩ := I1.R
            rw [e1] at e; cases e
          · rw [I1.hw] at e; cases e
        walk_at "W"
        refine ⟨s, _, _, rfl, rfl, hs2, by rw [hxl, htl]; exact Nat.lt_trans hi40 (by decide), ?_⟩
        have tk3 : TK H2 (upd H2 s (.lst (xs ++ [v]))) := fun x ys e => by rw [upd_ne (ne_of e hs2 (by intro z; cases z))]; exact e
        walk_at "W"
        refine ⟨r, b, l', ks', xs ++ [v], ths ++ [.step c b ps], _, rfl, ⟨R2.upd nsp.symm, by rw [upd_ne nsa.symm]; exact ha2, I1.ok, by omega, I1.rk, by rw [upd_ne nsw.symm]; exact hw2, by rw [upd_ne nl2s]; exact hl2, nl2p, nl2s, T.kl, T.b0, T.b1, fun k hk => ?_, upd_same, paired_append (.cons (hv.keep tk3) .nil) ((I1.ht.keep tk2).keep tk3), by rw [List.length_append, htl]; rfl, fun t ht => ?_, fw_snoc I1.fn (step_agr I1.lw I1.lc I1.lo T), ?_, ?_, fun k => ?_, fun x o nx e => ?_⟩⟩
        · have := ((T.ks k).mp hk).1
          unfold walkW at this
          by_cases hc : c = 0
          · rw [if_pos hc] at this; exact this
          · rw [if_neg hc] at this; exact I1.kr k this
        · rcases List.mem_append.mp ht with ht | ht
          · exact I1.td t ht
          · rw [List.mem_singleton] at ht
            subst ht
            refine ⟨fun q hq => ?_, Nat.le_trans T.len (by omega)⟩
            first | (have zz_ := rLook_mem (T.at_ q hq); have q' := zz_.1; have hq' := zz_.2.1; have e := zz_.2.2; clear zz_) | obtain ⟨q', hq', e⟩ := rLook_mem (T.at_ q hq)
            rw [← e]
            exact I1.rk q' hq'
        · rw [runL_append]
          show (nextL (runL L0 ths) (.step c b ps)).w = r
          rw [step_next I1.lw I1.lc T]; exact I1.lw
        · rw [runL_append]
          show (nextL (runL L0 ths) (.step c b ps)).c = b
          rw [step_next I1.lw I1.lc T]
        · rw [runL_append]
          show k ∈ (nextL (runL L0 ths) (.step c b ps)).o.map (·.1) ↔ _
          rw [step_next I1.lw I1.lc T, T.ks k]
          exact owe_mem I1.lw I1.lo k
        · rw [upd_ne (ne_of_none e hs0)]
          have nw : x ≠ w := ne_of_none e (t12.free hw)
          exact F2 _ _ (fun z => z.elim nx nw) (I1.kp _ _ nx e)
      · walk_at "W"
        refine wBM ?_
        walk_at "W"
        refine ⟨.inl ⟨rfl, _, SqL.of I1.hs⟩, ?_⟩
        walk_at "W"
        refine wDeedTold I1.R I1.ha I1.ok (by omega) fun v H2 d hk hv ha2 R2 F2 => ?_
        have nla : l ≠ a := ne_of I1.hl I1.ha (by intro z; cases z)
        have nlw : l ≠ w := ne_of I1.hl I1.hw fun z => by
          injection z with z
          have : V.ref l ∈ ks.map V.int := by rw [z]; simp
          first | (have zz_ := List.mem_map.mp this; have e := zz_.2.2; clear zz_) | obtain ⟨_, _, e⟩ := List.mem_map.mp this
          cases e
        have hs2 := F2 _ _ (fun z => z.elim nsp nsa) I1.hs
        have hw2 := F2 _ _ (fun z => z.elim nwp naw.symm) I1.hw
        have hl2 := F2 _ _ (fun z => z.elim I1.nlp nla) I1.hl
        have tk2 : TK H1 H2 := F2.tk fun b xs z e => by
          rcases z with rfl | rfl
          · first | (have zz_ := I1.R; have e1 := zz_.2.2.2; clear zz_) | obtain ⟨_, _, _, e1⟩ := I1.R
            rw [e1] at e; cases e
          · rw [I1.ha] at e; cases e
        walk_at "W"
        refine ⟨s, _, _, rfl, rfl, hs2, by rw [hxl, htl]; exact Nat.lt_trans hi40 (by decide), ?_⟩
        obtain ⟨H3, hH3⟩ : ∃ H3, H3 = upd H2 s (.lst (xs ++ [v])) := ⟨_, rfl⟩
        have tk3 : TK H2 H3 := fun x ys e => by rw [hH3, upd_ne (ne_of e hs2 (by intro z; cases z))]; exact e
        have hs3 : H3 s = some (.lst (xs ++ [v])) := by rw [hH3]; exact upd_same
        have ha3 : H3 a = some (.dK (kvs (deedR r d))) := by rw [hH3, upd_ne nsa.symm]; exact ha2
        have hw3 : H3 w = some (.lst [.int c, .ref l]) := by rw [hH3, upd_ne nsw.symm]; exact hw2
        have hl3 : H3 l = some (.lst (ks.map V.int)) := by rw [hH3, upd_ne I1.nls]; exact hl2
        have R3 : Pot H3 p := by rw [hH3]; exact R2.upd nsp.symm
        have k3 : KeepBut p H H3 := fun x o nx e => by
          rw [hH3, upd_ne (ne_of_none e hs0)]
          exact F2 _ _ (fun z => z.elim nx (ne_of_none e ha)) (I1.kp _ _ nx e)
        rw [← hH3]
        clear hH3
        have hv3 := hv.keep tk3
        have ht3 := paired_append (.cons hv3 .nil) ((I1.ht.keep tk2).keep tk3)
        have mk : ∀ H4 l4 (ks4 : List Int) (v5 : Option V), (∀ x o, x ≠ w → H3 x = some o → H4 x = some o) → H4 w = some (.lst [.int c, .ref l4]) → H4 l4 = some (.lst (ks4.map V.int)) → l4 ≠ p → l4 ≠ s → ks4.length ≤ 64 → (∀ k ∈ ks4, k ∈ (deedR r d).map (·.1)) → (∀ k, k ∈ (nextL (runL L0 ths) (tellD d (rLook r (deedK d)))).o.map (·.1) ↔ k ∈ ks4) →
            ∃ (r : MRow) (c : Int) (l : Addr) (ks : List Int) (xs : List V) (ths : List Thing) (v : Option V), [some (V.ref p), some (.int most), some (.ref a), some (.ref w), some (.ref s), v5] = [some (.ref p), some (.int most), some (.ref a), some (.ref w), some (.ref s), v] ∧ IS H p a w s l r c ks xs ths (i + 1) H4 := by
          intro H4 l4 ks4 v5 k4 hw4 hl4 n1 n2 e1 e2 e3
          have tk4 : TK H3 H4 := fun x ys e => k4 _ _ (ne_of e hw3 (by intro z; cases z)) e
          first | (have zz_ := next_deed I1.lw d (rLook r (deedK d)); have nw_ := zz_.1; have nc_ := zz_.2; clear zz_) | obtain ⟨nw_, nc_⟩ := next_deed I1.lw d (rLook r (deedK d))
          refine ⟨deedR r d, c, l4, ks4, xs ++ [v], ths ++ [tellD d (rLook r (deedK d))], v5, rfl, ⟨?_, k4 _ _ naw ha3, deedR_ok I1.ok d, deedR_len I1.ok d hrl, fun q hq => ?_, hw4, hl4, n1, n2, e1, I1.c0, I1.c1, e2, k4 _ _ nsw hs3, ThVs.keep ht3 tk4, by rw [List.length_append, htl]; rfl, fun t ht => ?_, fw_snoc I1.fn (agr_deed I1.lw d), ?_, ?_, fun k => ?_, fun x o nx e => k4 _ _ (ne_of_none e (t12.free hw)) (k3 _ _ nx e)⟩⟩
          · first | (have zz_ := R3; have x1 := zz_.1; have x2 := zz_.2.1; have x3 := zz_.2.2.1; have e := zz_.2.2.2; clear zz_) | obtain ⟨x1, x2, x3, e⟩ := R3
            exact ⟨x1, x2, x3, k4 _ _ nwp.symm e⟩
          · rcases deedR_mem hq with e | ⟨q', hq', e⟩
            · rw [e]; exact hk
            · rw [e]; exact I1.rk q' hq'
          · rcases List.mem_append.mp ht with ht | ht
            · exact I1.td t ht
            · rw [List.mem_singleton] at ht
              subst ht
              cases d <;> exact ⟨hk, trivial⟩
          · rw [runL_append]; exact nw_
          · rw [runL_append]; exact nc_.trans I1.lc
          · rw [runL_append]; exact e3 k
        walk_at "W"
        refine wIxL hs3 (L2.atI_last xs v) ?_
        cases d with
        | put kk y =>
          obtain ⟨u, rfl, hu⟩ := hv3
          walk_at "W"
          refine ⟨rfl, ?_⟩
          walk_at "W"
          refine iteNo (str_ne (by decide +kernel)) ?_
          walk_at "W"
          exact mk H3 l ks _ (fun _ _ _ e => e) hw3 hl3 I1.nlp I1.nls I1.kl (fun k hk => put_mem (I1.kr k hk)) I1.lo
        | look kk =>
          obtain ⟨u, rfl, hu⟩ := hv3
          walk_at "W"
          refine ⟨rfl, ?_⟩
          walk_at "W"
          refine iteNo (str_ne (by decide +kernel)) ?_
          walk_at "W"
          exact mk H3 l ks _ (fun _ _ _ e => e) hw3 hl3 I1.nlp I1.nls I1.kl I1.kr I1.lo
        | cut kk =>
          obtain ⟨u, rfl, hu⟩ := hv3
          walk_at "W"
          refine ⟨rfl, ?_⟩
          walk_at "W"
          refine iteY rfl ?_
          walk_at "W"
          refine ⟨l, rfl, ⟨_, SqL.of hl3⟩, fun D hD => ?_⟩
          refine comp_list (xs := ks.map V.int) (fun i σ' H' => ∃ v : Option V, σ' = [v, some (.ref s)] ∧ Same H3 H' ∧ H' D = some (.lst (((ks.take i).filter fun k => decide (k ≠ kk)).map V.int))) ⟨none, rfl, Same.new hD, upd_same⟩ (fun i σ' H' _ ⟨v, _, s', _⟩ => SqL.of (s' _ _ hl3)) ?_ ?_
          · rintro j x σ' H' hx hj ⟨v, rfl, s', hD'⟩
            rw [List.getElem?_map] at hx
            obtain ⟨ky, hky, rfl⟩ := Option.map_eq_some_iff.mp hx
            have htake : ks.take (j + 1) = ks.take j ++ [ky] := by rw [List.take_add_one, hky]; rfl
            have hu' := s' _ _ hu
            walk_at "W"
            refine wIxL (s' _ _ hs3) (L2.atI_last xs _) ?_
            walk_at "W"
            by_cases hin : ky = kk
            · rw [show decide (V.int ky = V.int kk) = true from decide_eq_true (by rw [hin])]
              refine iteF ?_
              refine CO.mk hj ⟨_, rfl, s', ?_⟩
              rw [htake, List.filter_append, List.filter_cons_of_neg (by simp [hin]), List.filter_nil, List.append_nil]
              exact hD'
            · rw [show decide (V.int ky = V.int kk) = false from decide_eq_false (fun z => hin (by injection z))]
              refine iteT ?_
              walk_at "W"
              refine CN.mk hj hD' ?_ ⟨_, rfl, fun b o e => by rw [upd_ne (ne_of_none e hD)]; exact s' _ _ e, ?_⟩
              · rw [List.length_map]; exact Nat.lt_of_le_of_lt (Nat.le_trans (List.length_filter_le ..) (Nat.le_trans (by rw [List.length_take]; exact Nat.min_le_right ..) I1.kl)) (by decide)
              · rw [upd_same, htake, List.filter_append, List.filter_cons_of_pos (by simp [hin]), List.filter_nil, List.map_append]; rfl
          · rintro σ' H9 ⟨v, rfl, s9, hD9⟩
            rw [List.length_map, List.take_length] at hD9
            have hw9 := s9 _ _ hw3
            have nDw : D ≠ w := fun z => by rw [z, hw3] at hD; cases hD
            have nDp : D ≠ p := (R3.ne0 hD).symm
            have nDs : D ≠ s := fun z => by rw [z, hs3] at hD; cases hD
            walk_at "W"
            refine mk _ D (ks.filter fun k => decide (k ≠ kk)) _ (fun x o n e => by rw [upd_ne n]; exact s9 _ _ e) upd_same (by rw [upd_ne nDw]; exact hD9) nDp nDs (Nat.le_trans (List.length_filter_le ..) I1.kl) (fun k hk => ?_) (fun k => ?_)
            · first | (have zz_ := List.mem_filter.mp hk; have h1 := zz_.1; have h2 := zz_.2; clear zz_) | obtain ⟨h1, h2⟩ := List.mem_filter.mp hk
              exact (cut_mem k).mpr ⟨I1.kr k h1, of_decide_eq_true h2⟩
            · show k ∈ (rCut (runL L0 ths).o kk).map (·.1) ↔ _
              rw [cut_mem, I1.lo k, List.mem_filter, decide_eq_true_iff]
    · rintro σ H' ⟨r, c, l, ks, xs, ths, v5, rfl, I⟩
      have htl := I.tl
      walk_at "W"
      exact k s xs ths H' hs0 I.hs I.ht (by omega) I.td I.fn I.R I.kp
end

theorem KS.more {n : Nat} {k : Int} (h : KS n k) : KS (n + 1) k := by
  rcases h with h | h
  · exact .inl h
  · exact .inr ⟨by omega, h.2⟩
theorem KS.near {n : Nat} {k : Int} (h : KS n k) (hn : n ≤ 10) : KS (n + 1) (k + if decide (0 < k) = true then -1 else 1) := by
  by_cases z : 0 < k
  · rw [decide_eq_true z, if_pos rfl]
    rcases h with h | h
    · exact .inl (by omega)
    · exact .inr (by omega)
  · rw [decide_eq_false z, if_neg Bool.false_ne_true]
    rcases h with h | h
    · exact .inl (by omega)
    · omega
theorem Drawn.more {n m : Nat} {t : Thing} (h : Drawn n m t) : Drawn (n + 1) (m + 1) t := by
  cases t with
  | put a b c => exact ⟨KS.more h.1, trivial⟩
  | look a b => exact ⟨KS.more h.1, trivial⟩
  | cut a b => exact ⟨KS.more h.1, trivial⟩
  | step a b c => exact ⟨fun q hq => KS.more (h.1 q hq), Nat.le_succ_of_le h.2⟩
noncomputable def spBentStep : Sp := fun vs H Q _ => ∃ (p u q : Addr) (c b : Int) (xs : List V) (ps : MRow) (n m : Nat), vs = [.ref p, .ref u] ∧ Pot H p ∧ H u = some (.tup [.str "step", .int c, .int b, .ref q]) ∧ H q = some (.tup xs) ∧ Prs H xs ps ∧ (∀ q ∈ ps, KS n q.1) ∧ ps.length ≤ m ∧ n ≤ 10 ∧ m ≤ 900 ∧
  ∀ v H' th, Drawn (n + 1) (m + 1) th → ThV H' v th → Pot H' p → KeepBut p H H' → Q v H'
theorem cut_lo {xs : List V} {at_ : Int} (h0 : 0 ≤ at_) (h1 : at_ < xs.length) : cutV xs none (some at_) = xs.take at_.toNat := by
  unfold cutV
  rw [HT.sIx_none]
  obtain ⟨j, rfl⟩ := Int.eq_ofNat_of_zero_le h0
  rw [HT.sIx_nat, List.drop_zero, Nat.sub_zero, Int.toNat_natCast, Nat.min_eq_left (by omega)]
theorem cut_hi {xs : List V} {at_ : Int} (h0 : 0 ≤ at_) (h1 : at_ < xs.length) : cutV xs (some (at_ + 1)) none = xs.drop (at_.toNat + 1) := by
  unfold cutV
  rw [HT.sIx_none]
  obtain ⟨j, rfl⟩ := Int.eq_ofNat_of_zero_le h0
  rw [show ((j : Int) + 1) = ((j + 1 : Nat) : Int) by omega, HT.sIx_nat, Int.toNat_natCast, Nat.min_eq_left (by omega)]
  exact List.take_of_length_le (by rw [List.length_drop]; exact Nat.le_refl _)
theorem whole_lo {n : Nat} {at_ : Int} (h0 : 0 ≤ at_) (h1 : at_ < n) : ¬ (HT.sIx n 0 none = 0 ∧ HT.sIx n n (some at_) = n) := by
  obtain ⟨j, rfl⟩ := Int.eq_ofNat_of_zero_le h0
  rw [HT.sIx_nat]
  omega
theorem whole_hi {n : Nat} {at_ : Int} (h0 : 0 ≤ at_) (h1 : at_ < n) : ¬ (HT.sIx n 0 (some (at_ + 1)) = 0 ∧ HT.sIx n n none = n) := by
  obtain ⟨j, rfl⟩ := Int.eq_ofNat_of_zero_le h0
  rw [show ((j : Int) + 1) = ((j + 1 : Nat) : Int) by omega, HT.sIx_nat]
  omega
theorem ix_pm (b : Bool) : atI [V.int 1, V.int (-1)] (if b = true then 1 else 0) = some (V.int (if b = true then -1 else 1)) := by cases b <;> rfl
theorem or_both {b1 : Bool} {H1 : Hp} {Body R : Hp → Prop} {T : (Bool → Hp → Prop) → Prop} (hb : ∀ Hx, Same H1 Hx → Body Hx) (hT : (∀ Hx, Same H1 Hx → Body Hx) → b1 = false → T fun b H2 => if b = true then Body H2 else R H2) :
    if b1 = true then (if true = true then Body H1 else R H1) else T fun b H2 => if b = true then Body H2 else R H2 := by
  cases b1 with
  | true => exact iteT (iteT (hb H1 (Same.refl _)))
  | false => exact iteF (hT hb rfl)
section
variable {P : Program} {w : World} {K : PySem.W.Frag} {mg : Str → Option Value} {base : Heap} {C : Addr}
theorem F_bent_step (d : Dfn K mg "_law_bent_step" s_law_bent_step ["pot", "row"]) (g : Gs K mg C) (F_law_take : Fn P w K mg base "_law_take" 2 ["pot", "many"] spTakeP) : Fn P w K mg base "_law_bent_step" 3 ["pot", "row"] spBentStep := by
  refine d.fn sc_law_bent_step (fun vs H Q E h => ?_) (fun f cdv A outer s H vs Q E hr h => ?_)
  · obtain ⟨p, u, q, c, b, xs, ps, n, m, rfl, _⟩ := h
    rfl
  · obtain ⟨p, u, q, c, b, xs, ps, n, m, rfl, hp, hu, hq, hps, hks, hlm, hn, hm, k⟩ := h
    have hxl := hps.len
    have four : (4 : Nat) ≤ sizeLine := by decide
    have ksm : ∀ q ∈ ps, KS (n + 1) q.1 := fun q hq => KS.more (hks q hq)
    -- what is told at last
    have fin : ∀ H5 (c5 b5 : Int) (q5 : Addr) (ys : List V) (ps5 : MRow), H5 q5 = some (.tup ys) → Prs H5 ys ps5 → (∀ q ∈ ps5, KS (n + 1) q.1) → ps5.length ≤ m + 1 → Pot H5 p → KeepBut p H H5 →
        ∀ t, H5 t = none → Q (.ref t) (upd H5 t (.tup [.str "step", .int c5, .int b5, .ref q5])) := by
      intro H5 c5 b5 q5 ys ps5 hq5 hps5 hk5 hl5 R5 K5 t ht
      have s6 : Same H5 (upd H5 t (.tup [.str "step", .int c5, .int b5, .ref q5])) := Same.new ht
      exact k _ _ (.step c5 b5 ps5) ⟨hk5, hl5⟩ ⟨t, q5, ys, rfl, upd_same, s6 _ _ hq5, hps5.keep fun a xs e => s6 _ _ e⟩ (R5.new ht) (K5.trans (KeepBut.new ht))
    refine ⟨_, (B.scons (B.set 2 sc_law_bent_step.nd (B.fn F_law_take (hr.mono (by first | decide | omega)) (B.cons (B.v 0) (B.cons B.int B.nil))))
      (B.scons (B.set 3 sc_law_bent_step.nd (B.ix ix_tup (B.v 1) B.int))
      (B.scons (B.ifs (B.tcmp op_eq (B.v 2) B.int) (B.scons (B.set 4 sc_law_bent_step.nd (B.op op_mod (B.op op_add (B.op op_add (B.ix ix_tup (B.v 1) B.int) B.int) (B.fn F_law_take (hr.mono (by first | decide | omega)) (B.cons (B.v 0) (B.cons B.int B.nil)))) B.int))
      (B.sone (B.ret (B.tup (B.cons B.str (B.cons (B.v 4) (B.cons (B.ix ix_tup (B.v 1) B.int) (B.cons (B.v 3) B.nil)))))))) B.snil)
      (B.scons (B.ifs (B.tcmp op_eq (B.v 2) B.int) (B.scons (B.set 5 sc_law_bent_step.nd (B.lst (B.cons B.int (B.cons (B.ix ix_tup (B.v 1) B.int) (B.cons (B.cB (call_max2 rfl) g.b_max SW.b_max (B.cons B.int (B.cons (B.op op_sub (B.ix ix_tup (B.v 1) B.int) B.int) B.nil))) (B.cons B.int (B.cons (B.fn F_law_take (hr.mono (by first | decide | omega)) (B.cons (B.v 0) (B.cons B.int B.nil))) B.nil)))))))
      (B.sone (B.ret (B.tup (B.cons B.str (B.cons (B.ix ix_tup (B.v 1) B.int) (B.cons (B.ix ix_list (B.v 5) (B.fn F_law_take (hr.mono (by first | decide | omega)) (B.cons (B.v 0) (B.cons B.int B.nil)))) (B.cons (B.v 3) B.nil)))))))) B.snil)
      (B.scons (B.ifs (B.tw (B.wor (B.tcmp op_eq (B.v 2) B.int) (B.wor1 (B.tcmp (op_eqTE (hu1_of hr)) (B.v 3) (B.tup B.nil))))) (B.scons (B.set 6 sc_law_bent_step.nd (B.op op_catA (B.tup (B.cons (B.tup (B.cons B.int (B.cons B.int B.nil))) B.nil)) (B.v 3)))
      (B.sone (B.ret (B.tup (B.cons B.str (B.cons (B.ix ix_tup (B.v 1) B.int) (B.cons (B.ix ix_tup (B.v 1) B.int) (B.cons (B.op op_catA (B.v 3) (B.tup (B.cons (B.ix ix_tup (B.v 6) (B.fn F_law_take (hr.mono (by first | decide | omega)) (B.cons (B.v 0) (B.cons (B.op op_add (B.cB call_len_seq g.b_len SW.b_len (B.cons (B.v 3) B.nil)) B.int) B.nil)))) B.nil))) B.nil)))))))) B.snil)
      (B.scons (B.set 7 sc_law_bent_step.nd (B.fn F_law_take (hr.mono (by first | decide | omega)) (B.cons (B.v 0) (B.cons (B.cB call_len_seq g.b_len SW.b_len (B.cons (B.v 3) B.nil)) B.nil))))
      (B.scons (B.ifs (B.tcmp op_eq (B.v 2) B.int) (B.sone (B.ret (B.tup (B.cons B.str (B.cons (B.ix ix_tup (B.v 1) B.int) (B.cons (B.ix ix_tup (B.v 1) B.int) (B.cons (B.op op_catA (B.slice sl_tup (B.v 3) B.nopart (B.part (B.v 7))) (B.slice sl_tup (B.v 3) (B.part (B.op op_add (B.v 7) B.int)) B.nopart)) B.nil))))))) B.snil)
      (B.scons (B.asg (B.ix ix_tup (B.v 3) (B.v 7)) (B.gtup (B.gcons (B.gname (i := 8) sc_law_bent_step.nd) (B.gcons (B.gname (i := 9) sc_law_bent_step.nd) B.gnil))))
      (B.scons (B.set 10 sc_law_bent_step.nd (B.tup (B.cons (B.v 8) (B.cons (B.op op_add (B.v 9) (B.ix ix_list (B.lst (B.cons B.int (B.cons (B.un un_neg B.int) B.nil))) (B.cT call_int1 g.b_int SW.b_int (B.cons (B.cmp op_gt (B.v 9) B.int) B.nil)))) B.nil))))
      (B.scons (B.ifs (B.tcmp op_eq (B.fn F_law_take (hr.mono (by first | decide | omega)) (B.cons (B.v 0) (B.cons B.int B.nil))) B.int) (B.sone (B.set 10 sc_law_bent_step.nd (B.tup (B.cons (B.op op_add (B.v 8) (B.ix ix_list (B.lst (B.cons B.int (B.cons (B.un un_neg B.int) B.nil))) (B.cT call_int1 g.b_int SW.b_int (B.cons (B.cmp op_gt (B.v 8) B.int) B.nil)))) (B.cons (B.v 9) B.nil))))) B.snil)
      (B.sone (B.ret (B.tup (B.cons B.str (B.cons (B.ix ix_tup (B.v 1) B.int) (B.cons (B.ix ix_tup (B.v 1) B.int) (B.cons (B.op op_catA (B.op op_catA (B.slice sl_tup (B.v 3) B.nopart (B.part (B.v 7))) (B.tup (B.cons (B.v 10) B.nil))) (B.slice sl_tup (B.v 3) (B.part (B.op op_add (B.v 7) B.int)) B.nopart)) B.nil))))))))))))))))), ?_⟩
    walk_at "W"
    refine wTakeP hp (by decide) (by decide) fun way H1 w0 w1 R1 K1 => ?_
    have hu1 := K1 _ _ (hp.neT hu) hu
    have hq1 := K1 _ _ (hp.neT hq) hq
    have hps1 := hps.keep (hp.tk K1)
    walk_at "W"
    refine ite2 (fun _ => ?_) (fun c0 => ?_)
    · walk_at "W"
      refine wTakeP R1 (by decide) (by decide) fun r2 H2 a2 b2 R2 K2 => ?_
      have hu2 := K2 _ _ (R1.neT hu1) hu1
      walk_at "W"
      exact ⟨four, fin H2 _ b q xs ps (K2 _ _ (R1.neT hq1) hq1) (hps1.keep (R1.tk K2)) ksm (Nat.le_succ_of_le hlm) R2 (K1.trans K2)⟩
    · walk_at "W"
      refine ite2 (fun _ => ?_) (fun c1 => ?_)
      · walk_at "W"
        refine ⟨_, _, rfl, ?_⟩
        walk_at "W"
        refine wTakeP R1 (by decide) (by decide) fun r2 H2 a2 b2 R2 K2 => ?_
        walk_at "W"
        refine ⟨by show (5 : Nat) ≤ sizeLine; decide, fun l hl => ?_⟩
        have hu2 := Same.new (o := .lst [V.int 0, .int c, .int (if 0 < c - 1 then c - 1 else 0), .int 65536, .int r2]) hl _ _ (K2 _ _ (R1.neT hu1) hu1)
        walk_at "W"
        refine wTakeP (R2.new hl) (by decide) (by decide) fun r3 H3 a3 b3 R3 K3 => ?_
        have e3 := K3 l _ (R2.ne0 hl).symm upd_same
        first | (have zz_ := atI_in (xs := [V.int 0, .int c, .int (if 0 < c - 1 then c - 1 else 0), .int 65536, .int r2]) a3 b3; have v := zz_.1; have hv := zz_.2.1; have hm := zz_.2.2; clear zz_) | obtain ⟨v, hv, hm⟩ := atI_in (xs := [V.int 0, .int c, .int (if 0 < c - 1 then c - 1 else 0), .int 65536, .int r2]) a3 b3
        refine wIxL e3 hv ?_
        obtain ⟨z, rfl⟩ : ∃ z, v = V.int z := by
          simp only [List.mem_cons, List.not_mem_nil, or_false] at hm
          rcases hm with rfl | rfl | rfl | rfl | rfl <;> exact ⟨_, rfl⟩
        have K03 := (K1.trans K2).trans ((KeepBut.new hl).trans K3)
        walk_at "W"
        exact ⟨four, fin H3 c z q xs ps (K03 _ _ (hp.neT hq) hq) (hps.keep (hp.tk K03)) ksm (Nat.le_succ_of_le hlm) R3 K03⟩
      · walk_at "W"
        refine or_both (fun Hx sx => ?_) (fun hb c2 => ?_)
        · have hux := sx _ _ hu1
          have hqx := sx _ _ hq1
          have hpsx := hps1.keep fun a xs e => sx _ _ e
          have Rx := R1.same sx
          have Kx := K1.trans (SW.Same.but sx)
          walk_at "W"
          refine ⟨by show (2 : Nat) ≤ sizeLine; decide, fun t1 h1 => ?_⟩
          walk_at "W"
          refine ⟨by show (1 : Nat) ≤ sizeLine; decide, fun t2 h2 => ?_⟩
          have s1 := Same.new (o := .tup [.int 5, .int 0]) h1
          have s2 := Same.new (o := .tup [.ref t1]) h2
          have s12 := s1.trans s2
          walk_at "W"
          refine ⟨t2, q, _, _, rfl, rfl, upd_same, s12 _ _ hqx, by rw [hxl]; show 1 + _ ≤ sizeLine; have : sizeLine = 16777216 := sizeLine_eq; omega, fun mo H3 s3 hmo => ?_⟩
          have sx3 := s12.trans s3
          have hu3 := sx3 _ _ hux
          have hq3 := sx3 _ _ hqx
          have hps3 := hpsx.keep fun a xs e => sx3 _ _ e
          have R3 := Rx.same sx3
          have K3 := Kx.trans (SW.Same.but sx3)
          have ht1 := s3 _ _ (s2 _ _ upd_same)
          walk_at "W"
          refine SW.iLen (.inr (SqT.of hq3)) ?_
          walk_at "W"
          refine wTakeP R3 (by omega) (by rw [hxl]; omega) fun r4 H4 a4 b4 R4 K4 => ?_
          have tk4 := R3.tk K4
          have K04 := K3.trans K4
          first | (have zz_ := atI_in (xs := [V.ref t1] ++ xs) a4 (by rw [List.length_append]; show r4 < ((1 + xs.length : Nat) : Int); omega); have v := zz_.1; have hv := zz_.2.1; have hm_ := zz_.2.2; clear zz_) | obtain ⟨v, hv, hm_⟩ := atI_in (xs := [V.ref t1] ++ xs) a4 (by rw [List.length_append]; show r4 < ((1 + xs.length : Nat) : Int); omega)
          obtain ⟨pr, hpr, hkpr⟩ : ∃ pr, PrV H4 v pr ∧ KS (n + 1) pr.1 := by
            rcases List.mem_append.mp hm_ with z | z
            · rw [List.mem_singleton] at z
              subst z
              exact ⟨(5, 0), ⟨t1, rfl, tk4 _ _ ht1⟩, .inl (by decide)⟩
            · first | (have zz_ := List.mem_iff_getElem?.mp z; have j := zz_.1; have hj := zz_.2; clear zz_) | obtain ⟨j, hj⟩ := List.mem_iff_getElem?.mp z
              first | (have zz_ := paired_get hps3 hj; have pr := zz_.1; have e1 := zz_.2.1; have e2 := zz_.2.2; clear zz_) | obtain ⟨pr, e1, e2⟩ := paired_get hps3 hj
              exact ⟨pr, e2.keep tk4, ksm pr (List.mem_of_getElem? e1)⟩
          refine wIxT (tk4 _ _ hmo) hv ?_
          walk_at "W"
          refine ⟨by show (1 : Nat) ≤ sizeLine; decide, fun t5 h5 => ?_⟩
          have s5 := Same.new (o := .tup [v]) h5
          walk_at "W"
          refine ⟨q, t5, _, _, rfl, rfl, s5 _ _ (tk4 _ _ hq3), upd_same, by rw [hxl]; show _ + 1 ≤ sizeLine; have : sizeLine = 16777216 := sizeLine_eq; omega, fun q6 H6 s6 hq6 => ?_⟩
          have s56 := s5.trans s6
          walk_at "W"
          refine ⟨four, fin H6 c b q6 _ (ps ++ [pr]) hq6 (paired_append (.cons (hpr.keep fun a xs e => s56 _ _ e) .nil) ((hps3.keep tk4).keep fun a xs e => s56 _ _ e)) (fun q hq => ?_) (by rw [List.length_append]; exact Nat.succ_le_succ hlm) (R4.same s56) (K04.trans (SW.Same.but s56))⟩
          rcases List.mem_append.mp hq with z | z
          · exact ksm q z
          · rw [List.mem_singleton] at z
            rw [z]; exact hkpr
        · walk_at "W"
          refine ⟨by show (0 : Nat) ≤ sizeLine; decide, fun e he => ?_⟩
          have s2 := Same.new (o := .tup []) he
          walk_at "W"
          refine ⟨q, e, xs, rfl, rfl, SqT.of (s2 _ _ hq1), SqT.of upd_same, ?_⟩
          walk_at "W"
          refine ite2 (fun _ => hb _ s2) (fun hne => ?_)
          have hne' : 0 < xs.length := by
            cases xs with
            | nil => exact absurd rfl hne
            | cons a b => exact Nat.zero_lt_succ _
          have hu2 := s2 _ _ hu1
          have hq2 := s2 _ _ hq1
          have R2 := R1.same s2
          walk_at "W"
          refine SW.iLen (.inr (SqT.of hq2)) ?_
          walk_at "W"
          refine wTakeP R2 (by omega) (by rw [hxl]; omega) fun at_ H3 a3 b3 R3 K3 => ?_
          have K03 := (K1.trans (SW.Same.but s2)).trans K3
          have tk3 := hp.tk K03
          have hu3 := tk3 _ _ hu
          have hq3 := tk3 _ _ hq
          have hps3 := hps.keep tk3
          have lim : sizeLine = 16777216 := sizeLine_eq
          walk_at "W"
          refine ite2 (fun _ => ?_) (fun _ => ?_)
          · walk_at "W"
            refine ⟨at_, rfl, q, xs, rfl, SqT.of hq3, whole_lo a3 b3, fun t1 h1 => ?_⟩
            rw [cut_lo a3 b3]
            have s4 := Same.new (o := .tup (xs.take at_.toNat)) h1
            walk_at "W"
            refine ⟨at_ + 1, rfl, ?_⟩
            walk_at "W"
            refine ⟨q, xs, rfl, SqT.of (s4 _ _ hq3), whole_hi a3 b3, fun t2 h2 => ?_⟩
            rw [cut_hi a3 b3]
            have s5 := Same.new (o := .tup (xs.drop (at_.toNat + 1))) h2
            walk_at "W"
            refine ⟨t1, t2, _, _, rfl, rfl, s5 _ _ upd_same, upd_same, by rw [List.length_take, List.length_drop]; omega, fun q6 H6 s6 hq6 => ?_⟩
            have s46 := (s4.trans s5).trans s6
            walk_at "W"
            refine ⟨four, fin H6 c b q6 _ (ps.take at_.toNat ++ ps.drop (at_.toNat + 1)) hq6 (Prs.keep (paired_append (paired_drop _ hps3) (paired_take _ hps3)) fun a xs e => s46 _ _ e) (fun q hq => ?_) (by rw [List.length_append, List.length_take, List.length_drop]; omega) (R3.same s46) (K03.trans (SW.Same.but s46))⟩
            rcases List.mem_append.mp hq with z | z
            · exact ksm q (List.mem_of_mem_take z)
            · exact ksm q (List.mem_of_mem_drop z)
          · first | (have zz_ := atI_in (xs := xs) a3 b3; have v := zz_.1; have hv := zz_.2.1; have hm_ := zz_.2.2; clear zz_) | obtain ⟨v, hv, hm_⟩ := atI_in (xs := xs) a3 b3
            first | (have zz_ := List.mem_iff_getElem?.mp hm_; have j := zz_.1; have hj := zz_.2; clear zz_) | obtain ⟨j, hj⟩ := List.mem_iff_getElem?.mp hm_
            obtain ⟨⟨k1, y1⟩, e1, t0, rfl, ht0⟩ := paired_get hps3 hj
            have hk1 := hks _ (List.mem_of_getElem? e1)
            walk_at "W"
            refine wIxT hq3 hv ?_
            refine ⟨t0, _, rfl, SqT.of ht0, rfl, _, _, rfl, ?_⟩
            walk_at "W"
            refine ⟨_, _, rfl, ?_⟩
            walk_at "W"
            refine ⟨rfl, ?_⟩
            walk_at "W"
            refine ⟨by show (2 : Nat) ≤ sizeLine; decide, fun l1 hl1 => ?_⟩
            walk_at "W"
            refine wIxL upd_same (ix_pm _) ?_
            walk_at "W"
            refine ⟨by show (2 : Nat) ≤ sizeLine; decide, fun o1 ho1 => ?_⟩
            have s4 := (Same.new (o := .lst [V.int 1, V.int (-1)]) hl1).trans (Same.new (o := .tup [.int k1, .int (y1 + if decide (0 < y1) = true then -1 else 1)]) ho1)
            walk_at "W"
            rename_i N1 hN1
            have rest : ∀ H7 o7 (pr : Int × Int), H7 o7 = some (.tup [.int pr.1, .int pr.2]) → KS (n + 1) pr.1 → Pot H7 p → KeepBut p H H7 → N1 [some (.ref p), some (.ref u), some (.int way), some (.ref q), none, none, none, some (.int at_), some (.int k1), some (.int y1), some (.ref o7)] H7 := by
              intro H7 o7 pr ho7 hkp R7 K7
              have tk7 := hp.tk K7
              have hu7 := tk7 _ _ hu
              have hq7 := tk7 _ _ hq
              have hps7 := hps.keep tk7
              refine SW.wGo hN1 ?_
              walk_at "W"
              refine ⟨at_, rfl, q, xs, rfl, SqT.of hq7, whole_lo a3 b3, fun t1 h1 => ?_⟩
              rw [cut_lo a3 b3]
              have s8 := Same.new (o := .tup (xs.take at_.toNat)) h1
              walk_at "W"
              refine ⟨by show (1 : Nat) ≤ sizeLine; decide, fun t2 h2 => ?_⟩
              have s9 := Same.new (o := .tup [.ref o7]) h2
              walk_at "W"
              refine ⟨t1, t2, _, _, rfl, rfl, s9 _ _ upd_same, upd_same, by rw [List.length_take]; show _ + 1 ≤ sizeLine; omega, fun q8 H8 s10 hq8 => ?_⟩
              have s710 := (s8.trans s9).trans s10
              walk_at "W"
              refine ⟨at_ + 1, rfl, ?_⟩
              walk_at "W"
              refine ⟨q, xs, rfl, SqT.of (s710 _ _ hq7), whole_hi a3 b3, fun t3 h3 => ?_⟩
              rw [cut_hi a3 b3]
              have s11 := Same.new (o := .tup (xs.drop (at_.toNat + 1))) h3
              walk_at "W"
              refine ⟨q8, t3, _, _, rfl, rfl, s11 _ _ hq8, upd_same, by rw [List.length_append, List.length_take, List.length_drop]; show _ + 1 + _ ≤ sizeLine; omega, fun q9 H9 s12 hq9 => ?_⟩
              have s712 := (s710.trans s11).trans s12
              walk_at "W"
              refine ⟨four, fin H9 c b q9 _ (ps.take at_.toNat ++ [pr] ++ ps.drop (at_.toNat + 1)) hq9 (Prs.keep (paired_append (paired_drop _ hps7) (paired_append (.cons ⟨o7, rfl, ho7⟩ .nil) (paired_take _ hps7))) fun a xs e => s712 _ _ e) (fun q hq => ?_) (by rw [List.length_append, List.length_append, List.length_take, List.length_drop]; show _ + 1 + _ ≤ _; omega) (R7.same s712) (K7.trans (SW.Same.but s712))⟩
              rcases List.mem_append.mp hq with z | z
              · rcases List.mem_append.mp z with z | z
                · exact ksm q (List.mem_of_mem_take z)
                · rw [List.mem_singleton] at z
                  rw [z]; exact hkp
              · exact ksm q (List.mem_of_mem_drop z)
            clear hN1
            refine wTakeP (R3.same s4) (by decide) (by decide) fun r5 H5 a5 b5 R5 K5 => ?_
            have K05 := (K03.trans (SW.Same.but s4)).trans K5
            have ho5 := K5 _ _ ((R3.same s4).neT upd_same) (upd_same (o := .tup [.int k1, .int (y1 + if decide (0 < y1) = true then -1 else 1)]))
            walk_at "W"
            refine ite2 (fun _ => ?_) (fun _ => ?_)
            · walk_at "W"
              refine ⟨by show (2 : Nat) ≤ sizeLine; decide, fun l2 hl2 => ?_⟩
              walk_at "W"
              refine wIxL upd_same (ix_pm _) ?_
              walk_at "W"
              refine ⟨by show (2 : Nat) ≤ sizeLine; decide, fun o2 ho2 => ?_⟩
              have s6 := (Same.new (o := .lst [V.int 1, V.int (-1)]) hl2).trans (Same.new (o := .tup [.int (k1 + if decide (0 < k1) = true then -1 else 1), .int y1]) ho2)
              exact rest _ o2 (k1 + if decide (0 < k1) = true then -1 else 1, y1) upd_same (KS.near hk1 hn) (R5.same s6) (K05.trans (SW.Same.but s6))
            · exact rest H5 o1 (k1, y1 + if decide (0 < y1) = true then -1 else 1) ho5 (KS.more hk1) R5 K05
end

theorem free_of {p q : Addr} {H H' : Hp} (K : KeepBut p H H') (R : Pot H' p) (h : H' q = none) : H q = none := by
  cases e : H q with
  | none => rfl
  | some o => rw [K q o (R.ne0 h).symm e] at h; cases h
theorem free_l {p q : Addr} {H H' : Hp} (K : KeepBut p H H') (n : q ≠ p) (h : H' q = none) : H q = none := by
  cases e : H q with
  | none => rfl
  | some o => rw [K q o n e] at h; cases h
noncomputable def spBent : Sp := fun vs H Q _ => ∃ (p s : Addr) (xs : List V) (ths : List Thing) (n m : Nat), vs = [.ref p, .ref s] ∧ Pot H p ∧ s ≠ p ∧ H s = some (.lst xs) ∧ ThVs H xs ths ∧ ths.length ≤ 400 ∧ (∀ t ∈ ths, Drawn n m t) ∧ n ≤ 10 ∧ m ≤ 900 ∧
  ∀ s' xs' ths' H', H s' = none → H' s' = some (.lst xs') → ThVs H' xs' ths' → ths'.length ≤ ths.length + 1 → (∀ t ∈ ths', Drawn (n + 1) (m + 1) t) → Pot H' p → KeepBut p H H' → Q (.ref s') H'
theorem wBent {H : Hp} {Q : VK} {E : XK} {p s : Addr} {xs : List V} {ths : List Thing} {n m : Nat} (h1 : Pot H p) (h2 : s ≠ p) (h3 : H s = some (.lst xs)) (h4 : ThVs H xs ths) (h5 : ths.length ≤ 400) (h6 : ∀ t ∈ ths, Drawn n m t) (h7 : n ≤ 10) (h8 : m ≤ 900)
    (k : ∀ s' xs' ths' H', H s' = none → H' s' = some (.lst xs') → ThVs H' xs' ths' → ths'.length ≤ ths.length + 1 → (∀ t ∈ ths', Drawn (n + 1) (m + 1) t) → Pot H' p → KeepBut p H H' → Q (.ref s') H') : spBent ([.ref p, .ref s] ++ []) H Q E :=
  ⟨p, s, xs, ths, n, m, rfl, h1, h2, h3, h4, h5, h6, h7, h8, k⟩
theorem wBentStep {H : Hp} {Q : VK} {E : XK} {p u q : Addr} {c b : Int} {xs : List V} {ps : MRow} {n m : Nat} (h1 : Pot H p) (h2 : H u = some (.tup [.str "step", .int c, .int b, .ref q])) (h3 : H q = some (.tup xs)) (h4 : Prs H xs ps) (h5 : ∀ q ∈ ps, KS n q.1) (h6 : ps.length ≤ m) (h7 : n ≤ 10) (h8 : m ≤ 900)
    (k : ∀ v H' th, Drawn (n + 1) (m + 1) th → ThV H' v th → Pot H' p → KeepBut p H H' → Q v H') : spBentStep ([.ref p, .ref u] ++ []) H Q E :=
  ⟨p, u, q, c, b, xs, ps, n, m, rfl, h1, h2, h3, h4, h5, h6, h7, h8, k⟩
theorem mem_row {H : Hp} {xs : List V} {ths : List Thing} {v : V} (h : ThVs H xs ths) (hv : v ∈ xs) : ∃ th ∈ ths, ThV H v th := by
  first | (have zz_ := List.mem_iff_getElem?.mp hv; have j := zz_.1; have hj := zz_.2; clear zz_) | obtain ⟨j, hj⟩ := List.mem_iff_getElem?.mp hv
  first | (have zz_ := paired_get h hj; have th := zz_.1; have e1 := zz_.2.1; have e2 := zz_.2.2; clear zz_) | obtain ⟨th, e1, e2⟩ := paired_get h hj
  exact ⟨th, List.mem_of_getElem? e1, e2⟩
theorem cut1_lo {xs : List V} : cutV xs none (some 1) = xs.take 1 := by
  unfold cutV
  rw [HT.sIx_none, show (1 : Int) = ((1 : Nat) : Int) from rfl, HT.sIx_nat, List.drop_zero, Nat.sub_zero]
  cases xs with
  | nil => rfl
  | cons a b => rw [Nat.min_eq_left (by rw [List.length_cons]; omega)]
theorem cut1_hi {xs : List V} : cutV xs (some 1) none = xs.drop 1 := by
  unfold cutV
  rw [HT.sIx_none, show (1 : Int) = ((1 : Nat) : Int) from rfl, HT.sIx_nat]
  cases xs with
  | nil => rfl
  | cons a b => rw [Nat.min_eq_left (by rw [List.length_cons]; omega)]; exact List.take_of_length_le (by rw [List.length_drop]; exact Nat.le_refl _)
structure Lot (n m : Nat) (H : Hp) (xs : List V) (ths : List Thing) : Prop where
  p : ThVs H xs ths
  d : ∀ t ∈ ths, Drawn n m t
theorem Lot.app {n m : Nat} {H : Hp} {xs ys : List V} {ths uhs : List Thing} (a : Lot n m H xs ths) (b : Lot n m H ys uhs) : Lot n m H (xs ++ ys) (ths ++ uhs) :=
  ⟨paired_append b.p a.p, fun t ht => (List.mem_append.mp ht).elim (a.d t) (b.d t)⟩
theorem Lot.one {n m : Nat} {H : Hp} {v : V} {th : Thing} (h : ThV H v th) (d : Drawn n m th) : Lot n m H [v] [th] := ⟨.cons h .nil, fun t ht => by rw [List.mem_singleton] at ht; rw [ht]; exact d⟩
theorem Lot.nil {n m : Nat} {H : Hp} : Lot n m H [] [] := ⟨.nil, fun _ h => nomatch h⟩
theorem Lot.keep {n m : Nat} {H H' : Hp} {xs : List V} {ths : List Thing} (a : Lot n m H xs ths) (k : TK H H') : Lot n m H' xs ths := ⟨a.p.keep k, a.d⟩
theorem Lot.take {n m : Nat} {H : Hp} {xs : List V} {ths : List Thing} (a : Lot n m H xs ths) (i : Nat) : Lot n m H (xs.take i) (ths.take i) := ⟨paired_take i a.p, fun t ht => a.d t (List.mem_of_mem_take ht)⟩
theorem Lot.drop {n m : Nat} {H : Hp} {xs : List V} {ths : List Thing} (a : Lot n m H xs ths) (i : Nat) : Lot n m H (xs.drop i) (ths.drop i) := ⟨paired_drop i a.p, fun t ht => a.d t (List.mem_of_mem_drop ht)⟩
theorem Lot.more {n m : Nat} {H : Hp} {xs : List V} {ths : List Thing} (a : Lot n m H xs ths) : Lot (n + 1) (m + 1) H xs ths := ⟨a.p, fun t ht => (a.d t ht).more⟩
section
variable {P : Program} {w : World} {K : PySem.W.Frag} {mg : Str → Option Value} {base : Heap} {C : Addr}
theorem F_bent (d : Dfn K mg "_law_bent" s_law_bent ["pot", "story"]) (g : Gs K mg C) (F_law_take : Fn P w K mg base "_law_take" 2 ["pot", "many"] spTakeP) (F_law_worth : Fn P w K mg base "_law_worth" 3 ["pot"] spWorthP) (F_law_bent_step : Fn P w K mg base "_law_bent_step" 3 ["pot", "row"] spBentStep) : Fn P w K mg base "_law_bent" 4 ["pot", "story"] spBent := by
  refine d.fn sc_law_bent (fun vs H Q E h => ?_) (fun f cdv A outer st H vs Q E hr h => ?_)
  · obtain ⟨p, s, xs, ths, n, m, rfl, _⟩ := h
    rfl
  · obtain ⟨p, s, xs, ths, n, m, rfl, hp, nsp, hs, ht, hl, hd, hn, hm, k⟩ := h
    have hxl := paired_len ht
    have lim : sizeLine = 16777216 := sizeLine_eq
    have one_ : (1 : Nat) ≤ sizeLine := by decide
    have L0_ : Lot (n + 1) (m + 1) H xs ths := ⟨ht, fun t h => (hd t h).more⟩
    have fin : ∀ H5 l5 ys ths5, H5 l5 = some (.lst ys) → Lot (n + 1) (m + 1) H5 ys ths5 → ths5.length ≤ ths.length + 1 → H l5 = none → Pot H5 p → KeepBut p H H5 → Q (.ref l5) H5 :=
      fun H5 l5 ys ths5 h5 L5 e5 n5 R5 K5 => k l5 ys ths5 H5 n5 h5 L5.p e5 L5.d R5 K5
    refine ⟨_, (B.scons (B.ifs (B.tcmp (op_eqLE (hu1_of hr)) (B.v 1) (B.lst B.nil)) (B.sone (B.ret (B.ix ix_list (B.lst (B.cons (B.lst (B.cons (B.tup (B.cons B.str (B.cons B.int (B.cons B.int B.nil)))) B.nil)) (B.cons (B.lst (B.cons (B.tup (B.cons B.str (B.cons B.int (B.cons B.int (B.cons (B.tup B.nil) B.nil))))) B.nil)) (B.cons (B.lst (B.cons (B.tup (B.cons B.str (B.cons B.int (B.cons B.int (B.cons (B.tup (B.cons (B.tup (B.cons B.int (B.cons B.int B.nil))) B.nil)) B.nil))))) B.nil)) B.nil)))) (B.fn F_law_take (hr.mono (by first | decide | omega)) (B.cons (B.v 0) (B.cons B.int B.nil)))))) B.snil)
      (B.scons (B.set 2 sc_law_bent.nd (B.fn F_law_take (hr.mono (by first | decide | omega)) (B.cons (B.v 0) (B.cons (B.cB call_len_seq g.b_len SW.b_len (B.cons (B.v 1) B.nil)) B.nil))))
      (B.scons (B.set 3 sc_law_bent.nd (B.slice sl_list (B.v 1) B.nopart (B.part (B.v 2))))
      (B.scons (B.set 4 sc_law_bent.nd (B.ix ix_list (B.v 1) (B.v 2)))
      (B.scons (B.set 5 sc_law_bent.nd (B.slice sl_list (B.v 1) (B.part (B.op op_add (B.v 2) B.int)) B.nopart))
      (B.scons (B.set 6 sc_law_bent.nd (B.fn F_law_take (hr.mono (by first | decide | omega)) (B.cons (B.v 0) (B.cons B.int B.nil))))
      (B.scons (B.ifs (B.tcmp op_lt (B.v 6) B.int) (B.sone (B.ret (B.op op_cat (B.op op_cat (B.v 3) (B.op op_rep (B.lst (B.cons (B.v 4) (B.cons (B.v 4) B.nil))) (B.v 6))) (B.v 5)))) B.snil)
      (B.scons (B.ifs (B.tcmp op_eq (B.v 6) B.int) (B.sone (B.ret (B.op op_cat (B.op op_cat (B.op op_cat (B.v 3) (B.slice sl_list (B.v 5) B.nopart (B.part B.int))) (B.lst (B.cons (B.v 4) B.nil))) (B.slice sl_list (B.v 5) (B.part B.int) B.nopart)))) B.snil)
      (B.scons (B.set 7 sc_law_bent.nd (B.lst (B.cons B.non (B.cons B.int (B.cons B.int (B.cons (B.fn F_law_worth (hr.mono (by first | decide | omega)) (B.cons (B.v 0) B.nil)) B.nil))))))
      (B.scons (B.ifs (B.tcmp op_eq (B.ix ix_tup (B.v 4) B.int) B.str) (B.sone (B.set 8 sc_law_bent.nd (B.fn F_law_bent_step (hr.mono (by first | decide | omega)) (B.cons (B.v 0) (B.cons (B.v 4) B.nil))))) (B.sone (B.ifs (B.tw (B.wand (B.tcmp op_eq (B.ix ix_tup (B.v 4) B.int) B.str) (B.wand1 (B.tcmp op_eq (B.v 6) B.int)))) (B.sone (B.set 8 sc_law_bent.nd (B.tup (B.cons B.str (B.cons (B.ix ix_tup (B.v 4) B.int) (B.cons (B.fn F_law_worth (hr.mono (by first | decide | omega)) (B.cons (B.v 0) B.nil)) (B.cons (B.ix ix_tup (B.v 4) B.int) B.nil))))))) (B.sone (B.set 8 sc_law_bent.nd (B.op op_catA (B.slice sl_tup (B.v 4) B.nopart (B.part (B.un un_neg B.int))) (B.tup (B.cons (B.ix ix_list (B.v 7) (B.fn F_law_take (hr.mono (by first | decide | omega)) (B.cons (B.v 0) (B.cons B.int B.nil)))) B.nil))))))))
      (B.sone (B.ret (B.op op_cat (B.op op_cat (B.v 3) (B.lst (B.cons (B.v 8) B.nil))) (B.v 5)))))))))))))), ?_⟩
    walk_at "W"
    refine ⟨by show (0 : Nat) ≤ sizeLine; decide, fun e0 he0 => ?_⟩
    have s0 : Same H (upd H e0 (.lst [])) := Same.new he0
    walk_at "W"
    refine ⟨s, e0, xs, rfl, rfl, SqL.of (s0 _ _ hs), SqL.of upd_same, ?_⟩
    walk_at "W"
    have R0 := hp.same s0
    have K0 : KeepBut p H (upd H e0 (.lst [])) := SW.Same.but s0
    have hs0 := s0 _ _ hs
    obtain ⟨H0, hH0⟩ : ∃ H0, H0 = upd H e0 (.lst []) := ⟨_, rfl⟩
    rw [← hH0] at R0 K0 hs0 ⊢
    clear hH0 s0
    refine ite2 (fun _ => ?_) (fun hne => ?_)
    · walk_at "W"
      refine ⟨by show (3 : Nat) ≤ sizeLine; decide, fun t1 h1 => ?_⟩
      walk_at "W"
      refine ⟨one_, fun l1 h2 => ?_⟩
      walk_at "W"
      refine ⟨by show (0 : Nat) ≤ sizeLine; decide, fun q1 h3 => ?_⟩
      walk_at "W"
      refine ⟨by show (4 : Nat) ≤ sizeLine; decide, fun t2 h4 => ?_⟩
      walk_at "W"
      refine ⟨one_, fun l2 h5 => ?_⟩
      walk_at "W"
      refine ⟨by show (2 : Nat) ≤ sizeLine; decide, fun r1 h6 => ?_⟩
      walk_at "W"
      refine ⟨one_, fun q2 h7 => ?_⟩
      walk_at "W"
      refine ⟨by show (4 : Nat) ≤ sizeLine; decide, fun t3 h8 => ?_⟩
      walk_at "W"
      refine ⟨one_, fun l3 h9 => ?_⟩
      walk_at "W"
      refine ⟨by show (3 : Nat) ≤ sizeLine; decide, fun L h10 => ?_⟩
      have a1 := Same.new (o := .tup [.str "cut", .int 3, .int 0]) h1
      have a2 := Same.new (o := .lst [.ref t1]) h2
      have a3 := Same.new (o := .tup []) h3
      have a4 := Same.new (o := .tup [.str "step", .int 1, .int 0, .ref q1]) h4
      have a5 := Same.new (o := .lst [.ref t2]) h5
      have a6 := Same.new (o := .tup [.int 1, .int 1]) h6
      have a7 := Same.new (o := .tup [.ref r1]) h7
      have a8 := Same.new (o := .tup [.str "step", .int 0, .int 0, .ref q2]) h8
      have a9 := Same.new (o := .lst [.ref t3]) h9
      have a10 := Same.new (o := .lst [.ref l1, .ref l2, .ref l3]) h10
      have c9 := a9.trans a10
      have c8 := a8.trans c9
      have c7 := a7.trans c8
      have c6 := a6.trans c7
      have c5 := a5.trans c6
      have c4 := a4.trans c5
      have c3 := a3.trans c4
      have c2 := a2.trans c3
      have c1 := a1.trans c2
      have d8 := (a1.trans a2).trans ((a3.trans a4).trans ((a5.trans a6).trans (a7.trans a8)))
      have R1 := R0.same c1
      have K1 := K0.trans (SW.Same.but (p := p) c1)
      have et1 := c2 _ _ (upd_same (H := H0) (a := t1) (o := .tup [.str "cut", .int 3, .int 0]))
      have el1 := c3 _ _ (upd_same (o := .lst [.ref t1]) (a := l1))
      have eq1 := c4 _ _ (upd_same (o := .tup []) (a := q1))
      have et2 := c5 _ _ (upd_same (o := .tup [.str "step", .int 1, .int 0, .ref q1]) (a := t2))
      have el2 := c6 _ _ (upd_same (o := .lst [.ref t2]) (a := l2))
      have er1 := c7 _ _ (upd_same (o := .tup [.int 1, .int 1]) (a := r1))
      have eq2 := c8 _ _ (upd_same (o := .tup [.ref r1]) (a := q2))
      have et3 := c9 _ _ (upd_same (o := .tup [.str "step", .int 0, .int 0, .ref q2]) (a := t3))
      have el3 := a10 _ _ (upd_same (o := .lst [.ref t3]) (a := l3))
      have f1 : H l1 = none := free_of K0 R0 (a1.free h2)
      have f2 : H l2 = none := free_of K0 R0 ((a1.trans a2).free (a3.free (a4.free h5)))
      have f3 : H l3 = none := free_of K0 R0 (d8.free h9)
      have n1 : l1 ≠ p := ((R0.same a1).ne0 h2).symm
      have n2 : l2 ≠ p := ((R0.same ((a1.trans a2).trans (a3.trans a4))).ne0 h5).symm
      have n3 : l3 ≠ p := ((R0.same d8).ne0 h9).symm
      have nL : L ≠ p := ((R0.same (d8.trans a9)).ne0 h10).symm
      have eL := upd_same (o := .lst [.ref l1, .ref l2, .ref l3]) (a := L) (H := upd (upd (upd (upd (upd (upd (upd (upd (upd H0 t1 (.tup [.str "cut", .int 3, .int 0])) l1 (.lst [.ref t1])) q1 (.tup [])) t2 (.tup [.str "step", .int 1, .int 0, .ref q1])) l2 (.lst [.ref t2])) r1 (.tup [.int 1, .int 1])) q2 (.tup [.ref r1])) t3 (.tup [.str "step", .int 0, .int 0, .ref q2])) l3 (.lst [.ref t3]))
      clear a1 a2 a3 a4 a5 a6 a7 a8 a9 a10 c1 c2 c3 c4 c5 c6 c7 c8 c9 d8
      walk_at "W"
      refine wTakeP R1 (by decide) (by decide) fun r H2 x0 x1 R2 K2 => ?_
      have tk := R1.tk K2
      first | (have zz_ := atI_in (xs := [V.ref l1, .ref l2, .ref l3]) x0 x1; have v := zz_.1; have hv := zz_.2.1; have hm_ := zz_.2.2; clear zz_) | obtain ⟨v, hv, hm_⟩ := atI_in (xs := [V.ref l1, .ref l2, .ref l3]) x0 x1
      refine wIxL (K2 _ _ nL eL) hv ?_
      simp only [List.mem_cons, List.not_mem_nil, or_false] at hm_
      rcases hm_ with rfl | rfl | rfl
      · exact fin H2 l1 _ [.cut 3 (some 0)] (K2 _ _ n1 el1) (.one ⟨t1, rfl, tk _ _ et1⟩ ⟨.inl (by decide), trivial⟩) (Nat.le_add_left ..) f1 R2 (K1.trans K2)
      · exact fin H2 l2 _ [.step 1 0 []] (K2 _ _ n2 el2) (.one ⟨t2, q1, [], rfl, tk _ _ et2, tk _ _ eq1, .nil⟩ ⟨fun _ h => (nomatch h), Nat.zero_le _⟩) (Nat.le_add_left ..) f2 R2 (K1.trans K2)
      · exact fin H2 l3 _ [.step 0 0 [(1, 1)]] (K2 _ _ n3 el3) (.one ⟨t3, q2, [.ref r1], rfl, tk _ _ et3, tk _ _ eq2, .cons ⟨r1, rfl, tk _ _ er1⟩ .nil⟩ ⟨fun q hq => by rw [List.mem_singleton] at hq; rw [hq]; exact .inl (by decide), Nat.le_add_left ..⟩) (Nat.le_add_left ..) f3 R2 (K1.trans K2)
    · have hne' : 0 < xs.length := by
        cases xs with
        | nil => exact absurd rfl hne
        | cons a b => exact Nat.zero_lt_succ _
      walk_at "W"
      refine SW.iLen (.inl (SqL.of hs0)) ?_
      walk_at "W"
      refine wTakeP R0 (by omega) (by rw [hxl]; omega) fun at_ H1 a0 a1 R1 K1 => ?_
      have hs1 := K1 _ _ nsp hs0
      walk_at "W"
      refine ⟨at_, rfl, s, xs, rfl, SqL.of hs1, fun ah h1 => ?_⟩
      rw [cut_lo a0 a1]
      have s2 := Same.new (o := .lst (xs.take at_.toNat)) h1
      have hs2 := s2 _ _ hs1
      first | (have zz_ := atI_in (xs := xs) a0 a1; have v := zz_.1; have hv := zz_.2.1; have hvm := zz_.2.2; clear zz_) | obtain ⟨v, hv, hvm⟩ := atI_in (xs := xs) a0 a1
      walk_at "W"
      refine wIxL hs2 hv ?_
      walk_at "W"
      refine ⟨at_ + 1, rfl, ?_⟩
      walk_at "W"
      refine ⟨s, xs, rfl, SqL.of hs2, fun re h2 => ?_⟩
      rw [cut_hi a0 a1]
      have s3 := Same.new (o := .lst (xs.drop (at_.toNat + 1))) h2
      have s13 := s2.trans s3
      have nap : ah ≠ p := (R1.ne0 h1).symm
      have nrp : re ≠ p := ((R1.same s2).ne0 h2).symm
      have ea := s3 _ _ (upd_same (H := H1) (a := ah) (o := .lst (xs.take at_.toNat)))
      have er := upd_same (H := upd H1 ah (.lst (xs.take at_.toNat))) (a := re) (o := .lst (xs.drop (at_.toNat + 1)))
      have R3 := R1.same s13
      have K3 := (K0.trans K1).trans (SW.Same.but (p := p) s13)
      walk_at "W"
      refine wTakeP R3 (by decide) (by decide) fun way H4 w0 w1 R4 K4 => ?_
      have K04 := K3.trans K4
      have ea4 := K4 _ _ nap ea
      have er4 := K4 _ _ nrp er
      have L4 := L0_.keep (hp.tk K04)
      first | (have zz_ := mem_row L4.p hvm; have th := zz_.1; have hth := zz_.2.1; have hvt := zz_.2.2; clear zz_) | obtain ⟨th, hth, hvt⟩ := mem_row L4.p hvm
      have hdt := hd th hth
      obtain ⟨la, hla⟩ : ∃ la, la = at_.toNat := ⟨_, rfl⟩
      rw [← hla] at ea4 er4
      have hla' : la < ths.length := by omega
      clear ea er R3 K3 K4 s13 s3 s2 R1 K1 hs1 hs2 hs0
      -- three lists in a row
      have len_a : (xs.take la).length = la := by rw [List.length_take]; omega
      have len_r : (xs.drop (la + 1)).length = xs.length - (la + 1) := List.length_drop ..
      walk_at "W"
      refine ite2 (fun c => ?_) (fun c2 => ?_)
      · have c' : way < 2 := of_decide_eq_true c
        walk_at "W"
        refine ⟨by show (2 : Nat) ≤ sizeLine; decide, fun x1 hx1 => ?_⟩
        walk_at "W"
        refine ⟨x1, way, [v, v], rfl, rfl, upd_same, by omega, by omega, by show 2 * way.toNat ≤ sizeLine; omega, fun x2 hx2 => ?_⟩
        obtain ⟨rp, hrp⟩ : ∃ rp, rp = (List.replicate way.toNat [v, v]).flatten := ⟨_, rfl⟩
        rw [← hrp]
        have b1 := Same.new (o := .lst [v, v]) hx1
        have b2 := Same.new (o := .lst rp) hx2
        have b12 := b1.trans b2
        obtain ⟨rt, hrt, hrl⟩ : ∃ rt, Lot (n + 1) (m + 1) H4 rp rt ∧ rt.length ≤ 2 := by
          have : way.toNat = 0 ∨ way.toNat = 1 := by omega
          rcases this with z | z
          · rw [hrp, z]; exact ⟨[], .nil, Nat.zero_le _⟩
          · rw [hrp, z]; exact ⟨[th, th], (Lot.one hvt hdt.more).app (.one hvt hdt.more), Nat.le_refl _⟩
        have hrpl := paired_len hrt.p
        walk_at "W"
        refine ⟨ah, x2, _, _, rfl, rfl, b12 _ _ ea4, upd_same, by rw [len_a, hrpl]; omega, fun x3 hx3 => ?_⟩
        have b3 := Same.new (o := .lst (xs.take la ++ rp)) hx3
        have b13 := b12.trans b3
        walk_at "W"
        refine ⟨x3, re, _, _, rfl, rfl, upd_same, b13 _ _ er4, by rw [List.length_append, len_a, hrpl, len_r]; omega, fun x4 hx4 => ?_⟩
        have b14 := b13.trans (Same.new (o := .lst (xs.take la ++ rp ++ xs.drop (la + 1))) hx4)
        exact fin _ x4 _ (ths.take la ++ rt ++ ths.drop (la + 1)) upd_same ((((L4.take la).app hrt).app (L4.drop (la + 1))).keep fun a xs e => b14 _ _ e) (by rw [List.length_append, List.length_append, List.length_take, List.length_drop]; omega) (free_of K04 R4 (b13.free hx4)) (R4.same b14) (K04.trans (SW.Same.but b14))
      · walk_at "W"
        refine ite2 (fun c => ?_) (fun c3 => ?_)
        · walk_at "W"
          refine ⟨1, rfl, re, _, rfl, SqL.of er4, fun x1 hx1 => ?_⟩
          rw [cut1_lo]
          have b1 := Same.new (o := .lst ((xs.drop (la + 1)).take 1)) hx1
          walk_at "W"
          refine ⟨ah, x1, _, _, rfl, rfl, b1 _ _ ea4, upd_same, by rw [len_a, List.length_take]; omega, fun x2 hx2 => ?_⟩
          have b2 := b1.trans (Same.new (o := .lst (xs.take la ++ (xs.drop (la + 1)).take 1)) hx2)
          walk_at "W"
          refine ⟨one_, fun x3 hx3 => ?_⟩
          have a3_ := Same.new (o := .lst [v]) hx3
          have b3 := b2.trans a3_
          walk_at "W"
          refine ⟨x2, x3, _, _, rfl, rfl, a3_ _ _ upd_same, upd_same, by rw [List.length_append, len_a, List.length_take, len_r]; show _ + 1 ≤ _; omega, fun x4 hx4 => ?_⟩
          have a4_ := Same.new (o := .lst (xs.take la ++ (xs.drop (la + 1)).take 1 ++ [v])) hx4
          have b4 := b3.trans a4_
          walk_at "W"
          refine ⟨1, rfl, ?_⟩
          walk_at "W"
          refine ⟨re, _, rfl, SqL.of (b4 _ _ er4), fun x5 hx5 => ?_⟩
          rw [cut1_hi]
          have a5_ := Same.new (o := .lst ((xs.drop (la + 1)).drop 1)) hx5
          have b5 := b4.trans a5_
          walk_at "W"
          refine ⟨x4, x5, _, _, rfl, rfl, a5_ _ _ upd_same, upd_same, by rw [List.length_append, List.length_append, len_a, List.length_take, len_r, List.length_drop, len_r]; show _ + 1 + _ ≤ _; omega, fun x6 hx6 => ?_⟩
          have b6 := b5.trans (Same.new (o := .lst (xs.take la ++ (xs.drop (la + 1)).take 1 ++ [v] ++ (xs.drop (la + 1)).drop 1)) hx6)
          exact fin _ x6 _ (ths.take la ++ (ths.drop (la + 1)).take 1 ++ [th] ++ (ths.drop (la + 1)).drop 1) upd_same (((((L4.take la).app ((L4.drop (la + 1)).take 1)).app (.one hvt hdt.more)).app ((L4.drop (la + 1)).drop 1)).keep fun a xs e => b6 _ _ e)
            (by rw [List.length_append, List.length_append, List.length_append, List.length_take, List.length_take, List.length_drop, List.length_drop, List.length_drop]; show _ + 1 + _ ≤ _; omega) (free_of K04 R4 (b5.free hx6)) (R4.same b6) (K04.trans (SW.Same.but b6))
        · have c2' : ¬ way < 2 := fun z => c2 (decide_eq_true z)
          walk_at "W"
          refine wWorthP R4 fun z H5 R5 K5 => ?_
          walk_at "W"
          refine ⟨by show (4 : Nat) ≤ sizeLine; decide, fun ot hot => ?_⟩
          have K06 := K04.trans (K5.trans (KeepBut.new (o := .lst [.non, .int 0, .int 1, .int z]) hot))
          have R6 := R5.new (o := .lst [.non, .int 0, .int 1, .int z]) hot
          have nop : ot ≠ p := (R5.ne0 hot).symm
          have eo := upd_same (H := H5) (a := ot) (o := .lst [.non, .int 0, .int 1, .int z])
          have K46 := K5.trans (KeepBut.new (p := p) (o := .lst [.non, .int 0, .int 1, .int z]) hot)
          obtain ⟨H6, hH6⟩ : ∃ H6, H6 = upd H5 ot (.lst [.non, .int 0, .int 1, .int z]) := ⟨_, rfl⟩
          rw [← hH6] at K06 K46 R6 eo ⊢
          clear hH6
          have tk46 := R4.tk K46
          have ea6 := K46 _ _ nap ea4
          have er6 := K46 _ _ nrp er4
          have hv6 := hvt.keep tk46
          walk_at "W"
          rename_i N1 hN1
          have rest : ∀ H7 v7 th7, ThV H7 v7 th7 → Drawn (n + 1) (m + 1) th7 → Pot H7 p → KeepBut p H6 H7 → N1 [some (.ref p), some (.ref s), some (.int at_), some (.ref ah), some v, some (.ref re), some (.int way), some (.ref ot), some v7] H7 := by
            intro H7 v7 th7 hv7 hd7 R7 K7
            have K07 := K06.trans K7
            have ea7 := K7 _ _ nap ea6
            have er7 := K7 _ _ nrp er6
            have L7 := L0_.keep (hp.tk K07)
            refine SW.wGo hN1 ?_
            walk_at "W"
            refine ⟨one_, fun x1 hx1 => ?_⟩
            have b1 := Same.new (o := .lst [v7]) hx1
            walk_at "W"
            refine ⟨ah, x1, _, _, rfl, rfl, b1 _ _ ea7, upd_same, by rw [len_a]; show _ + 1 ≤ _; omega, fun x2 hx2 => ?_⟩
            have a2_ := Same.new (o := .lst (xs.take la ++ [v7])) hx2
            have b2 := b1.trans a2_
            walk_at "W"
            refine ⟨x2, re, _, _, rfl, rfl, upd_same, b2 _ _ er7, by rw [List.length_append, len_a, len_r]; show _ + 1 + _ ≤ _; omega, fun x3 hx3 => ?_⟩
            have b3 := b2.trans (Same.new (o := .lst (xs.take la ++ [v7] ++ xs.drop (la + 1))) hx3)
            exact fin _ x3 _ (ths.take la ++ [th7] ++ ths.drop (la + 1)) upd_same ((((L7.take la).app (.one hv7 hd7)).app (L7.drop (la + 1))).keep fun a xs e => b3 _ _ e)
              (by rw [List.length_append, List.length_append, List.length_take, List.length_drop]; show _ + 1 + _ ≤ _; omega) (free_of K07 R7 (b2.free hx3)) (R7.same b3) (K07.trans (SW.Same.but b3))
          clear hN1
          -- the last told, otherwise
          have told : ∀ H7 r, 0 ≤ r → r < 4 → KeepBut p H6 H7 → ∃ (o : Option Int), atI [V.non, .int 0, .int 1, .int z] r = some (oV o) := by
            intro H7 r r0 r1 _
            first | (have zz_ := atI_in (xs := [V.non, .int 0, .int 1, .int z]) r0 r1; have y := zz_.1; have hy := zz_.2.1; have hm_ := zz_.2.2; clear zz_) | obtain ⟨y, hy, hm_⟩ := atI_in (xs := [V.non, .int 0, .int 1, .int z]) r0 r1
            simp only [List.mem_cons, List.not_mem_nil, or_false] at hm_
            rcases hm_ with rfl | rfl | rfl | rfl
            · exact ⟨none, hy⟩
            · exact ⟨some 0, hy⟩
            · exact ⟨some 1, hy⟩
            · exact ⟨some z, hy⟩
          cases th with
          | step c b ps =>
            obtain ⟨u, q, ys, rfl, hu, hq, hps⟩ := hv6
            walk_at "W"
            refine ⟨rfl, ?_⟩
            walk_at "W"
            refine iteY rfl ?_
            walk_at "W"
            refine wBentStep R6 hu hq hps hdt.1 hdt.2 hn hm fun v7 H7 th7 d7 hv7 R7 K7 => ?_
            exact rest H7 v7 th7 hv7 d7 R7 K7
          | put kk y t =>
            obtain ⟨u, rfl, hu⟩ := hv6
            walk_at "W"
            refine ⟨rfl, ?_⟩
            walk_at "W"
            refine iteNo (fun z => by injection z with z; exact absurd z (by decide +kernel)) ?_
            walk_at "W"
            refine ⟨rfl, ?_⟩
            walk_at "W"
            refine iteY rfl ?_
            walk_at "W"
            refine ite2 (fun _ => ?_) (fun _ => ?_)
            · walk_at "W"
              refine wWorthP R6 fun z7 H7 R7 K7 => ?_
              have hu7 := K7 _ _ (R6.neT hu) hu
              walk_at "W"
              refine ⟨by show (4 : Nat) ≤ sizeLine; decide, fun t7 ht7 => ?_⟩
              exact rest _ _ (.put kk z7 t) ⟨t7, rfl, upd_same⟩ ⟨KS.more hdt.1, trivial⟩ (R7.new ht7) (K7.trans (KeepBut.new ht7))
            · walk_at "W"
              refine ⟨-1, rfl, u, _, rfl, SqT.of hu, by show ¬ (HT.sIx 4 0 none = 0 ∧ HT.sIx 4 4 (some (-1)) = 4); decide, fun t1 h1 => ?_⟩
              have b1 := Same.new (o := .tup [.str "put", .int kk, .int y]) h1
              walk_at "W"
              refine wTakeP (R6.same b1) (by decide) (by decide) fun r H7 r0 r1 R7 K7 => ?_
              have K67 := (SW.Same.but (p := p) b1).trans K7
              first | (have zz_ := told H7 r r0 r1 K67; have o := zz_.1; have ho := zz_.2; clear zz_) | obtain ⟨o, ho⟩ := told H7 r r0 r1 K67
              have et1 := K7 t1 _ ((R6.ne0 h1).symm) (upd_same (o := .tup [.str "put", .int kk, .int y]))
              walk_at "W"
              refine wIxL (K67 _ _ nop eo) ho ?_
              walk_at "W"
              refine ⟨one_, fun t2 h2 => ?_⟩
              have b2 := Same.new (o := .tup [oV o]) h2
              walk_at "W"
              refine ⟨t1, t2, _, _, rfl, rfl, b2 _ _ et1, upd_same, by show 3 + 1 ≤ sizeLine; decide, fun q7 H8 s8 hq8 => ?_⟩
              have b28 := b2.trans s8
              exact rest _ _ (.put kk y o) ⟨q7, rfl, hq8⟩ ⟨KS.more hdt.1, trivial⟩ (R7.same b28) (K67.trans (SW.Same.but b28))
          | look kk t =>
            obtain ⟨u, rfl, hu⟩ := hv6
            walk_at "W"
            refine ⟨rfl, ?_⟩
            walk_at "W"
            refine iteNo (fun z => by injection z with z; exact absurd z (by decide +kernel)) ?_
            walk_at "W"
            refine ⟨rfl, ?_⟩
            walk_at "W"
            refine iteNo (fun z => by injection z with z; exact absurd z (by decide +kernel)) ?_
            refine iteF ?_
            walk_at "W"
            refine ⟨-1, rfl, u, _, rfl, SqT.of hu, by show ¬ (HT.sIx 3 0 none = 0 ∧ HT.sIx 3 3 (some (-1)) = 3); decide, fun t1 h1 => ?_⟩
            have b1 := Same.new (o := .tup [.str "look", .int kk]) h1
            walk_at "W"
            refine wTakeP (R6.same b1) (by decide) (by decide) fun r H7 r0 r1 R7 K7 => ?_
            have K67 := (SW.Same.but (p := p) b1).trans K7
            first | (have zz_ := told H7 r r0 r1 K67; have o := zz_.1; have ho := zz_.2; clear zz_) | obtain ⟨o, ho⟩ := told H7 r r0 r1 K67
            have et1 := K7 t1 _ ((R6.ne0 h1).symm) (upd_same (o := .tup [.str "look", .int kk]))
            walk_at "W"
            refine wIxL (K67 _ _ nop eo) ho ?_
            walk_at "W"
            refine ⟨one_, fun t2 h2 => ?_⟩
            have b2 := Same.new (o := .tup [oV o]) h2
            walk_at "W"
            refine ⟨t1, t2, _, _, rfl, rfl, b2 _ _ et1, upd_same, by show 2 + 1 ≤ sizeLine; decide, fun q7 H8 s8 hq8 => ?_⟩
            have b28 := b2.trans s8
            exact rest _ _ (.look kk o) ⟨q7, rfl, hq8⟩ ⟨KS.more hdt.1, trivial⟩ (R7.same b28) (K67.trans (SW.Same.but b28))
          | cut kk t =>
            obtain ⟨u, rfl, hu⟩ := hv6
            walk_at "W"
            refine ⟨rfl, ?_⟩
            walk_at "W"
            refine iteNo (fun z => by injection z with z; exact absurd z (by decide +kernel)) ?_
            walk_at "W"
            refine ⟨rfl, ?_⟩
            walk_at "W"
            refine iteNo (fun z => by injection z with z; exact absurd z (by decide +kernel)) ?_
            refine iteF ?_
            walk_at "W"
            refine ⟨-1, rfl, u, _, rfl, SqT.of hu, by show ¬ (HT.sIx 3 0 none = 0 ∧ HT.sIx 3 3 (some (-1)) = 3); decide, fun t1 h1 => ?_⟩
            have b1 := Same.new (o := .tup [.str "cut", .int kk]) h1
            walk_at "W"
            refine wTakeP (R6.same b1) (by decide) (by decide) fun r H7 r0 r1 R7 K7 => ?_
            have K67 := (SW.Same.but (p := p) b1).trans K7
            first | (have zz_ := told H7 r r0 r1 K67; have o := zz_.1; have ho := zz_.2; clear zz_) | obtain ⟨o, ho⟩ := told H7 r r0 r1 K67
            have et1 := K7 t1 _ ((R6.ne0 h1).symm) (upd_same (o := .tup [.str "cut", .int kk]))
            walk_at "W"
            refine wIxL (K67 _ _ nop eo) ho ?_
            walk_at "W"
            refine ⟨one_, fun t2 h2 => ?_⟩
            have b2 := Same.new (o := .tup [oV o]) h2
            walk_at "W"
            refine ⟨t1, t2, _, _, rfl, rfl, b2 _ _ et1, upd_same, by show 2 + 1 ≤ sizeLine; decide, fun q7 H8 s8 hq8 => ?_⟩
            have b28 := b2.trans s8
            exact rest _ _ (.cut kk o) ⟨q7, rfl, hq8⟩ ⟨KS.more hdt.1, trivial⟩ (R7.same b28) (K67.trans (SW.Same.but b28))
end

noncomputable def spHeld : Sp := fun vs H Q _ => ∃ (s : Addr) (xs : List V) (ths : List Thing), vs = [.ref s] ∧ H s = some (.lst xs) ∧ ThVs H xs ths ∧ ths.length ≤ 500 ∧ ∀ a H', H a = none → Same H H' → H' a = some (.dK (kvs (heldR ths))) → Q (.ref a) H'
theorem wHeld {H : Hp} {Q : VK} {E : XK} {s : Addr} {xs : List V} {ths : List Thing} (h1 : H s = some (.lst xs)) (h2 : ThVs H xs ths) (h3 : ths.length ≤ 500) (k : ∀ a H', H a = none → Same H H' → H' a = some (.dK (kvs (heldR ths))) → Q (.ref a) H') : spHeld ([.ref s] ++ []) H Q E := ⟨s, xs, ths, rfl, h1, h2, h3, k⟩
section
variable {P : Program} {w : World} {K : PySem.W.Frag} {mg : Str → Option Value} {base : Heap} {C : Addr}
theorem F_held (d : Dfn K mg "_law_held" s_law_held ["rows"]) (g : Gs K mg C) : Fn P w K mg base "_law_held" 1 ["rows"] spHeld := by
  refine d.fn sc_law_held (fun vs H Q E h => ?_) (fun f cdv A outer st H vs Q E hr h => ?_)
  · obtain ⟨s, xs, ths, rfl, _⟩ := h
    rfl
  · obtain ⟨s, xs, ths, rfl, hs, ht, hl, k⟩ := h
    have hxl := paired_len ht
    refine ⟨_, (B.scons (B.set 1 sc_law_held.nd B.dnew)
      (B.scons (B.fors (B.ilist (B.v 0)) (B.gname (i := 2) sc_law_held.nd) (B.scons (B.ifs (B.tcmp op_eq (B.ix ix_tup (B.v 2) B.int) B.str) (B.sone (B.dput (hu_of hr) (B.v 1) (B.ix ix_tup (B.v 2) B.int) (B.ix ix_tup (B.v 2) B.int))) B.snil)
      (B.sone (B.ifs (B.tw (B.wand (B.tcmp op_eq (B.ix ix_tup (B.v 2) B.int) B.str) (B.wand1 (B.tdin (hu_of hr) (B.ix ix_tup (B.v 2) B.int) (B.v 1))))) (B.sone (B.expr (B.dpop1 (B.v 1) (B.ix ix_tup (B.v 2) B.int) (m := B.m1)))) B.snil))))
      (B.sone (B.ret (B.v 1))))), ?_⟩
    walk_at "W"
    intro a ha
    have s1 : Same H (upd H a (.dK [])) := Same.new ha
    walk_at "W"
    refine ⟨s, rfl, ⟨_, SqL.of (s1 _ _ hs)⟩, ?_⟩
    refine SW.forListC (xs := xs) (fun i σ H' => ∃ v2 : Option V, σ = [some (.ref s), some (.ref a), v2] ∧ Same H H' ∧ H' a = some (.dK (kvs (heldR (ths.take i))))) ⟨none, rfl, s1, upd_same⟩ (fun i σ H' _ ⟨_, _, s', _⟩ => SqL.of (s' _ _ hs)) ?_ ?_
    · rintro i x σ H' hi ⟨v2, rfl, s', ha'⟩
      first | (have zz_ := paired_get ht hi; have th := zz_.1; have hth := zz_.2.1; have hx := zz_.2.2; clear zz_) | obtain ⟨th, hth, hx⟩ := paired_get ht hi
      have htake : heldR (ths.take (i + 1)) = heldT (heldR (ths.take i)) th := by rw [List.take_add_one, hth]; exact heldR_snoc _ _
      have hrl : (heldR (ths.take i)).length ≤ 500 := by
        have h1 := heldR_len (ths.take i) []
        have h2 : (ths.take i).length ≤ ths.length := by rw [List.length_take]; exact Nat.min_le_right ..
        have h3 : ([] : MRow).length = 0 := rfl
        exact Nat.le_trans h1 (by omega)
      have hlen : (kvs (heldR (ths.take i))).length < sizeLine := by rw [kvs_len]; exact Nat.lt_of_le_of_lt hrl (by decide)
      obtain ⟨r, hr_⟩ : ∃ r, r = heldR (ths.take i) := ⟨_, rfl⟩
      rw [← hr_] at ha' hlen htake
      clear hrl
      have nx : ∀ H3 v, H3 a = some (.dK (kvs (heldT r th))) → Same H H3 → ∃ v2 : Option V, [some (V.ref s), some (.ref a), some v] = [some (.ref s), some (.ref a), v2] ∧ Same H H3 ∧ H3 a = some (.dK (kvs (heldR (ths.take (i + 1))))) := fun H3 v e1 e2 => ⟨_, rfl, e2, by rw [htake]; exact e1⟩
      have sa : ∀ r', Same H (upd H' a (.dK (kvs r'))) := fun r' b o e => by rw [upd_ne (ne_of_none e ha)]; exact s' _ _ e
      cases th with
      | put kk y t =>
        obtain ⟨u, rfl, hu⟩ := hx
        have hu' := s' _ _ hu
        have hu2 := sa (rPut r kk y) _ _ hu
        walk_at "W"
        refine ⟨rfl, ?_⟩
        walk_at "W"
        refine iteY rfl ?_
        walk_at "W"
        refine ⟨a, _, rfl, DPut.k (k := Sum.inl kk) ha' hlen, ?_⟩
        rw [putK_kvs]
        walk_at "W"
        refine ⟨rfl, ?_⟩
        walk_at "W"
        refine iteNo (str_ne (by decide +kernel)) ?_
        refine iteF ?_
        walk_at "W"
        exact nx _ _ upd_same (sa _)
      | look kk t =>
        obtain ⟨u, rfl, hu⟩ := hx
        have hu' := s' _ _ hu
        walk_at "W"
        refine ⟨rfl, ?_⟩
        walk_at "W"
        refine iteNo (str_ne (by decide +kernel)) ?_
        walk_at "W"
        refine ⟨rfl, ?_⟩
        walk_at "W"
        refine iteNo (str_ne (by decide +kernel)) ?_
        refine iteF ?_
        walk_at "W"
        exact nx _ _ ha' s'
      | step c b ps =>
        obtain ⟨u, q, ys, rfl, hu, _⟩ := hx
        have hu' := s' _ _ hu
        walk_at "W"
        refine ⟨rfl, ?_⟩
        walk_at "W"
        refine iteNo (str_ne (by decide +kernel)) ?_
        walk_at "W"
        refine ⟨rfl, ?_⟩
        walk_at "W"
        refine iteNo (str_ne (by decide +kernel)) ?_
        refine iteF ?_
        walk_at "W"
        exact nx _ _ ha' s'
      | cut kk t =>
        obtain ⟨u, rfl, hu⟩ := hx
        have hu' := s' _ _ hu
        walk_at "W"
        refine ⟨rfl, ?_⟩
        walk_at "W"
        refine iteNo (str_ne (by decide +kernel)) ?_
        walk_at "W"
        refine ⟨rfl, ?_⟩
        walk_at "W"
        refine iteY rfl ?_
        walk_at "W"
        refine ⟨a, _, rfl, DGet.k (k := Sum.inl kk) ha', ?_⟩
        walk_at "W"
        rw [valV_kvs]
        cases e : rLook r kk with
        | none =>
          refine iteF ?_
          walk_at "W"
          exact nx _ _ (by show H' a = some (.dK (kvs (rCut r kk))); rw [rCut_no ((rLook_none_iff kk).mp e)]; exact ha') s'
        | some y =>
          refine iteT ?_
          walk_at "W"
          refine ⟨a, rfl, .inl ⟨_, .inl ha'⟩, ?_⟩
          walk_at "W"
          refine ⟨_, Sum.inl kk, V.int y, ha', rfl, by rw [valV_kvs, e]; rfl, ?_⟩
          rw [dropK_kvs]
          walk_at "W"
          exact nx _ _ upd_same (sa _)
    · rintro σ H' ⟨v2, rfl, s', ha'⟩
      rw [hxl, List.take_length] at ha'
      walk_at "W"
      exact k a _ ha s' ha'
end
noncomputable def spMissing : Sp := fun vs H Q _ => ∃ (s u q : Addr) (xs ys : List V) (ths : List Thing) (c b : Int) (ps : MRow), vs = [.ref s, .ref u] ∧ H s = some (.lst xs) ∧ ThVs H xs ths ∧ ths.length ≤ 500 ∧ (∀ t ∈ ths, Fit t) ∧ H u = some (.tup [.str "step", .int c, .int b, .ref q]) ∧ H q = some (.tup ys) ∧ Prs H ys ps ∧ ps.length ≤ 1000 ∧ (c ≠ 0 → begs ths ≠ []) ∧
  ∀ l H', Same H H' → H' l = some (.lst ((missL ths c ps).map V.int)) → Q (.ref l) H'
theorem wMissing {H : Hp} {Q : VK} {E : XK} {s u q : Addr} {xs ys : List V} {ths : List Thing} {c b : Int} {ps : MRow} (h1 : H s = some (.lst xs)) (h2 : ThVs H xs ths) (h3 : ths.length ≤ 500) (h4 : ∀ t ∈ ths, Fit t) (h5 : H u = some (.tup [.str "step", .int c, .int b, .ref q])) (h6 : H q = some (.tup ys)) (h7 : Prs H ys ps) (h8 : ps.length ≤ 1000) (h9 : c ≠ 0 → begs ths ≠ [])
    (k : ∀ l H', Same H H' → H' l = some (.lst ((missL ths c ps).map V.int)) → Q (.ref l) H') : spMissing ([.ref s, .ref u] ++ []) H Q E := ⟨s, u, q, xs, ys, ths, c, b, ps, rfl, h1, h2, h3, h4, h5, h6, h7, h8, h9, k⟩
noncomputable def begF (ths : List Thing) (k : Nat) : Bool := match ths[k]? with | some t => isBeg t | none => false
theorem told_len (ts : List Thing) (h : ∀ t ∈ ts, Fit t) : (toldOf ts).length ≤ 1000 * ts.length := by
  induction ts with
  | nil => exact Nat.le_refl _
  | cons t ts ih =>
    have h1 := ih fun u hu => h u (List.mem_cons_of_mem _ hu)
    have h2 : (keysOf t).length ≤ 1000 := by
      cases t with
      | put a b c => exact Nat.zero_le _
      | look a b => exact Nat.zero_le _
      | cut a b => exact Nat.zero_le _
      | step a b c => show (c.map (·.1)).length ≤ 1000; rw [List.length_map]; exact h _ (List.mem_cons_self ..)
    have e : toldOf (t :: ts) = keysOf t ++ toldOf ts := rfl
    rw [e, List.length_append, List.length_cons]
    omega
theorem cuts_len (ts : List Thing) : (cutsOf ts).length ≤ ts.length := List.length_filterMap_le ..
theorem notIn_dec {k : Int} {ks : List Int} : (!decide (k ∈ ks)) = decide (k ∉ ks) := by by_cases h : k ∈ ks <;> simp [h]
theorem cut_leA {xs : List V} {i : Nat} (h : i ≤ xs.length) : cutV xs none (some (i : Int)) = xs.take i := by
  unfold cutV
  rw [HT.sIx_none, HT.sIx_nat, List.drop_zero, Nat.sub_zero, Nat.min_eq_left h]
theorem cut_geA {xs : List V} {i : Nat} (h : i ≤ xs.length) : cutV xs (some (i : Int)) none = xs.drop i := by
  unfold cutV
  rw [HT.sIx_none, HT.sIx_nat, Nat.min_eq_left h]
  exact List.take_of_length_le (by rw [List.length_drop]; exact Nat.le_refl _)

theorem cuts_snoc (ts : List Thing) (t : Thing) : cutsOf (ts ++ [t]) = cutsOf ts ++ cutsOf [t] := cutsOf_append ts [t]
theorem take_snoc {α : Type} {xs : List α} {i : Nat} {v : α} (h : xs[i]? = some v) : xs.take (i + 1) = xs.take i ++ [v] := by rw [List.take_add_one, h]; rfl
section
variable {P : Program} {w : World} {K : PySem.W.Frag} {mg : Str → Option Value} {base : Heap} {C : Addr}
theorem F_missing (d : Dfn K mg "_law_missing" s_law_missing ["ahead", "row"]) (g : Gs K mg C) (F_law_held : Fn P w K mg base "_law_held" 1 ["rows"] spHeld) : Fn P w K mg base "_law_missing" 2 ["ahead", "row"] spMissing := by
  refine d.fn sc_law_missing (fun vs H Q E h => ?_) (fun f cdv A outer st H vs Q E hr h => ?_)
  · obtain ⟨s, u, q, xs, ys, ths, c, b, ps, rfl, _⟩ := h
    rfl
  · obtain ⟨s, u, q, xs, ys, ths, c, b, ps, rfl, hs, ht, hl, hfit, hu, hq, hps, hpl, hbg, k⟩ := h
    have hxl := paired_len ht
    have hyl := hps.len
    have lim : sizeLine = 16777216 := sizeLine_eq
    refine ⟨_, (B.scons (SW.B.compSetIf 2 [0] ["k", "ahead"] (SW.CompScope.of rfl rfl (by decide +kernel) (by decide +kernel) rfl ⟨rfl, trivial⟩ rfl rfl rfl) (by decide +kernel) sc_law_missing.nd (B.irange g.b_range (B.cons (B.cB call_len_seq g.b_len SW.b_len (B.cons (B.v 0) B.nil)) B.nil)) (fun _ _ _ _ => (B.tw (B.wand (B.tcmp op_eq (B.ix (SW.ix_tupK K) (B.ix (SW.ix_listK K) (B.v 1) (B.v 0)) B.int) B.str) (B.wand1 (B.tcmp op_eq (B.ix (SW.ix_tupK K) (B.ix (SW.ix_listK K) (B.v 1) (B.v 0)) B.int) B.int))))) (fun _ _ _ _ => (B.v 0)))
      (B.scons (B.set 3 sc_law_missing.nd (B.cB call_len_seq g.b_len SW.b_len (B.cons (B.v 0) B.nil)))
      (B.scons (B.ifs (B.tcmp op_ne (B.ix ix_tup (B.v 1) B.int) B.int) (B.sone (B.set 3 sc_law_missing.nd (B.ix ix_list (B.v 2) (B.un un_neg B.int)))) B.snil)
      (B.scons (B.set 4 sc_law_missing.nd (SW.B.compIf [] ["one"] (SW.CompScope.of rfl rfl (by decide +kernel) (by decide +kernel) rfl trivial rfl rfl rfl) (by decide +kernel) (B.ilist (B.slice sl_list (B.v 0) (B.part (B.v 3)) B.nopart)) (fun _ _ _ _ => (B.tcmp op_eq (B.ix (SW.ix_tupK K) (B.v 0) B.int) B.str)) (fun _ _ _ _ => (B.ix (SW.ix_tupK K) (B.v 0) B.int))))
      (B.scons (B.set 5 sc_law_missing.nd (SW.B.compN ["key", "worth"] [] ["key", "worth"] (SW.CompScopeN.of rfl rfl (by decide +kernel) (by decide +kernel) trivial rfl rfl rfl) (B.itup (B.ix ix_tup (B.v 1) B.int)) (fun _ _ _ _ => (B.gtupK K (n := 2) (B.gcons (B.gname (i := 0) (show (["key", "worth"] : List Str).Nodup by decide +kernel)) (B.gcons (B.gname (i := 1) (show (["key", "worth"] : List Str).Nodup by decide +kernel)) B.gnil)))) (fun _ _ _ _ => (B.v 0))))
      (B.scons (B.fors (B.ilist (B.slice sl_list (B.v 0) (B.part (B.v 3)) B.nopart)) (B.gname (i := 6) sc_law_missing.nd) (B.sone (B.ifs (B.tcmp op_eq (B.ix ix_tup (B.v 6) B.int) B.str) (B.sone (B.set 5 sc_law_missing.nd (B.op op_cat (B.v 5) (SW.B.compN ["key", "worth"] [] ["key", "worth"] (SW.CompScopeN.of rfl rfl (by decide +kernel) (by decide +kernel) trivial rfl rfl rfl) (B.itup (B.ix ix_tup (B.v 6) B.int)) (fun _ _ _ _ => (B.gtupK K (n := 2) (B.gcons (B.gname (i := 0) (show (["key", "worth"] : List Str).Nodup by decide +kernel)) (B.gcons (B.gname (i := 1) (show (["key", "worth"] : List Str).Nodup by decide +kernel)) B.gnil)))) (fun _ _ _ _ => (B.v 0)))))) B.snil)))
      (B.sone (B.ret (SW.B.compIf [4, 5] ["key", "cuts", "told"] (SW.CompScope.of rfl rfl (by decide +kernel) (by decide +kernel) rfl ⟨rfl, rfl, trivial⟩ rfl rfl rfl) (by decide +kernel) (SW.B.idict (B.fn F_law_held (hr.mono (by first | decide | omega)) (B.cons (B.slice sl_list (B.v 0) B.nopart (B.part (B.v 3))) B.nil))) (fun _ _ _ _ => (B.tw (B.wand (B.tcmpI (SW.op_notinK K) (B.v 0) (B.v 1)) (B.wand1 (B.tcmpI (SW.op_notinK K) (B.v 0) (B.v 2)))))) (fun _ _ _ _ => (B.v 0))))))))))), ?_⟩
    walk_at "W"
    refine SW.iLen (.inl (SqL.of hs)) ?_
    walk_at "W"
    refine ⟨((xs.length : Nat) : Int), rfl, by omega, by omega, fun D hD => ?_⟩
    have hDn : ∀ b o, H b = some o → b ≠ D := fun b o e => ne_of_none e hD
    refine comp_range (fun i σ' H' => (∃ v : Option V, σ' = [v, some (.ref s)]) ∧ Same H H' ∧ H' D = some (.lst (((List.range i).filter (begF ths)).map fun j : Nat => V.int (j : Int)))) ⟨⟨none, rfl⟩, Same.new hD, upd_same⟩ ?_ ?_
    · rintro i σ' H' hi ⟨⟨v, rfl⟩, s', hD'⟩
      have hi' : i < xs.length := by
        have : i < ((xs.length : Nat) : Int).toNat := hi
        omega
      have hs' := s' _ _ hs
      have hxi : xs[i]? = some xs[i] := List.getElem?_eq_getElem hi'
      first | (have zz_ := paired_get ht hxi; have th := zz_.1; have hth := zz_.2.1; have hx := zz_.2.2; clear zz_) | obtain ⟨th, hth, hx⟩ := paired_get ht hxi
      have hx' := hx.keep fun a xs e => s' _ _ e
      have hbf : begF ths i = isBeg th := by unfold begF; rw [hth]
      have hat : atI xs (0 + (i : Int)) = some xs[i] := by rw [Int.zero_add]; exact atI_nat hxi
      have yes : isBeg th = true → CN (fun i σ' H' => (∃ v : Option V, σ' = [v, some (.ref s)]) ∧ Same H H' ∧ H' D = some (.lst (((List.range i).filter (begF ths)).map fun j : Nat => V.int (j : Int)))) ((xs.length : Nat) : Int).toNat i D [some (V.int (0 + (i : Int))), some (.ref s)] (V.int (0 + (i : Int))) H' := by
        intro e
        refine CN.mk hi hD' (by rw [List.length_map]; exact Nat.lt_of_le_of_lt (List.length_filter_le ..) (by rw [List.length_range]; omega)) ⟨⟨_, rfl⟩, fun b o e => by rw [upd_ne (hDn b o e)]; exact s' _ _ e, ?_⟩
        rw [upd_same, List.range_succ, List.filter_append, List.filter_cons, hbf, e, if_pos rfl, List.filter_nil, List.map_append, Int.zero_add]
        rfl
      have no : isBeg th = false → CO (fun i σ' H' => (∃ v : Option V, σ' = [v, some (.ref s)]) ∧ Same H H' ∧ H' D = some (.lst (((List.range i).filter (begF ths)).map fun j : Nat => V.int (j : Int)))) ((xs.length : Nat) : Int).toNat i [some (V.int (0 + (i : Int))), some (.ref s)] H' := by
        intro e
        refine CO.mk hi ⟨⟨_, rfl⟩, s', ?_⟩
        rw [hD', List.range_succ, List.filter_append, List.filter_cons, hbf, e, if_neg Bool.false_ne_true, List.filter_nil, List.append_nil]
      walk_at "W"
      refine wIxL hs' hat ?_
      cases th with
      | step c1 b1 p1 =>
        first | (have zz_ := hx'; have u1 := zz_.1; have q1 := zz_.2.1; have y1 := zz_.2.2.1; have e1 := zz_.2.2.2.1; have hu1 := zz_.2.2.2.2.1; clear zz_) | obtain ⟨u1, q1, y1, e1, hu1, _⟩ := hx'
        rw [e1] at hat
        rw [e1]
        walk_at "W"
        refine ⟨rfl, ?_⟩
        walk_at "W"
        refine iteY rfl ?_
        walk_at "W"
        refine wIxL hs' hat ?_
        walk_at "W"
        by_cases hc : c1 = 0
        · refine iteY (by rw [hc]) ?_
          walk_at "W"
          exact yes (decide_eq_true hc)
        · refine iteNo (fun z => hc (by injection z)) ?_
          exact no (decide_eq_false hc)
      | put a1 a2 a3 =>
        first | (have zz_ := hx'; have u1 := zz_.1; have e1 := zz_.2.1; have hu1 := zz_.2.2; clear zz_) | obtain ⟨u1, e1, hu1⟩ := hx'
        rw [e1]
        walk_at "W"
        refine ⟨rfl, ?_⟩
        walk_at "W"
        refine iteNo (str_ne (by decide +kernel)) ?_
        refine iteF ?_
        exact no rfl
      | look a1 a2 =>
        first | (have zz_ := hx'; have u1 := zz_.1; have e1 := zz_.2.1; have hu1 := zz_.2.2; clear zz_) | obtain ⟨u1, e1, hu1⟩ := hx'
        rw [e1]
        walk_at "W"
        refine ⟨rfl, ?_⟩
        walk_at "W"
        refine iteNo (str_ne (by decide +kernel)) ?_
        refine iteF ?_
        exact no rfl
      | cut a1 a2 =>
        first | (have zz_ := hx'; have u1 := zz_.1; have e1 := zz_.2.1; have hu1 := zz_.2.2; clear zz_) | obtain ⟨u1, e1, hu1⟩ := hx'
        rw [e1]
        walk_at "W"
        refine ⟨rfl, ?_⟩
        walk_at "W"
        refine iteNo (str_ne (by decide +kernel)) ?_
        refine iteF ?_
        exact no rfl
    · rintro σ' H1 ⟨⟨v, rfl⟩, s1, hD1⟩
      rw [show ((xs.length : Nat) : Int).toNat = ths.length by rw [Int.toNat_natCast, hxl]] at hD1
      have hD1 : H1 D = some (.lst ((begs ths).map fun j : Nat => V.int (j : Int))) := hD1
      have hs1 := s1 _ _ hs
      have hu1 := s1 _ _ hu
      walk_at "W"
      refine SW.iLen (.inl (SqL.of hs1)) ?_
      walk_at "W"
      rename_i N1 hN1
      have rest : N1 [some (.ref s), some (.ref u), some (.ref D), some (.int (atW ths c : Nat)), none, none, none] H1 := by
        obtain ⟨at_, hat_⟩ : ∃ at_, at_ = atW ths c := ⟨_, rfl⟩
        have hle : at_ ≤ xs.length := by
          rw [hat_]
          unfold atW
          split
          · omega
          · cases e : (begs ths).getLast? with
            | none => exact Nat.zero_le _
            | some z => have := begs_lt (getLast_mem e); show z ≤ _; omega
        have kk : ∀ l H', Same H H' → H' l = some (.lst ((((heldR (ths.take at_)).map (·.1)).filter fun k => decide (k ∉ cutsOf (ths.drop at_)) && decide (k ∉ ps.map (·.1) ++ toldOf (ths.drop at_))).map V.int)) → Q (.ref l) H' := by
          rw [hat_]; exact k
        rw [← hat_]
        clear k hat_
        refine SW.wGo hN1 ?_
        walk_at "W"
        refine ⟨(at_ : Int), rfl, ?_⟩
        walk_at "W"
        refine ⟨s, xs, rfl, SqL.of hs1, fun x1 hx1 => ?_⟩
        rw [cut_geA hle]
        have a1 := Same.new (o := .lst (xs.drop at_)) hx1
        have ht1 : ThVs H1 (xs.drop at_) (ths.drop at_) := ThVs.keep (paired_drop at_ ht) fun a xs e => s1 _ _ e
        obtain ⟨ds, hds⟩ : ∃ ds, ds = xs.drop at_ := ⟨_, rfl⟩
        obtain ⟨td, htd⟩ : ∃ td, td = ths.drop at_ := ⟨_, rfl⟩
        rw [← hds, ← htd] at ht1
        rw [← hds] at a1 ⊢
        have hdl : td.length ≤ 500 := by rw [htd, List.length_drop]; omega
        have hdf : ∀ t ∈ td, Fit t := fun t h => hfit t (List.mem_of_mem_drop (htd ▸ h))
        have hdx := paired_len ht1
        refine ⟨x1, rfl, ⟨_, SqL.of upd_same⟩, fun D2 hD2 => ?_⟩
        have ex1 := upd_same (H := H1) (a := x1) (o := .lst ds)
        obtain ⟨H2, hH2⟩ : ∃ H2, H2 = upd H1 x1 (.lst ds) := ⟨_, rfl⟩
        rw [← hH2] at a1 hD2 ex1 ⊢
        clear hH2
        have ht2 := ht1.keep fun a xs e => a1 _ _ e
        refine comp_list (xs := ds) (fun i σ' H' => (∃ v : Option V, σ' = [v]) ∧ Same H2 H' ∧ H' D2 = some (.lst ((cutsOf (td.take i)).map V.int))) ⟨⟨none, rfl⟩, Same.new hD2, upd_same⟩ (fun i σ' H' _ ⟨_, s', _⟩ => SqL.of (s' _ _ ex1)) ?_ ?_
        · rintro i x σ' H' hx hi ⟨⟨v, rfl⟩, s', hD'⟩
          first | (have zz_ := paired_get ht2 hx; have th := zz_.1; have hth := zz_.2.1; have hv := zz_.2.2; clear zz_) | obtain ⟨th, hth, hv⟩ := paired_get ht2 hx
          have hv' := hv.keep fun a xs e => s' _ _ e
          have hts := take_snoc hth
          have hcl := cuts_len (td.take i)
          rw [List.length_take] at hcl
          have hlen : ((cutsOf (td.take i)).map V.int).length < sizeLine := by rw [List.length_map]; omega
          cases th with
          | cut k1 t1 =>
            obtain ⟨u1, rfl, hu1_⟩ := hv'
            walk_at "W"
            refine ⟨rfl, ?_⟩
            walk_at "W"
            refine iteY rfl ?_
            walk_at "W"
            refine CN.mk hi hD' hlen ⟨⟨_, rfl⟩, fun b o e => by rw [upd_ne (ne_of_none e hD2)]; exact s' _ _ e, ?_⟩
            rw [upd_same, hts, cuts_snoc, List.map_append]; rfl
          | put k1 w1 t1 =>
            obtain ⟨u1, rfl, hu1_⟩ := hv'
            walk_at "W"
            refine ⟨rfl, ?_⟩
            walk_at "W"
            refine iteNo (str_ne (by decide +kernel)) ?_
            exact CO.mk hi ⟨⟨_, rfl⟩, s', by rw [hD', hts, cuts_snoc]; rw [show cutsOf [Thing.put k1 w1 t1] = [] from rfl, List.append_nil]⟩
          | look k1 t1 =>
            obtain ⟨u1, rfl, hu1_⟩ := hv'
            walk_at "W"
            refine ⟨rfl, ?_⟩
            walk_at "W"
            refine iteNo (str_ne (by decide +kernel)) ?_
            exact CO.mk hi ⟨⟨_, rfl⟩, s', by rw [hD', hts, cuts_snoc]; rw [show cutsOf [Thing.look k1 t1] = [] from rfl, List.append_nil]⟩
          | step c1 b1 p1 =>
            obtain ⟨u1, q1, y1, rfl, hu1_, _⟩ := hv'
            walk_at "W"
            refine ⟨rfl, ?_⟩
            walk_at "W"
            refine iteNo (str_ne (by decide +kernel)) ?_
            exact CO.mk hi ⟨⟨_, rfl⟩, s', by rw [hD', hts, cuts_snoc]; rw [show cutsOf [Thing.step c1 b1 p1] = [] from rfl, List.append_nil]⟩
        · rintro σ' H3 ⟨⟨v, rfl⟩, s3, hD3⟩
          rw [hdx, List.take_length] at hD3
          have s03 := (s1.trans a1).trans s3
          have hu3 := s03 _ _ hu
          have hq3 := s03 _ _ hq
          walk_at "W"
          refine ⟨q, rfl, ⟨_, SqT.of hq3⟩, fun D4 hD4 => ?_⟩
          refine compN_tup (tt := fun _ H Q => Q true H) (xs := ys) (fun i σ' H' => (∃ v0 v1, σ' = [v0, v1]) ∧ Same H3 H' ∧ H' D4 = some (.lst (((ps.take i).map (·.1)).map V.int))) ⟨⟨none, none, rfl⟩, Same.new hD4, upd_same⟩ (fun i σ' H' _ ⟨_, s', _⟩ => SqT.of (s' _ _ hq3)) ?_ ?_
          · rintro i x σ' H' hx hi ⟨⟨v0, v1, rfl⟩, s', hD'⟩
            obtain ⟨⟨k1, y1⟩, hpp, a, rfl, ha⟩ := paired_get hps hx
            have ha' := s' _ _ (s03 _ _ ha)
            refine ⟨a, _, rfl, SqT.of ha', rfl, _, _, rfl, ?_⟩
            walk_at "W"
            refine ⟨_, _, rfl, ?_⟩
            walk_at "W"
            refine ⟨rfl, ?_⟩
            refine iteT ?_
            walk_at "W"
            refine CN.mk hi hD' (by rw [List.length_map, List.length_map, List.length_take]; omega) ⟨⟨_, _, rfl⟩, fun b o e => by rw [upd_ne (ne_of_none e hD4)]; exact s' _ _ e, ?_⟩
            rw [upd_same, take_snoc hpp, List.map_append, List.map_append]; rfl
          · rintro σ' H5 ⟨⟨v0, v1, rfl⟩, s5, hD5⟩
            rw [hyl, List.take_length] at hD5
            have s05 := s03.trans s5
            have hs5 := s05 _ _ hs
            walk_at "W"
            refine ⟨(at_ : Int), rfl, ?_⟩
            walk_at "W"
            refine ⟨s, xs, rfl, SqL.of hs5, fun x6 hx6 => ?_⟩
            rw [cut_geA hle, ← hds]
            have a6 := Same.new (o := .lst ds) hx6
            refine ⟨x6, rfl, ⟨_, SqL.of upd_same⟩, ?_⟩
            have s56 := s5.trans a6
            have hD36 := s56 _ _ hD3
            refine SW.forListC (xs := ds) (fun i σ H' => ∃ (T : Addr) (v6 : Option V), σ = [some (.ref s), some (.ref u), some (.ref D), some (.int at_), some (.ref D2), some (.ref T), v6] ∧ Same H5 H' ∧ H' x6 = some (.lst ds) ∧ H' T = some (.lst ((ps.map (·.1) ++ toldOf (td.take i)).map V.int)))
              ⟨D4, none, rfl, a6, upd_same, by rw [show toldOf (td.take 0) = [] from rfl, List.append_nil]; exact a6 _ _ hD5⟩ (fun i σ H' _ ⟨_, _, _, _, h, _⟩ => SqL.of h) ?_ ?_
            · rintro i x σ H' hx ⟨T, v6, rfl, s', hx6', hT⟩
              first | (have zz_ := paired_get ht2 hx; have th := zz_.1; have hth := zz_.2.1; have hv := zz_.2.2; clear zz_) | obtain ⟨th, hth, hv⟩ := paired_get ht2 hx
              have hv' := hv.keep fun a xs e => s' _ _ (s5 _ _ (s3 _ _ e))
              have hts := take_snoc hth
              have hfi : Fit th := hdf th (List.mem_of_getElem? hth)
              have htl : (toldOf (td.take i)).length ≤ 1000 * 500 := by
                refine Nat.le_trans (told_len _ fun t h => hdf t (List.mem_of_mem_take h)) (Nat.mul_le_mul_left _ ?_)
                rw [List.length_take]; omega
              cases th with
              | step c1 b1 p1 =>
                obtain ⟨u1, q1, y1, rfl, hu1_, hq1_, hp1⟩ := hv'
                have hfi : p1.length ≤ 1000 := hfi
                have hy1l := hp1.len
                walk_at "W"
                refine ⟨rfl, ?_⟩
                walk_at "W"
                refine iteY rfl ?_
                walk_at "W"
                refine ⟨q1, rfl, ⟨_, SqT.of hq1_⟩, fun D7 hD7 => ?_⟩
                refine compN_tup (tt := fun _ H Q => Q true H) (xs := y1) (fun i σ' H'' => (∃ v0 v1, σ' = [v0, v1]) ∧ Same H' H'' ∧ H'' D7 = some (.lst (((p1.take i).map (·.1)).map V.int))) ⟨⟨none, none, rfl⟩, Same.new hD7, upd_same⟩ (fun i σ' H' _ ⟨_, s', _⟩ => SqT.of (s' _ _ hq1_)) ?_ ?_
                · rintro j x σ' H'' hx hj ⟨⟨v0, v1, rfl⟩, s'', hD''⟩
                  obtain ⟨⟨k1, y1⟩, hpp, a, rfl, ha⟩ := paired_get hp1 hx
                  have ha' := s'' _ _ ha
                  refine ⟨a, _, rfl, SqT.of ha', rfl, _, _, rfl, ?_⟩
                  walk_at "W"
                  refine ⟨_, _, rfl, ?_⟩
                  walk_at "W"
                  refine ⟨rfl, ?_⟩
                  refine iteT ?_
                  walk_at "W"
                  refine CN.mk hj hD'' (by rw [List.length_map, List.length_map, List.length_take]; omega) ⟨⟨_, _, rfl⟩, fun b o e => by rw [upd_ne (ne_of_none e hD7)]; exact s'' _ _ e, ?_⟩
                  rw [upd_same, take_snoc hpp, List.map_append, List.map_append]; rfl
                · rintro σ' H8 ⟨⟨v0, v1, rfl⟩, s8, hD8⟩
                  rw [hy1l, List.take_length] at hD8
                  walk_at "W"
                  refine ⟨T, D7, _, _, rfl, rfl, s8 _ _ hT, hD8, by rw [List.length_map, List.length_append, List.length_map, List.length_map, List.length_map]; omega, fun T9 hT9 => ?_⟩
                  have a9 := Same.new (o := .lst ((ps.map (·.1) ++ toldOf (td.take i)).map V.int ++ (p1.map (·.1)).map V.int)) hT9
                  have s89 := s8.trans a9
                  walk_at "W"
                  refine ⟨T9, _, rfl, s'.trans s89, s89 _ _ hx6', ?_⟩
                  rw [upd_same, hts, toldOf_append, toldOf_one, ← List.append_assoc, List.map_append (l₁ := ps.map (·.1) ++ toldOf (td.take i))]; rfl
              | put k1 w1 t1 =>
                obtain ⟨u1, rfl, hu1_⟩ := hv'
                walk_at "W"
                refine ⟨rfl, ?_⟩
                walk_at "W"
                refine iteNo (str_ne (by decide +kernel)) ?_
                walk_at "W"
                exact ⟨T, _, rfl, s', hx6', by rw [hT, hts, toldOf_append, toldOf_one, show keysOf (Thing.put k1 w1 t1) = [] from rfl, List.append_nil]⟩
              | look k1 t1 =>
                obtain ⟨u1, rfl, hu1_⟩ := hv'
                walk_at "W"
                refine ⟨rfl, ?_⟩
                walk_at "W"
                refine iteNo (str_ne (by decide +kernel)) ?_
                walk_at "W"
                exact ⟨T, _, rfl, s', hx6', by rw [hT, hts, toldOf_append, toldOf_one, show keysOf (Thing.look k1 t1) = [] from rfl, List.append_nil]⟩
              | cut k1 t1 =>
                obtain ⟨u1, rfl, hu1_⟩ := hv'
                walk_at "W"
                refine ⟨rfl, ?_⟩
                walk_at "W"
                refine iteNo (str_ne (by decide +kernel)) ?_
                walk_at "W"
                exact ⟨T, _, rfl, s', hx6', by rw [hT, hts, toldOf_append, toldOf_one, show keysOf (Thing.cut k1 t1) = [] from rfl, List.append_nil]⟩
            · rintro σ H7 ⟨T, v6, rfl, s7, _, hT⟩
              rw [hdx, List.take_length] at hT
              have s07 := s05.trans s7
              have hs7 := s07 _ _ hs
              have hD7 := s7 _ _ (s5 _ _ hD3)
              have ht7 := ht.keep fun a xs e => s07 _ _ e
              walk_at "W"
              refine ⟨(at_ : Int), rfl, s, xs, rfl, SqL.of hs7, fun x8 hx8 => ?_⟩
              rw [cut_leA hle]
              have a8 := Same.new (o := .lst (xs.take at_)) hx8
              walk_at "W"
              refine wHeld upd_same (ThVs.keep (paired_take at_ ht7) fun a xs e => a8 _ _ e) (by rw [List.length_take]; omega) fun a9 H9 ha9n s9 ha9 => ?_
              have s89 := a8.trans s9
              have nT9 : T ≠ a9 := ne_of_none (a8 _ _ hT) ha9n
              have nC9 : D2 ≠ a9 := ne_of_none (a8 _ _ hD7) ha9n
              refine ⟨a9, _, rfl, ha9, fun o => ?_⟩
              have hfz : ∀ b v, b ≠ a9 → H9 b = some v → upd H9 a9 (.frz o (.dK (kvs (heldR (ths.take at_))))) b = some v := fun b v n e => by rw [upd_ne n]; exact e
              have eC := hfz _ _ nC9 (s89 _ _ hD7)
              have eT := hfz _ _ nT9 (s89 _ _ hT)
              have s0z : Same H (upd H9 a9 (.frz o (.dK (kvs (heldR (ths.take at_)))))) := fun b v e => hfz _ _ (ne_of_none (a8 _ _ (s07 _ _ e)) ha9n) (s89 _ _ (s07 _ _ e))
              have eF := upd_same (H := H9) (a := a9) (o := .frz o (.dK (kvs (heldR (ths.take at_)))))
              obtain ⟨Hz, hHz⟩ : ∃ Hz, Hz = upd H9 a9 (.frz o (.dK (kvs (heldR (ths.take at_))))) := ⟨_, rfl⟩
              rw [← hHz] at eC eT s0z eF ⊢
              clear hHz hfz
              intro D10 hD10
              obtain ⟨r, hr_⟩ : ∃ r, r = heldR (ths.take at_) := ⟨_, rfl⟩
              rw [← hr_] at eF ⊢
              have hrl : r.length ≤ 500 := by
                have h1 := heldR_len (ths.take at_) []
                have h2 : (ths.take at_).length ≤ ths.length := by rw [List.length_take]; exact Nat.min_le_right ..
                rw [hr_]
                exact Nat.le_trans h1 (by show 0 + _ ≤ _; omega)
              rw [← hr_, ← htd] at kk
              refine comp_dict (kvs := kvs r) (fun i σ' H' => (∃ v : Option V, σ' = [v, some (.ref D2), some (.ref T)]) ∧ Same Hz H' ∧ H' D10 = some (.lst ((((r.take i).map (·.1)).filter fun k => decide (k ∉ cutsOf td) && decide (k ∉ ps.map (·.1) ++ toldOf td)).map V.int))) ⟨⟨none, rfl⟩, Same.new hD10, upd_same⟩ (fun i σ' H' _ ⟨_, s', _⟩ => s' _ _ eF) ?_ ?_
              · rintro i kv σ' H' hkv hi ⟨⟨v, rfl⟩, s', hD'⟩
                have hi' : i < r.length := by rw [kvs_len] at hi; exact hi
                have e4 : (kvs r)[i]? = some (Sum.inl r[i].1, V.int r[i].2) := by
                  unfold kvs
                  rw [List.getElem?_map, List.getElem?_eq_getElem hi']
                  rfl
                rw [e4] at hkv
                cases hkv
                have htk := take_snoc (List.getElem?_eq_getElem hi')
                have hlen : ((((r.take i).map (·.1)).filter fun k => decide (k ∉ cutsOf td) && decide (k ∉ ps.map (·.1) ++ toldOf td)).map V.int).length < sizeLine := by
                  rw [List.length_map]
                  refine Nat.lt_of_le_of_lt (List.length_filter_le ..) ?_
                  rw [List.length_map, List.length_take]; omega
                have no : ∀ (e : (decide (r[i].1 ∉ cutsOf td) && decide (r[i].1 ∉ ps.map (·.1) ++ toldOf td)) = false), CO (fun i σ' H' => (∃ v : Option V, σ' = [v, some (.ref D2), some (.ref T)]) ∧ Same Hz H' ∧ H' D10 = some (.lst ((((r.take i).map (·.1)).filter fun k => decide (k ∉ cutsOf td) && decide (k ∉ ps.map (·.1) ++ toldOf td)).map V.int))) (kvs r).length i [some (V.int r[i].1), some (.ref D2), some (.ref T)] H' := fun e =>
                  CO.mk hi ⟨⟨_, rfl⟩, s', by rw [hD', htk, List.map_append, List.filter_append, List.map_cons, List.filter_cons, e, if_neg Bool.false_ne_true, List.map_nil, List.filter_nil, List.append_nil]⟩
                show tTest _ _ _ _
                walk_at "W"
                refine ⟨D2, _, rfl, .inl (SqL.of (s' _ _ eC)), rfl, flat_ints _, ?_⟩
                rw [show inV (kV (Sum.inl r[i].1)) ((cutsOf td).map V.int) = decide (r[i].1 ∈ cutsOf td) from inV_ints _ _]
                walk_at "W"
                by_cases h1 : r[i].1 ∈ cutsOf td
                · rw [decide_eq_true h1]
                  refine iteF ?_
                  refine iteF ?_
                  exact no (by rw [decide_eq_false (fun z => z h1)]; rfl)
                · rw [decide_eq_false h1]
                  refine iteT ?_
                  walk_at "W"
                  refine ⟨T, _, rfl, .inl (SqL.of (s' _ _ eT)), rfl, flat_ints _, ?_⟩
                  rw [show inV (kV (Sum.inl r[i].1)) ((ps.map (·.1) ++ toldOf td).map V.int) = decide (r[i].1 ∈ ps.map (·.1) ++ toldOf td) from inV_ints _ _]
                  walk_at "W"
                  by_cases h2 : r[i].1 ∈ ps.map (·.1) ++ toldOf td
                  · rw [decide_eq_true h2]
                    refine iteF ?_
                    exact no (by rw [show decide (r[i].1 ∉ ps.map (·.1) ++ toldOf td) = false from decide_eq_false (fun z => z h2), Bool.and_false])
                  · rw [decide_eq_false h2]
                    refine iteT ?_
                    walk_at "W"
                    refine CN.mk hi hD' hlen ⟨⟨_, rfl⟩, fun b o e => by rw [upd_ne (ne_of_none e hD10)]; exact s' _ _ e, ?_⟩
                    rw [upd_same, htk, List.map_append, List.filter_append, List.map_cons, List.filter_cons, decide_eq_true h1, decide_eq_true h2, Bool.true_and, if_pos rfl, List.map_nil, List.filter_nil, List.map_append]
                    rfl
              · rintro σ' H11 ⟨⟨v, rfl⟩, s11, hD11⟩
                rw [kvs_len, List.take_length] at hD11
                exact kk D10 H11 (s0z.trans s11) hD11
      clear hN1
      by_cases hc : c = 0
      · refine iteNS (by rw [hc]) ?_
        walk_at "W"
        have e : (atW ths c : Nat) = xs.length := by unfold atW; rw [if_pos hc, hxl]
        rw [e] at rest
        exact rest
      · refine iteNN (fun z => hc (by injection z)) ?_
        obtain ⟨z, hz⟩ : ∃ z, (begs ths).getLast? = some z := by
          cases e : (begs ths).getLast? with
          | none => exact absurd (List.getLast?_eq_none_iff.mp e) (hbg hc)
          | some z => exact ⟨z, rfl⟩
        have e : (atW ths c : Nat) = z := by unfold atW; rw [if_neg hc, hz]; rfl
        rw [e] at rest
        first | (have zz_ := List.getLast?_eq_some_iff.mp hz; have zs := zz_.1; have hzs := zz_.2; clear zz_) | obtain ⟨zs, hzs⟩ := List.getLast?_eq_some_iff.mp hz
        rw [hzs, List.map_append] at hD1
        walk_at "W"
        refine wIxL hD1 (L2.atI_last _ _) ?_
        walk_at "W"
        exact rest
end

theorem paired_last {α β : Type} {F : α → β → Prop} : ∀ {ys : List β} {y : β} {xs : List α}, Paired F xs (ys ++ [y]) → ∃ xs' x, xs = xs' ++ [x] ∧ F x y
  | [], y, _, .cons (a := a) h .nil => ⟨[], a, rfl, h⟩
  | _ :: ys, y, _, .cons (a := a) h t => by
    first | (have zz_ := paired_last (ys := ys) t; have xs' := zz_.1; have x := zz_.2.1; have e := zz_.2.2.1; have f := zz_.2.2.2; clear zz_) | obtain ⟨xs', x, e, f⟩ := paired_last (ys := ys) t
    exact ⟨a :: xs', x, by rw [e]; rfl, f⟩
section
variable {L : LS} {c b : Int} {ps : MRow}
theorem agr_no1 (h : c ≠ L.c) : agr L (.step c b ps) = false := by
  show (decide (c = L.c) && mayF b c && hasAll L.w ps && _) = false
  rw [decide_eq_false h]; rfl
theorem agr_no2 (h : mayF b c = false) : agr L (.step c b ps) = false := by
  show (decide (c = L.c) && mayF b c && hasAll L.w ps && _) = false
  rw [h, Bool.and_false]; rfl
theorem agr_no3 (h : hasAll L.w ps = false) : agr L (.step c b ps) = false := by
  show (decide (c = L.c) && mayF b c && hasAll L.w ps && _) = false
  rw [h, Bool.and_false]; rfl
theorem agr_yes (h1 : c = L.c) (h2 : mayF b c = true) (h3 : hasAll L.w ps = true) : agr L (.step c b ps) = (decide (b ≠ 0) || (owe L c ps).isEmpty) := by
  show (decide (c = L.c) && mayF b c && hasAll L.w ps && _) = _
  rw [decide_eq_true h1, h2, h3]; rfl
end
theorem hasAll_no {w ps : MRow} (h : ¬ ((ps.map (·.1)).Nodup ∧ ∀ p ∈ ps, rLook w p.1 = some p.2)) : hasAll w ps = false := by
  cases e : hasAll w ps with
  | false => rfl
  | true => exact absurd (hasAll_iff.mp e) h
noncomputable def spFits : Sp := fun vs H Q _ => ∃ (s : Addr) (v : V) (xs : List V) (ths : List Thing) (th : Thing), vs = [.ref s, v] ∧ H s = some (.lst xs) ∧ ThVs H xs ths ∧ ths.length ≤ 500 ∧ (∀ t ∈ ths, Fit t) ∧ ThV H v th ∧ Fit th ∧ fw L0 ths = none ∧ ∀ H', Same H H' → Q (.bl (agr (runL L0 ths) th)) H'
theorem wFits {H : Hp} {Q : VK} {E : XK} {s : Addr} {v : V} {xs : List V} {ths : List Thing} {th : Thing} (h1 : H s = some (.lst xs)) (h2 : ThVs H xs ths) (h3 : ths.length ≤ 500) (h4 : ∀ t ∈ ths, Fit t) (h5 : ThV H v th) (h6 : Fit th) (h7 : fw L0 ths = none) (k : ∀ H', Same H H' → Q (.bl (agr (runL L0 ths) th)) H') : spFits ([.ref s, v] ++ []) H Q E := ⟨s, v, xs, ths, th, rfl, h1, h2, h3, h4, h5, h6, h7, k⟩
section
variable {P : Program} {w : World} {K : PySem.W.Frag} {mg : Str → Option Value} {base : Heap} {C : Addr}
theorem F_fits (d : Dfn K mg "_law_fits" s_law_fits ["ahead", "row"]) (g : Gs K mg C) (F_law_held : Fn P w K mg base "_law_held" 1 ["rows"] spHeld) (F_law_missing : Fn P w K mg base "_law_missing" 2 ["ahead", "row"] spMissing) : Fn P w K mg base "_law_fits" 3 ["ahead", "row"] spFits := by
  refine d.fn sc_law_fits (fun vs H Q E h => ?_) (fun f cdv A outer st H vs Q E hr h => ?_)
  · obtain ⟨s, v, xs, ths, th, rfl, _⟩ := h
    rfl
  · obtain ⟨s, v, xs, ths, th, rfl, hs, ht, hl, hfit, hv, hf, hfw, k⟩ := h
    have hxl := paired_len ht
    have lim : sizeLine = 16777216 := sizeLine_eq
    have hw := held_w ths
    refine ⟨_, (B.scons (B.set 2 sc_law_fits.nd (B.fn F_law_held (hr.mono (by first | decide | omega)) (B.cons (B.v 0) B.nil)))
      (B.scons (B.ifs (B.tcmp op_ne (B.ix ix_tup (B.v 1) B.int) B.str) (B.sone (B.ret (B.cmp op_eq (B.ix ix_tup (B.v 1) (B.un un_neg B.int)) (B.dget1 (hu_of hr) (B.v 2) (B.ix ix_tup (B.v 1) B.int) (m := B.m1))))) B.snil)
      (B.scons (SW.B.compSetIf 3 [] ["one"] (SW.CompScope.of rfl rfl (by decide +kernel) (by decide +kernel) rfl trivial rfl rfl rfl) (by decide +kernel) sc_law_fits.nd (B.ilist (B.v 0)) (fun _ _ _ _ => (B.tcmp op_eq (B.ix (SW.ix_tupK K) (B.v 0) B.int) B.str)) (fun _ _ _ _ => (B.v 0)))
      (B.scons (B.set 4 sc_law_fits.nd B.int)
      (B.scons (B.ifs (B.tcmp (op_neD K hr.units) (B.v 3) (B.lst B.nil)) (B.sone (B.set 4 sc_law_fits.nd (B.ix ix_tup (B.ix ix_list (B.v 3) (B.un un_neg B.int)) B.int))) B.snil)
      (B.scons (B.ifs (B.tw (B.wor (B.tcmp op_ne (B.ix ix_tup (B.v 1) B.int) (B.v 4)) (B.wor1 (B.tw (B.wand (B.tcmp op_ne (B.ix ix_tup (B.v 1) B.int) B.int) (B.wand1 (B.tnot (B.tchain op_lt op_le (B.v 4) (B.ix ix_tup (B.v 1) B.int) B.int)))))))) (B.sone (B.ret B.bl)) B.snil)
      (B.scons (B.ifs (B.tcmp op_lt (B.cB SW.call_lenS g.b_len SW.b_len (B.cons (B.cT SW.call_setL g.b_set SW.b_set (B.cons (SW.B.compN ["key", "worth"] [] ["key", "worth"] (SW.CompScopeN.of rfl rfl (by decide +kernel) (by decide +kernel) trivial rfl rfl rfl) (B.itup (B.ix ix_tup (B.v 1) B.int)) (fun _ _ _ _ => (B.gtupK K (n := 2) (B.gcons (B.gname (i := 0) (show (["key", "worth"] : List Str).Nodup by decide +kernel)) (B.gcons (B.gname (i := 1) (show (["key", "worth"] : List Str).Nodup by decide +kernel)) B.gnil)))) (fun _ _ _ _ => (B.v 0))) B.nil)) B.nil)) (B.cB call_len_seq g.b_len SW.b_len (B.cons (B.ix ix_tup (B.v 1) B.int) B.nil))) (B.sone (B.ret B.bl)) B.snil)
      (B.scons (B.ifs (B.tcmp (op_neD K hr.units) (SW.B.compNIf ["key", "worth"] [2] ["key", "worth", "held"] (SW.CompScopeN.of rfl rfl (by decide +kernel) (by decide +kernel) ⟨rfl, trivial⟩ rfl rfl rfl) (B.itup (B.ix ix_tup (B.v 1) B.int)) (fun _ _ _ _ => (B.gtupK K (n := 2) (B.gcons (B.gname (i := 0) (show (["key", "worth", "held"] : List Str).Nodup by decide +kernel)) (B.gcons (B.gname (i := 1) (show (["key", "worth", "held"] : List Str).Nodup by decide +kernel)) B.gnil)))) (fun _ _ _ _ => (B.tw (B.wor (B.tdnotin (hu_of hr) (B.v 0) (B.v 2)) (B.wor1 (B.tcmp op_ne (SW.B.dget (hu_of hr) (B.v 2) (B.v 0)) (B.v 1)))))) (fun _ _ _ _ => (B.v 0))) (B.lst B.nil)) (B.sone (B.ret B.bl)) B.snil)
      (B.sone (B.ret (B.or (B.cmp op_ne (B.ix ix_tup (B.v 1) B.int) B.int) (B.one (B.cmp (op_eqD K hr.units) (B.fn F_law_missing (hr.mono (by first | decide | omega)) (B.cons (B.v 0) (B.cons (B.v 1) B.nil))) (B.lst B.nil)))))))))))))), ?_⟩
    walk_at "W"
    refine wHeld hs ht hl fun a H1 _ s1 ha => ?_
    rw [← hw] at ha
    have hs1 := s1 _ _ hs
    have ht1 := ht.keep fun a xs e => s1 _ _ e
    have hv1 := hv.keep fun a xs e => s1 _ _ e
    cases th with
    | put kk y t =>
      obtain ⟨u, rfl, hu⟩ := hv1
      walk_at "W"
      refine ⟨rfl, ?_⟩
      walk_at "W"
      refine iteNN (str_ne (by decide +kernel)) ?_
      walk_at "W"
      refine ⟨a, rfl, .inl ⟨_, .inl ha⟩, ?_⟩
      walk_at "W"
      refine ⟨_, DGet.k (k := Sum.inl kk) ha, ?_⟩
      rw [oV_getD]
      refine ⟨oV_scal _ _, ?_⟩
      rw [oV_inj]
      exact k _ s1
    | look kk t =>
      obtain ⟨u, rfl, hu⟩ := hv1
      walk_at "W"
      refine ⟨rfl, ?_⟩
      walk_at "W"
      refine iteNN (str_ne (by decide +kernel)) ?_
      walk_at "W"
      refine ⟨a, rfl, .inl ⟨_, .inl ha⟩, ?_⟩
      walk_at "W"
      refine ⟨_, DGet.k (k := Sum.inl kk) ha, ?_⟩
      rw [oV_getD]
      refine ⟨oV_scal _ _, ?_⟩
      rw [oV_inj]
      exact k _ s1
    | cut kk t =>
      obtain ⟨u, rfl, hu⟩ := hv1
      walk_at "W"
      refine ⟨rfl, ?_⟩
      walk_at "W"
      refine iteNN (str_ne (by decide +kernel)) ?_
      walk_at "W"
      refine ⟨a, rfl, .inl ⟨_, .inl ha⟩, ?_⟩
      walk_at "W"
      refine ⟨_, DGet.k (k := Sum.inl kk) ha, ?_⟩
      rw [oV_getD]
      refine ⟨oV_scal _ _, ?_⟩
      rw [oV_inj]
      exact k _ s1
    | step c b ps =>
      have O := oinv hfw
      obtain ⟨u, q, ys, rfl, hu, hq, hps⟩ := hv1
      have hf : ps.length ≤ 1000 := hf
      have hyl := hps.len
      obtain ⟨L, hL⟩ : ∃ L, L = runL L0 ths := ⟨_, rfl⟩
      rw [← hL] at ha O k
      walk_at "W"
      refine ⟨rfl, ?_⟩
      walk_at "W"
      refine iteNS rfl ?_
      walk_at "W"
      refine ⟨s, rfl, ⟨_, SqL.of hs1⟩, fun D hD => ?_⟩
      refine comp_list (xs := xs) (fun i σ' H' => ∃ (v : Option V) (zs : List V), σ' = [v] ∧ Same H1 H' ∧ H' D = some (.lst zs) ∧ ThVs H' zs ((ths.take i).filter isStp) ∧ zs.length ≤ i) ⟨none, [], rfl, Same.new hD, upd_same, .nil, Nat.le_refl _⟩ (fun i σ' H' _ ⟨_, _, _, s', _⟩ => SqL.of (s' _ _ hs1)) ?_ ?_
      · rintro i x σ' H' hx hi ⟨v, zs, rfl, s', hD', hz, hzl⟩
        first | (have zz_ := paired_get ht1 hx; have th := zz_.1; have hth := zz_.2.1; have hxt := zz_.2.2; clear zz_) | obtain ⟨th, hth, hxt⟩ := paired_get ht1 hx
        have hv' := hxt.keep fun a xs e => s' _ _ e
        have hts := take_snoc hth
        have no : isStp th = false → ∀ x, CO (fun i σ' H' => ∃ (v : Option V) (zs : List V), σ' = [v] ∧ Same H1 H' ∧ H' D = some (.lst zs) ∧ ThVs H' zs ((ths.take i).filter isStp) ∧ zs.length ≤ i) xs.length i [some x] H' := fun e x =>
          CO.mk hi ⟨_, zs, rfl, s', hD', by rw [hts, List.filter_append, List.filter_cons, e, if_neg Bool.false_ne_true, List.filter_nil, List.append_nil]; exact hz, Nat.le_succ_of_le hzl⟩
        cases th with
        | step c1 b1 p1 =>
          have hvv := hv'
          obtain ⟨u1, q1, y1, rfl, hu1, _⟩ := hv'
          walk_at "W"
          refine ⟨rfl, ?_⟩
          walk_at "W"
          refine iteY rfl ?_
          walk_at "W"
          have tk : TK H' (upd H' D (.lst (zs ++ [V.ref u1]))) := fun a xs e => by rw [upd_ne (ne_of e hD' (by intro z; cases z))]; exact e
          refine CN.mk hi hD' (by omega) ⟨_, zs ++ [V.ref u1], rfl, fun b o e => by rw [upd_ne (ne_of_none e hD)]; exact s' _ _ e, upd_same, ?_, by rw [List.length_append]; exact Nat.succ_le_succ hzl⟩
          rw [hts, List.filter_append, List.filter_cons, show isStp (Thing.step c1 b1 p1) = true from rfl, if_pos rfl, List.filter_nil]
          exact paired_append (.cons (hvv.keep tk) .nil) (hz.keep tk)
        | put k1 w1 t1 =>
          obtain ⟨u1, rfl, hu1⟩ := hv'
          walk_at "W"
          refine ⟨rfl, ?_⟩
          walk_at "W"
          refine iteNo (str_ne (by decide +kernel)) ?_
          exact no rfl _
        | look k1 t1 =>
          obtain ⟨u1, rfl, hu1⟩ := hv'
          walk_at "W"
          refine ⟨rfl, ?_⟩
          walk_at "W"
          refine iteNo (str_ne (by decide +kernel)) ?_
          exact no rfl _
        | cut k1 t1 =>
          obtain ⟨u1, rfl, hu1⟩ := hv'
          walk_at "W"
          refine ⟨rfl, ?_⟩
          walk_at "W"
          refine iteNo (str_ne (by decide +kernel)) ?_
          exact no rfl _
      · rintro σ' H2 ⟨v, zs, rfl, s2, hD2, hz, hzl⟩
        rw [hxl, List.take_length] at hz
        walk_at "W"
        refine ⟨by show (0 : Nat) ≤ sizeLine; decide, fun e0 he0 => ?_⟩
        have a3 := Same.new (o := .lst []) he0
        have s13 := s2.trans a3
        have ha3 := s13 _ _ ha
        have hu3 := s13 _ _ hu
        have hq3 := s13 _ _ hq
        have hps3 := hps.keep fun a xs e => s13 _ _ e
        have hs3 := s13 _ _ hs1
        have ht3 := ht1.keep fun a xs e => s13 _ _ e
        have hD3 := a3 _ _ hD2
        have hz3 := hz.keep fun a xs e => a3 _ _ e
        have s03 := s1.trans s13
        refine wNeNil (SqL.of hD3) hz3.dat (SqL.of upd_same) (ths_lay _) (ths_deep _) ?_
        obtain ⟨H3, hH3⟩ : ∃ H3, H3 = upd H2 e0 (.lst []) := ⟨_, rfl⟩
        rw [← hH3] at a3 s13 ha3 hu3 hq3 hps3 hs3 ht3 hD3 hz3 s03 ⊢
        clear hH3
        rw [List.isEmpty_map]
        walk_at "W"
        rename_i N1 hN1
        have rest : N1 [some (.ref s), some (.ref u), some (.ref a), some (.ref D), some (.int L.c)] H3 := by
          have yes : ∀ H', Same H H' → ∀ x, agr L (.step c b ps) = x → Q (.bl x) H' := fun H' s' x e => by rw [← e]; exact k H' s'
          refine SW.wGo hN1 ?_
          walk_at "W"
          by_cases hc : c = L.c
          · refine iteNS (by rw [hc]) ?_
            walk_at "W"
            rename_i N2 hN2
            have rest2 : mayF b c = true → N2 [some (.ref s), some (.ref u), some (.ref a), some (.ref D), some (.int L.c)] H3 := by
              intro hm
              refine SW.wGo hN2 ?_
              walk_at "W"
              refine ⟨q, rfl, ⟨_, SqT.of hq3⟩, fun D4 hD4 => ?_⟩
              refine compN_tup (tt := fun _ H Q => Q true H) (xs := ys) (fun i σ' H' => (∃ v0 v1, σ' = [v0, v1]) ∧ Same H3 H' ∧ H' D4 = some (.lst (((ps.take i).map (·.1)).map V.int))) ⟨⟨none, none, rfl⟩, Same.new hD4, upd_same⟩ (fun i σ' H' _ ⟨_, s', _⟩ => SqT.of (s' _ _ hq3)) ?_ ?_
              · rintro i x σ' H' hx hi ⟨⟨v0, v1, rfl⟩, s', hD'⟩
                obtain ⟨⟨k1, y1⟩, hpp, a, rfl, ha⟩ := paired_get hps3 hx
                have ha' := s' _ _ ha
                refine ⟨a, _, rfl, SqT.of ha', rfl, _, _, rfl, ?_⟩
                walk_at "W"
                refine ⟨_, _, rfl, ?_⟩
                walk_at "W"
                refine ⟨rfl, ?_⟩
                refine iteT ?_
                walk_at "W"
                refine CN.mk hi hD' (by rw [List.length_map, List.length_map, List.length_take]; omega) ⟨⟨_, _, rfl⟩, fun b o e => by rw [upd_ne (ne_of_none e hD4)]; exact s' _ _ e, ?_⟩
                rw [upd_same, take_snoc hpp, List.map_append, List.map_append]; rfl
              · rintro σ' H5 ⟨⟨v0, v1, rfl⟩, s5, hD5⟩
                rw [hyl, List.take_length] at hD5
                walk_at "W"
                refine ⟨D4, ps.map (·.1), rfl, SqL.of hD5, by rw [List.length_map]; omega, rfl, fun sa S hsa => ?_⟩
                have a6 := Same.new (o := .set S (nDist (ps.map (·.1)))) hsa
                have s36 := s5.trans a6
                have hu6 := s36 _ _ hu3
                have hq6 := s36 _ _ hq3
                walk_at "W"
                refine ⟨sa, S, _, rfl, upd_same, ?_⟩
                walk_at "W"
                refine SW.iLen (.inr (SqT.of hq6)) ?_
                walk_at "W"
                rw [hyl]
                have hle := nDist_le (ps.map (·.1))
                rw [List.length_map] at hle
                refine ite2 (fun hlt => ?_) (fun hge => ?_)
                · have hlt : ((nDist (ps.map (·.1)) : Nat) : Int) < (ps.length : Nat) := of_decide_eq_true hlt
                  walk_at "W"
                  refine yes _ (s03.trans s36) _ (agr_no3 (hasAll_no fun z => ?_))
                  have := (nDist_iff _).mpr z.1
                  rw [List.length_map] at this
                  omega
                · have hnd : (ps.map (·.1)).Nodup := by
                    refine (nDist_iff _).mp ?_
                    rw [List.length_map]
                    have : ¬ ((nDist (ps.map (·.1)) : Nat) : Int) < (ps.length : Nat) := fun z => hge (decide_eq_true z)
                    omega
                  have ha6 := s36 _ _ ha3
                  have hps6 := hps3.keep fun a xs e => s36 _ _ e
                  obtain ⟨H6, hH6⟩ : ∃ H6, H6 = upd H5 sa (.set S (nDist (ps.map (·.1)))) := ⟨_, rfl⟩
                  have s06 := s03.trans s36
                  rw [← hH6] at hu6 hq6 ha6 hps6 s06 ⊢
                  clear hH6
                  walk_at "W"
                  refine ⟨q, rfl, ⟨_, SqT.of hq6⟩, fun D7 hD7 => ?_⟩
                  refine compN_tup (xs := ys) (fun i σ' H' => (∃ v0 v1, σ' = [v0, v1, some (.ref a)]) ∧ Same H6 H' ∧ H' D7 = some (.lst ((((ps.take i).filter fun p => decide (rLook L.w p.1 ≠ some p.2)).map (·.1)).map V.int))) ⟨⟨none, none, rfl⟩, Same.new hD7, upd_same⟩ (fun i σ' H' _ ⟨_, s', _⟩ => SqT.of (s' _ _ hq6)) ?_ ?_
                  · rintro i x σ' H' hx hi ⟨⟨v0, v1, rfl⟩, s', hD'⟩
                    obtain ⟨⟨k1, y1⟩, hpp, a1, rfl, ha1⟩ := paired_get hps6 hx
                    have ha1' := s' _ _ ha1
                    have ha' := s' _ _ ha6
                    have hts := take_snoc hpp
                    have bad : rLook L.w k1 ≠ some y1 → CN (fun i σ' H' => (∃ v0 v1, σ' = [v0, v1, some (.ref a)]) ∧ Same H6 H' ∧ H' D7 = some (.lst ((((ps.take i).filter fun p => decide (rLook L.w p.1 ≠ some p.2)).map (·.1)).map V.int))) ys.length i D7 [some (.int k1), some (.int y1), some (.ref a)] (V.int k1) H' := fun e => by
                      refine CN.mk hi hD' ?_ ⟨⟨_, _, rfl⟩, fun b o e => by rw [upd_ne (ne_of_none e hD7)]; exact s' _ _ e, ?_⟩
                      · rw [List.length_map, List.length_map]
                        refine Nat.lt_of_le_of_lt (List.length_filter_le ..) ?_
                        rw [List.length_take]; omega
                      · rw [upd_same, hts, List.filter_append, List.filter_cons, show decide (rLook L.w ((k1, y1) : Int × Int).1 ≠ some ((k1, y1) : Int × Int).2) = true from decide_eq_true e, if_pos rfl, List.filter_nil, List.map_append, List.map_append]; rfl
                    refine ⟨a1, _, rfl, SqT.of ha1', rfl, _, _, rfl, ?_⟩
                    walk_at "W"
                    refine ⟨_, _, rfl, ?_⟩
                    walk_at "W"
                    refine ⟨rfl, ?_⟩
                    walk_at "W"
                    refine ⟨a, _, rfl, DGet.k (k := Sum.inl k1) ha', ?_⟩
                    walk_at "W"
                    rw [valV_kvs]
                    cases e : rLook L.w k1 with
                    | none =>
                      refine iteT ?_
                      refine iteT ?_
                      walk_at "W"
                      exact bad (by rw [e]; intro z; cases z)
                    | some y2 =>
                      refine iteF ?_
                      walk_at "W"
                      refine ⟨a, V.int y2, rfl, ?_, ?_⟩
                      · have z := DGet.k (k := Sum.inl k1) ha'
                        rw [valV_kvs, e] at z
                        exact z
                      walk_at "W"
                      by_cases hy : y2 = y1
                      · refine iteNS (by rw [hy]) ?_
                        refine CO.mk hi ⟨⟨_, _, rfl⟩, s', ?_⟩
                        rw [hD', hts, List.filter_append, List.filter_cons, show decide (rLook L.w ((k1, y1) : Int × Int).1 ≠ some ((k1, y1) : Int × Int).2) = false from decide_eq_false (fun z => z (by show rLook L.w k1 = some y1; rw [e, hy])), if_neg Bool.false_ne_true, List.filter_nil, List.append_nil]
                      · refine iteNN (fun z => hy (by injection z)) ?_
                        walk_at "W"
                        exact bad (by rw [e]; intro z; injection z with z; exact hy z)
                  · rintro σ' H8 ⟨⟨v0, v1, rfl⟩, s8, hD8⟩
                    rw [hyl, List.take_length] at hD8
                    walk_at "W"
                    refine ⟨by show (0 : Nat) ≤ sizeLine; decide, fun e9 he9 => ?_⟩
                    have a9 := Same.new (o := .lst []) he9
                    refine wNeNil (SqL.of (a9 _ _ hD8)) (ints_dat _) (SqL.of upd_same) (ints_lay _) (ints_deep _) ?_
                    rw [List.isEmpty_map, List.isEmpty_map]
                    have s69 := s8.trans a9
                    have s09 := s06.trans s69
                    have hu9 := s69 _ _ hu6
                    have hq9 := s69 _ _ hq6
                    walk_at "W"
                    cases hem : (ps.filter fun p => decide (rLook L.w p.1 ≠ some p.2)) with
                    | cons p1 pr =>
                      refine iteT ?_
                      walk_at "W"
                      refine yes _ s09 _ (agr_no3 (hasAll_no fun z => ?_))
                      have hm1 : p1 ∈ ps.filter fun p => decide (rLook L.w p.1 ≠ some p.2) := by rw [hem]; exact List.mem_cons_self ..
                      first | (have zz_ := List.mem_filter.mp hm1; have h1 := zz_.1; have h2 := zz_.2; clear zz_) | obtain ⟨h1, h2⟩ := List.mem_filter.mp hm1
                      exact of_decide_eq_true h2 (z.2 p1 h1)
                    | nil =>
                      have hall : hasAll L.w ps = true := hasAll_iff.mpr ⟨hnd, fun p hp => by
                        by_cases z : rLook L.w p.1 = some p.2
                        · exact z
                        · have this : p ∈ ps.filter fun p => decide (rLook L.w p.1 ≠ some p.2) := List.mem_filter.mpr ⟨hp, decide_eq_true z⟩
                          rw [hem] at this
                          cases this⟩
                      have hag := agr_yes (L := L) (ps := ps) hc hm hall
                      refine iteF ?_
                      walk_at "W"
                      by_cases hb : b = 0
                      · refine iteNS (by rw [hb]) ?_
                        walk_at "W"
                        refine wMissing (s09 _ _ hs) (ht.keep fun a xs e => s09 _ _ e) hl hfit hu9 hq9 (hps6.keep fun a xs e => s69 _ _ e) hf (fun z y => z (hc.trans (O.nb y))) fun ml H10 s10 hml => ?_
                        walk_at "W"
                        refine ⟨by show (0 : Nat) ≤ sizeLine; decide, fun e11 he11 => ?_⟩
                        have a11 := Same.new (o := .lst []) he11
                        refine wEqNil (SqL.of (a11 _ _ hml)) (ints_dat _) (SqL.of upd_same) (ints_lay _) (ints_deep _) ?_
                        rw [List.isEmpty_map, miss_empty hfw (by rw [← hL]; exact hc), ← hL]
                        refine yes _ (s09.trans (s10.trans a11)) _ ?_
                        rw [hag, decide_eq_false (fun z => z hb), Bool.false_or]
                      · refine iteNN (fun z => hb (by injection z)) ?_
                        refine yes _ s09 _ ?_
                        rw [hag, decide_eq_true hb, Bool.true_or]
            clear hN2
            by_cases hb : b = 0
            · refine iteNS (by rw [hb]) ?_
              refine iteF ?_
              walk_at "W"
              exact rest2 (by unfold mayF; rw [decide_eq_true hb]; rfl)
            · refine iteNN (fun z => hb (by injection z)) ?_
              walk_at "W"
              by_cases h1 : L.c < b
              · refine iteY h1 ?_
                walk_at "W"
                by_cases h2 : b ≤ 65535
                · refine iteNS h2 ?_
                  walk_at "W"
                  refine rest2 ?_
                  unfold mayF
                  have := O.c0
                  rw [decide_eq_true (show 0 ≤ b ∧ b ≤ 65535 from ⟨by omega, h2⟩), decide_eq_true (show c < b by rw [hc]; exact h1), Bool.and_self, Bool.or_true]
                · refine iteNN h2 ?_
                  walk_at "W"
                  refine yes _ s03 _ (agr_no2 ?_)
                  unfold mayF
                  rw [decide_eq_false hb, decide_eq_false (show ¬ (0 ≤ b ∧ b ≤ 65535) from fun z => h2 z.2)]; rfl
              · refine iteNo h1 ?_
                walk_at "W"
                refine iteT ?_
                walk_at "W"
                refine yes _ s03 _ (agr_no2 ?_)
                unfold mayF
                rw [decide_eq_false hb, show decide (c < b) = false from decide_eq_false (by rw [hc]; exact h1), Bool.and_false]; rfl
          · refine iteNN (fun z => hc (by injection z)) ?_
            refine iteT ?_
            walk_at "W"
            exact yes _ s03 _ (agr_no1 hc)
        clear hN1
        have hcur := O.c
        unfold curT at hcur
        cases hem : (ths.filter isStp).getLast? with
        | none =>
          rw [hem] at hcur
          rw [List.getLast?_eq_none_iff.mp hem]
          refine iteF ?_
          walk_at "W"
          have hcur : L.c = 0 := hcur
          rw [hcur] at rest
          exact rest
        | some t =>
          rw [hem] at hcur
          first | (have zz_ := List.getLast?_eq_some_iff.mp hem; have fs := zz_.1; have hfs := zz_.2; clear zz_) | obtain ⟨fs, hfs⟩ := List.getLast?_eq_some_iff.mp hem
          have htm : isStp t = true := (List.mem_filter.mp (getLast_mem hem)).2
          rw [hfs] at hz3 ⊢
          first | (have zz_ := paired_last hz3; have zs' := zz_.1; have z := zz_.2.1; have ez := zz_.2.2.1; have hzt := zz_.2.2.2; clear zz_) | obtain ⟨zs', z, ez, hzt⟩ := paired_last hz3
          rw [ez] at hD3
          rw [show (fs ++ [t]).isEmpty = false by cases fs <;> rfl]
          refine iteT ?_
          walk_at "W"
          refine wIxL hD3 (L2.atI_last _ _) ?_
          cases t with
          | step c1 b1 p1 =>
            obtain ⟨u1, q1, y1, rfl, hu1, _⟩ := hzt
            walk_at "W"
            have hcur : L.c = b1 := hcur
            rw [hcur] at rest
            exact rest
          | put _ _ _ => cases htm
          | look _ _ => cases htm
          | cut _ _ => cases htm
end

theorem Drawn.fit {n m : Nat} {t : Thing} (h : Drawn n m t) (hm : m ≤ 1000) : Fit t := by
  cases t with
  | put a b c => exact trivial
  | look a b => exact trivial
  | cut a b => exact trivial
  | step a b c => exact Nat.le_trans h.2 hm
theorem wStory {H : Hp} {Q : VK} {E : XK} {p : Addr} {most : Int} (m0 : 0 ≤ most) (m1 : most ≤ 40) (h1 : Pot H p)
    (k : ∀ s xs ths H', H s = none → H' s = some (.lst xs) → ThVs H' xs ths → ths.length ≤ 40 → (∀ t ∈ ths, Drawn 0 64 t) → fw L0 ths = none → Pot H' p → KeepBut p H H' → Q (.ref s) H') : spStory ([.ref p, .int most] ++ []) H Q E := ⟨p, most, rfl, m0, m1, h1, k⟩
theorem fw_one_t {L : LS} {th : Thing} (a : agr L th = true) : fw L [th] = none := by
  show (if agr L th = true then (fw (nextL L th) []).map (· + 1) else some 0) = none
  rw [if_pos a]; rfl
theorem fw_one_f {L : LS} {th : Thing} (a : agr L th = false) : fw L [th] = some 0 := by
  show (if agr L th = true then (fw (nextL L th) []).map (· + 1) else some 0) = some 0
  rw [a, if_neg Bool.false_ne_true]
theorem fw_at {ths : List Thing} {i : Nat} {th : Thing} (h : fw L0 (ths.take i) = none) (ht : ths[i]? = some th) (a : agr (runL L0 (ths.take i)) th = true) : fw L0 (ths.take (i + 1)) = none := by
  rw [take_snoc ht, fw_none_append _ _ _ h, fw_one_t a]; rfl
theorem fw_bad {ths : List Thing} {i : Nat} {th : Thing} (h : fw L0 (ths.take i) = none) (ht : ths[i]? = some th) (a : agr (runL L0 (ths.take i)) th = false) : fw L0 ths = some i := by
  have hi : i < ths.length := (List.getElem?_eq_some_iff.mp ht).1
  have e : ths = (ths.take i ++ [th]) ++ ths.drop (i + 1) := by rw [← take_snoc ht, List.take_append_drop]
  have h1 : fw L0 (ths.take i ++ [th]) = some i := by
    rw [fw_none_append _ _ _ h, fw_one_f a]
    show some (0 + (ths.take i).length) = some i
    rw [List.length_take]
    congr 1
    omega
  rw [e]
  exact fw_some_append _ _ _ _ h1
noncomputable def spFirst : Sp := fun vs H Q _ => ∃ (s : Addr) (xs : List V) (ths : List Thing), vs = [.ref s] ∧ H s = some (.lst xs) ∧ ThVs H xs ths ∧ ths.length ≤ 500 ∧ (∀ t ∈ ths, Fit t) ∧ ∀ H', Same H H' → Q (oN (fw L0 ths)) H'
theorem wFirst {H : Hp} {Q : VK} {E : XK} {s : Addr} {xs : List V} {ths : List Thing} (h1 : H s = some (.lst xs)) (h2 : ThVs H xs ths) (h3 : ths.length ≤ 500) (h4 : ∀ t ∈ ths, Fit t) (k : ∀ H', Same H H' → Q (oN (fw L0 ths)) H') : spFirst ([.ref s] ++ []) H Q E := ⟨s, xs, ths, rfl, h1, h2, h3, h4, k⟩
noncomputable def spToldL : Sp := fun vs H Q _ => ∃ (s : Addr) (xs : List V) (ths : List Thing), vs = [.ref s] ∧ H s = some (.lst xs) ∧ ThVs H xs ths ∧ ths.length ≤ 500 ∧ (∀ t ∈ ths, Fit t) ∧ ∀ H', Same H H' → Q (.bl true) H'
theorem wToldL {H : Hp} {Q : VK} {E : XK} {s : Addr} {xs : List V} {ths : List Thing} (h1 : H s = some (.lst xs)) (h2 : ThVs H xs ths) (h3 : ths.length ≤ 500) (h4 : ∀ t ∈ ths, Fit t) (k : ∀ H', Same H H' → Q (.bl true) H') : spToldL ([.ref s] ++ []) H Q E := ⟨s, xs, ths, rfl, h1, h2, h3, h4, k⟩
section
variable {P : Program} {w : World} {K : PySem.W.Frag} {mg : Str → Option Value} {base : Heap} {C : Addr}
theorem F_lfirst (d : Dfn K mg "_law_first" s_law_first ["story"]) (g : Gs K mg C) (F_law_fits : Fn P w K mg base "_law_fits" 3 ["ahead", "row"] spFits) : Fn P w K mg base "_law_first" 4 ["story"] spFirst := by
  refine d.fn sc_law_first (fun vs H Q E h => ?_) (fun f cdv A outer st H vs Q E hr h => ?_)
  · obtain ⟨s, xs, ths, rfl, _⟩ := h
    rfl
  · obtain ⟨s, xs, ths, rfl, hs, ht, hl, hfit, k⟩ := h
    have hxl := paired_len ht
    refine ⟨_, (B.scons (B.fors (B.irange g.b_range (B.cons (B.cB call_len_seq g.b_len SW.b_len (B.cons (B.v 0) B.nil)) B.nil)) (B.gname (i := 1) sc_law_first.nd) (B.sone (B.ifs (B.tnot (B.tval (B.fn F_law_fits (hr.mono (by first | decide | omega)) (B.cons (B.slice sl_list (B.v 0) B.nopart (B.part (B.v 1))) (B.cons (B.ix ix_list (B.v 0) (B.v 1)) B.nil))))) (B.sone (B.ret (B.v 1))) B.snil)))
      (B.sone (B.ret B.non))), ?_⟩
    walk_at "W"
    refine SW.iLen (.inl (SqL.of hs)) ?_
    walk_at "W"
    refine ⟨((xs.length : Nat) : Int), rfl, by omega, by omega, ?_⟩
    refine SW.forRangeC (fun i σ H' => ∃ v1 : Option V, σ = [some (.ref s), v1] ∧ Same H H' ∧ fw L0 (ths.take i) = none) ⟨none, rfl, Same.refl _, by rw [List.take_zero]; rfl⟩ ?_ ?_
    · rintro i σ H' hi ⟨v1, rfl, s', hn⟩
      have hi' : i < xs.length := by
        have : i < ((xs.length : Nat) : Int).toNat := hi
        omega
      have hs' := s' _ _ hs
      have ht' := ht.keep fun a xs e => s' _ _ e
      have hxi : xs[i]? = some xs[i] := List.getElem?_eq_getElem hi'
      first | (have zz_ := paired_get ht' hxi; have th := zz_.1; have hth := zz_.2.1; have hx := zz_.2.2; clear zz_) | obtain ⟨th, hth, hx⟩ := paired_get ht' hxi
      walk_at "W"
      refine ⟨0 + (i : Int), rfl, s, xs, rfl, SqL.of hs', fun l2 h2 => ?_⟩
      rw [Int.zero_add, cut_leA (Nat.le_of_lt hi')]
      have s3 := Same.new (o := .lst (xs.take i)) h2
      walk_at "W"
      refine wIxL (s3 _ _ hs') (atI_nat hxi) ?_
      walk_at "W"
      refine wFits upd_same (ThVs.keep (paired_take i ht') fun a xs e => s3 _ _ e) (by rw [List.length_take]; omega) (fun t h => hfit t (List.mem_of_mem_take h)) (hx.keep fun a xs e => s3 _ _ e) (hfit th (List.mem_of_getElem? hth)) hn fun H4 s4 => ?_
      have s04 := s'.trans (s3.trans s4)
      walk_at "W"
      cases e : agr (runL L0 (ths.take i)) th with
      | true =>
        refine iteF ?_
        walk_at "W"
        exact ⟨_, rfl, s04, fw_at hn hth e⟩
      | false =>
        refine iteT ?_
        walk_at "W"
        have k' := k _ s04
        rw [fw_bad hn hth e] at k'
        exact k'
    · rintro σ H' ⟨v1, rfl, s', hn⟩
      rw [show ((xs.length : Nat) : Int).toNat = ths.length by rw [Int.toNat_natCast, hxl], List.take_length] at hn
      walk_at "W"
      have k' := k _ s'
      rw [hn] at k'
      exact k'
theorem F_ltold (d : Dfn K mg "_law_told" s_law_told ["story"]) (g : Gs K mg C) (F_first_wrong : Fn P w K mg base "first_wrong" 6 ["story"] spFW) (F_law_first : Fn P w K mg base "_law_first" 4 ["story"] spFirst) : Fn P w K mg base "_law_told" 7 ["story"] spToldL := by
  refine d.fn sc_law_told (fun vs H Q E h => ?_) (fun f cdv A outer st H vs Q E hr h => ?_)
  · obtain ⟨s, xs, ths, rfl, _⟩ := h
    rfl
  · obtain ⟨s, xs, ths, rfl, hs, ht, hl, hfit, k⟩ := h
    refine ⟨_, (B.scons (B.set 1 sc_law_told.nd (B.cT call_list_of g.b_list SW.b_list (B.cons (B.v 0) B.nil)))
      (B.scons (B.set 2 sc_law_told.nd (B.fn F_first_wrong (hr.mono (by first | decide | omega)) (B.cons (B.v 1) B.nil)))
      (B.scons (B.set 3 sc_law_told.nd (B.fn F_law_first (hr.mono (by first | decide | omega)) (B.cons (B.v 0) B.nil)))
      (B.scons (B.ifs (B.tcmp (op_neD K hr.units) (B.v 1) (B.v 0)) (B.sone (B.ret B.bl)) B.snil)
      (B.scons (B.ifs (B.tcmp op_isN (B.v 3) B.non) (B.sone (B.ret (B.cmp op_isN (B.v 2) B.non))) B.snil)
      (B.sone (B.ret (B.and (B.cB SW.call_isi g.b_isinstance SW.b_isinstance (B.cons (B.v 2) (B.cons (B.ty g.b_int SW.b_int) B.nil))) (B.and (B.not (B.cB SW.call_isi g.b_isinstance SW.b_isinstance (B.cons (B.v 2) (B.cons (B.ty g.b_bool SW.b_bool) B.nil)))) (B.one (B.cmp op_eq (B.v 2) (B.v 3)))))))))))), ?_⟩
    walk_at "W"
    refine ⟨s, xs, rfl, .inl (SqL.of hs), fun l1 h1 => ?_⟩
    have s1 := Same.new (o := .lst xs) h1
    walk_at "W"
    refine wFW upd_same (ht.keep fun a xs e => s1 _ _ e) hl hfit fun H2 s2 => ?_
    have s02 := s1.trans s2
    have el := s2 _ _ (upd_same (H := H) (a := l1) (o := .lst xs))
    walk_at "W"
    refine wFirst (s02 _ _ hs) (ht.keep fun a xs e => s02 _ _ e) hl hfit fun H3 s3 => ?_
    have s03 := s02.trans s3
    have hd := (ht.keep fun a xs e => s03 _ _ e).dat (K := K)
    walk_at "W"
    refine wNeSame (d := .list (ths.map thD)) (.lst (SqL.of (s3 _ _ el)) hd) (.lst (SqL.of (s03 _ _ hs)) hd) (ths_lay _) (ths_deep _) ?_
    walk_at "W"
    refine iteF ?_
    walk_at "W"
    cases fw L0 ths with
    | none =>
      refine ⟨rfl, ?_⟩
      walk_at "W"
      refine iteY rfl ?_
      walk_at "W"
      refine ⟨rfl, ?_⟩
      exact k _ s03
    | some n =>
      refine ⟨rfl, ?_⟩
      walk_at "W"
      refine iteNo (fun z => nomatch z) ?_
      walk_at "W"
      refine SW.iIsi (.int n) isi_int_int ?_
      walk_at "W"
      refine iteT ?_
      walk_at "W"
      refine SW.iIsi (.int n) isi_int_bool ?_
      walk_at "W"
      refine iteT ?_
      walk_at "W"
      refine ⟨rfl, ?_⟩
      rw [decide_eq_true rfl]
      exact k _ s03
theorem ok_law {f : Addr} {fd : FuncData} (F : Fun K "law" "law" s_law f fd) (g : Gs K mg C)
    (F_is_whole : Fn P w K mg base "is_whole" 1 ["thing"] spWhole) (F_is_point : Fn P w K mg base "is_point" 2 ["thing"] spIsP) (K_Listener : Mkr P w K mg base C "Listener" 1 ["self"] (spLInit C)) (F_may_follow : Fn P w K mg base "may_follow" 3 ["following", "cursor"] spMayF)
    (M_Listener_has_all : Mt P w K mg base C "has_all" 1 ["self", "pairs"] (spHasAll C)) (M_Listener_agrees_to_step : Mt P w K mg base C "agrees_to_step" 4 ["self", "cursor", "following", "pairs"] (spStepA C)) (M_Listener_agrees_to_deed : Mt P w K mg base C "agrees_to_deed" 1 ["self", "thing"] (spDeedA C)) (M_Listener_agrees : Mt P w K mg base C "agrees" 5 ["self", "thing"] (spAgrees C))
    (F_first_wrong : Fn P w K mg base "first_wrong" 6 ["story"] spFW)
    (F_law_mixed : Fn P w K mg base "_law_mixed" 1 ["cell", "k"] spMixedP) (F_law_pot : Fn P w K mg base "_law_pot" 1 ["cell"] spPotP) (F_law_take : Fn P w K mg base "_law_take" 2 ["pot", "many"] spTakeP) (F_law_worth : Fn P w K mg base "_law_worth" 3 ["pot"] spWorthP) (F_law_plain_done : Fn P w K mg base "_law_plain_done" 1 ["plain", "deed"] spPlain)
    (F_law_deed_told : Fn P w K mg base "_law_deed_told" 4 ["pot", "plain"] spDeedTold) (F_law_step_told : Fn P w K mg base "_law_step_told" 3 ["pot", "plain", "walk"] spStepTold) (F_law_story : Fn P w K mg base "_law_story" 5 ["pot", "most"] spStory)
    (F_law_bent_step : Fn P w K mg base "_law_bent_step" 3 ["pot", "row"] spBentStep) (F_law_bent : Fn P w K mg base "_law_bent" 4 ["pot", "story"] spBent) (F_law_held : Fn P w K mg base "_law_held" 1 ["rows"] spHeld) (F_law_missing : Fn P w K mg base "_law_missing" 2 ["ahead", "row"] spMissing) (F_law_fits : Fn P w K mg base "_law_fits" 3 ["ahead", "row"] spFits)
    (F_law_first : Fn P w K mg base "_law_first" 4 ["story"] spFirst) (F_law_told : Fn P w K mg base "_law_told" 7 ["story"] spToldL) :
    FnOk P w K mg base CX0 8 f fd ["script"] (spLaw K) := by
  refine fun_bx F sc_law (fun vs H Q E h => ?_) (fun cdv A outer st H vs Q E hr h => ?_)
  · obtain ⟨a, ns, rfl, _⟩ := h
    rfl
  · obtain ⟨a, ns, rfl, hS, hlen, k⟩ := h
    refine ⟨_, (B.scons (B.fors (B.ilist (B.op op_cat (B.slice sl_list (B.v 0) B.nopart (B.part B.int)) (B.lst (B.cons (B.cB call_len_seq g.b_len SW.b_len (B.cons (B.v 0) B.nil)) B.nil)))) (B.gname (i := 1) sc_law.nd) (B.scons (B.set 2 sc_law.nd (B.fn F_law_pot (hr.mono (by first | decide | omega)) (B.cons (B.v 1) B.nil)))
      (B.scons (B.set 3 sc_law.nd (B.fn F_law_story (hr.mono (by first | decide | omega)) (B.cons (B.v 2) (B.cons B.int B.nil))))
      (B.scons (B.ifs (B.tw (B.wor (B.tcmp op_notN (B.fn F_first_wrong (hr.mono (by first | decide | omega)) (B.cons (B.cT call_list_of g.b_list SW.b_list (B.cons (B.v 3) B.nil)) B.nil)) B.non) (B.wor1 (B.tnot (B.tval (B.fn F_law_told (hr.mono (by first | decide | omega)) (B.cons (B.v 3) B.nil))))))) (B.sone (B.ret B.bl)) B.snil)
      (B.scons (B.set 4 sc_law.nd (B.fn F_law_bent (hr.mono (by first | decide | omega)) (B.cons (B.v 2) (B.cons (B.v 3) B.nil))))
      (B.sone (B.ifs (B.tw (B.wor (B.tnot (B.tval (B.fn F_law_told (hr.mono (by first | decide | omega)) (B.cons (B.v 4) B.nil)))) (B.wor1 (B.tnot (B.tval (B.fn F_law_told (hr.mono (by first | decide | omega)) (B.cons (B.fn F_law_bent (hr.mono (by first | decide | omega)) (B.cons (B.v 2) (B.cons (B.v 4) B.nil))) B.nil))))))) (B.sone (B.ret B.bl)) B.snil)))))))
      (B.sone (B.ret B.bl))), ?_⟩
    walk_at "W"
    refine ⟨5, rfl, a, _, rfl, hS, fun l1 h1 => ?_⟩
    first | (have zz_ := cut_ints ns none (some 5); have cs := zz_.1; have ecs := zz_.2.1; have hcs := zz_.2.2; clear zz_) | obtain ⟨cs, ecs, hcs⟩ := cut_ints ns none (some 5)
    rw [ecs]
    have s1 : Same H (upd H l1 (.lst (cs.map V.int))) := Same.new h1
    walk_at "W"
    refine SW.iLen (.inl (s1.seq hS)) ?_
    walk_at "W"
    refine ⟨by show (1 : Nat) ≤ sizeLine; decide, fun l2 h2 => ?_⟩
    have s2 := Same.new (o := .lst [.int ((ns.map V.int).length : Nat)]) h2
    walk_at "W"
    refine ⟨l1, l2, _, _, rfl, rfl, s2 _ _ upd_same, upd_same, by rw [List.length_map]; show _ + 1 ≤ sizeLine; have : sizeLine = 16777216 := sizeLine_eq; omega, fun q hq => ?_⟩
    obtain ⟨ds, hds⟩ : ∃ ds, ds = cs ++ [((ns.map V.int).length : Int)] := ⟨_, rfl⟩
    rw [show cs.map V.int ++ [V.int ((ns.map V.int).length : Nat)] = ds.map V.int by rw [hds, List.map_append]; rfl]
    refine ⟨q, rfl, ⟨_, SqL.of upd_same⟩, ?_⟩
    refine SW.forListC (xs := ds.map V.int) (fun i σ H' => ∃ v1 v2 v3 v4, σ = [some (.ref a), v1, v2, v3, v4] ∧ H' q = some (.lst (ds.map V.int)))
      ⟨none, none, none, none, rfl, upd_same⟩ (fun i σ H' _ ⟨_, _, _, _, _, h⟩ => SqL.of h) ?_ ?_
    · rintro i y σ H2 hi ⟨v1, v2, v3, v4, rfl, hq2⟩
      obtain ⟨c, rfl⟩ := getInt hi
      walk_at "W"
      refine wPotP fun p H3 hp s3 R3 => ?_
      have nqp : q ≠ p := ne_of_none hq2 hp
      have q3 := s3 _ _ hq2
      walk_at "W"
      refine wStory (by decide) (by decide) R3 fun s xs ths H4 hs0 hs4 ht4 hl4 hd4 hfw R4 K4 => ?_
      have nsp : s ≠ p := (R3.ne0 hs0).symm
      have hfit : ∀ t ∈ ths, Fit t := fun t h => (hd4 t h).fit (by decide)
      walk_at "W"
      refine ⟨s, xs, rfl, .inl (SqL.of hs4), fun l5 h5 => ?_⟩
      have s5 := Same.new (o := .lst xs) h5
      walk_at "W"
      refine wFW upd_same (ht4.keep fun a xs e => s5 _ _ e) (by omega) hfit fun H6 s6 => ?_
      rw [hfw]
      have s46 := s5.trans s6
      have hs6 := s46 _ _ hs4
      have ht6 := ht4.keep fun a xs e => s46 _ _ e
      walk_at "W"
      refine ⟨rfl, ?_⟩
      walk_at "W"
      refine iteNS rfl ?_
      walk_at "W"
      refine wToldL hs6 ht6 (by omega) hfit fun H7 s7 => ?_
      walk_at "W"
      refine iteF ?_
      have s47 := s46.trans s7
      have R7 := R4.same s47
      have K7 := K4.trans (SW.Same.but (p := p) s47)
      walk_at "W"
      refine wBent R7 nsp (s47 _ _ hs4) (ht4.keep fun a xs e => s47 _ _ e) (by omega) hd4 (by decide) (by decide) fun s8 xs8 ths8 H8 n8 h8 t8 l8 d8 R8 K8 => ?_
      have nsp8 : s8 ≠ p := (R7.ne0 n8).symm
      walk_at "W"
      refine wToldL h8 t8 (by omega) (fun t h => (d8 t h).fit (by decide)) fun H9 s9 => ?_
      walk_at "W"
      refine iteF ?_
      have R9 := R8.same s9
      walk_at "W"
      refine wBent R9 nsp8 (s9 _ _ h8) (t8.keep fun a xs e => s9 _ _ e) (by omega) d8 (by decide) (by decide) fun s10 xs10 ths10 H10 n10 h10 t10 l10 d10 R10 K10 => ?_
      walk_at "W"
      refine wToldL h10 t10 (by omega) (fun t h => (d10 t h).fit (by decide)) fun H11 s11 => ?_
      walk_at "W"
      refine iteF ?_
      walk_at "W"
      exact ⟨_, _, _, _, rfl, s11 _ _ (K10 _ _ nqp (s9 _ _ (K8 _ _ nqp (K7 _ _ nqp q3))))⟩
    · rintro σ H2 ⟨v1, v2, v3, v4, rfl, hq2⟩
      walk_at "W"
      exact k _
end
theorem all_mk {l : PySem.W.OpenLaw} {w : World} {K : PySem.W.Frag} {h : Heap} {mg : Str → Option Value} {fa : Addr} (X : K.In h) (G : h.Ns mainGlobals mg) (hfa : mg "law" = some (.ref fa))
    {C_Listener : Addr}
    {f0 : Addr} {od0 an0 : Option Addr} {sl0 : Array (Option Value)} {oc0 kV0 dc0 pm0 cd0 ct0 : Value}
    {f1 : Addr} {od1 an1 : Option Addr} {sl1 : Array (Option Value)} {oc1 kV1 dc1 pm1 cd1 ct1 : Value}
    {f2 : Addr} {od2 an2 : Option Addr} {sl2 : Array (Option Value)} {oc2 kV2 dc2 pm2 cd2 ct2 : Value}
    {f3 : Addr} {od3 an3 : Option Addr} {sl3 : Array (Option Value)} {oc3 kV3 dc3 pm3 cd3 ct3 : Value}
    {f4 : Addr} {od4 an4 : Option Addr} {sl4 : Array (Option Value)} {oc4 kV4 dc4 pm4 cd4 ct4 : Value}
    {f5 : Addr} {od5 an5 : Option Addr} {sl5 : Array (Option Value)} {oc5 kV5 dc5 pm5 cd5 ct5 : Value}
    {f6 : Addr} {od6 an6 : Option Addr} {sl6 : Array (Option Value)} {oc6 kV6 dc6 pm6 cd6 ct6 : Value}
    {f7 : Addr} {od7 an7 : Option Addr} {sl7 : Array (Option Value)} {oc7 kV7 dc7 pm7 cd7 ct7 : Value}
    {f8 : Addr} {od8 an8 : Option Addr} {sl8 : Array (Option Value)} {oc8 kV8 dc8 pm8 cd8 ct8 : Value}
    {f9 : Addr} {od9 an9 : Option Addr} {sl9 : Array (Option Value)} {oc9 kV9 dc9 pm9 cd9 ct9 : Value}
    {f10 : Addr} {od10 an10 : Option Addr} {sl10 : Array (Option Value)} {oc10 kV10 dc10 pm10 cd10 ct10 : Value}
    {f11 : Addr} {od11 an11 : Option Addr} {sl11 : Array (Option Value)} {oc11 kV11 dc11 pm11 cd11 ct11 : Value}
    {f12 : Addr} {od12 an12 : Option Addr} {sl12 : Array (Option Value)} {oc12 kV12 dc12 pm12 cd12 ct12 : Value}
    {f13 : Addr} {od13 an13 : Option Addr} {sl13 : Array (Option Value)} {oc13 kV13 dc13 pm13 cd13 ct13 : Value}
    {f14 : Addr} {od14 an14 : Option Addr} {sl14 : Array (Option Value)} {oc14 kV14 dc14 pm14 cd14 ct14 : Value}
    {f15 : Addr} {od15 an15 : Option Addr} {sl15 : Array (Option Value)} {oc15 kV15 dc15 pm15 cd15 ct15 : Value}
    {f16 : Addr} {od16 an16 : Option Addr} {sl16 : Array (Option Value)} {oc16 kV16 dc16 pm16 cd16 ct16 : Value}
    {f17 : Addr} {od17 an17 : Option Addr} {sl17 : Array (Option Value)} {oc17 kV17 dc17 pm17 cd17 ct17 : Value}
    {f18 : Addr} {od18 an18 : Option Addr} {sl18 : Array (Option Value)} {oc18 kV18 dc18 pm18 cd18 ct18 : Value}
    {f19 : Addr} {od19 an19 : Option Addr} {sl19 : Array (Option Value)} {oc19 kV19 dc19 pm19 cd19 ct19 : Value}
    {f20 : Addr} {od20 an20 : Option Addr} {sl20 : Array (Option Value)} {oc20 kV20 dc20 pm20 cd20 ct20 : Value}
    {f21 : Addr} {od21 an21 : Option Addr} {sl21 : Array (Option Value)} {oc21 kV21 dc21 pm21 cd21 ct21 : Value}
    {f22 : Addr} {od22 an22 : Option Addr} {sl22 : Array (Option Value)} {oc22 kV22 dc22 pm22 cd22 ct22 : Value}
    {f23 : Addr} {od23 an23 : Option Addr} {sl23 : Array (Option Value)} {oc23 kV23 dc23 pm23 cd23 ct23 : Value}
    {f24 : Addr} {od24 an24 : Option Addr} {sl24 : Array (Option Value)} {oc24 kV24 dc24 pm24 cd24 ct24 : Value}
    {tk0 : Tok}
    (q_Listener : PySem.W.nsIn K mainGlobals "Listener" = some (some (.ref C_Listener)))
    (pg_Listener : PySem.W.plainGet K C_Listener Str.empty = true)
    (hd_Listener : PySem.W.hasDictIn K C_Listener = true)
    (po_Listener : PySem.W.plainOver K C_Listener = true)
    (sa_Listener : PySem.W.findIn K (.ref C_Listener) "__setattr__" = some (some (.builtin "object.__setattr__")))
    (mk_Listener : PySem.W.makesIn K C_Listener = true)
    (kc_Listener : PySem.W.keepIn K (.ref C_Listener) = true)
    (na_Listener_worths : PySem.W.findIn K (.ref C_Listener) "worths" = some none)
    (na_Listener_cursor : PySem.W.findIn K (.ref C_Listener) "cursor" = some none)
    (na_Listener_owed : PySem.W.findIn K (.ref C_Listener) "owed" = some none)
    (a0 : PySem.W.nsIn K mainGlobals "is_whole" = some (some (.ref f0)))
    (l0 : K.lookup f0 = some ⟨oc0, od0, .func (PySem.W.fnOf "is_whole" "is_whole" (defArgs s_is_whole) (defBody s_is_whole) (defScope s_is_whole) .none kV0 dc0 pm0 an0 cd0 ct0), sl0⟩)
    (c0 : PySem.W.codeIn K cd0 "is_whole" = true)
    (k0 : PySem.W.keepIn K (.ref f0) = true)
    (a1 : PySem.W.nsIn K mainGlobals "is_point" = some (some (.ref f1)))
    (l1 : K.lookup f1 = some ⟨oc1, od1, .func (PySem.W.fnOf "is_point" "is_point" (defArgs s_is_point) (defBody s_is_point) (defScope s_is_point) .none kV1 dc1 pm1 an1 cd1 ct1), sl1⟩)
    (c1 : PySem.W.codeIn K cd1 "is_point" = true)
    (k1 : PySem.W.keepIn K (.ref f1) = true)
    (a2 : PySem.W.findIn K (.ref C_Listener) "__init__" = some (some (.ref f2)))
    (i2 : PySem.W.isFn K (.ref f2) = true)
    (l2 : K.lookup f2 = some ⟨oc2, od2, .func (PySem.W.fnOf "__init__" "Listener.__init__" (defArgs s_Listener___init) (defBody s_Listener___init) (defScope s_Listener___init) .none kV2 dc2 pm2 an2 cd2 ct2), sl2⟩)
    (c2 : PySem.W.codeIn K cd2 "Listener.__init__" = true)
    (k2 : PySem.W.keepIn K (.ref f2) = true)
    (a3 : PySem.W.nsIn K mainGlobals "may_follow" = some (some (.ref f3)))
    (l3 : K.lookup f3 = some ⟨oc3, od3, .func (PySem.W.fnOf "may_follow" "may_follow" (defArgs s_may_follow) (defBody s_may_follow) (defScope s_may_follow) .none kV3 dc3 pm3 an3 cd3 ct3), sl3⟩)
    (c3 : PySem.W.codeIn K cd3 "may_follow" = true)
    (k3 : PySem.W.keepIn K (.ref f3) = true)
    (a4 : PySem.W.findIn K (.ref C_Listener) "has_all" = some (some (.ref f4)))
    (i4 : PySem.W.isFn K (.ref f4) = true)
    (l4 : K.lookup f4 = some ⟨oc4, od4, .func (PySem.W.fnOf "has_all" "Listener.has_all" (defArgs s_Listener_has_all) (defBody s_Listener_has_all) (defScope s_Listener_has_all) .none kV4 dc4 pm4 an4 cd4 ct4), sl4⟩)
    (c4 : PySem.W.codeIn K cd4 "Listener.has_all" = true)
    (k4 : PySem.W.keepIn K (.ref f4) = true)
    (a5 : PySem.W.findIn K (.ref C_Listener) "agrees_to_step" = some (some (.ref f5)))
    (i5 : PySem.W.isFn K (.ref f5) = true)
    (l5 : K.lookup f5 = some ⟨oc5, od5, .func (PySem.W.fnOf "agrees_to_step" "Listener.agrees_to_step" (defArgs s_Listener_agrees_to_step) (defBody s_Listener_agrees_to_step) (defScope s_Listener_agrees_to_step) .none kV5 dc5 pm5 an5 cd5 ct5), sl5⟩)
    (c5 : PySem.W.codeIn K cd5 "Listener.agrees_to_step" = true)
    (k5 : PySem.W.keepIn K (.ref f5) = true)
    (a6 : PySem.W.findIn K (.ref C_Listener) "agrees_to_deed" = some (some (.ref f6)))
    (i6 : PySem.W.isFn K (.ref f6) = true)
    (l6 : K.lookup f6 = some ⟨oc6, od6, .func (PySem.W.fnOf "agrees_to_deed" "Listener.agrees_to_deed" (defArgs s_Listener_agrees_to_deed) (defBody s_Listener_agrees_to_deed) (defScope s_Listener_agrees_to_deed) .none kV6 dc6 pm6 an6 cd6 ct6), sl6⟩)
    (c6 : PySem.W.codeIn K cd6 "Listener.agrees_to_deed" = true)
    (k6 : PySem.W.keepIn K (.ref f6) = true)
    (a7 : PySem.W.findIn K (.ref C_Listener) "agrees" = some (some (.ref f7)))
    (i7 : PySem.W.isFn K (.ref f7) = true)
    (l7 : K.lookup f7 = some ⟨oc7, od7, .func (PySem.W.fnOf "agrees" "Listener.agrees" (defArgs s_Listener_agrees) (defBody s_Listener_agrees) (defScope s_Listener_agrees) .none kV7 dc7 pm7 an7 cd7 ct7), sl7⟩)
    (c7 : PySem.W.codeIn K cd7 "Listener.agrees" = true)
    (k7 : PySem.W.keepIn K (.ref f7) = true)
    (a8 : PySem.W.nsIn K mainGlobals "first_wrong" = some (some (.ref f8)))
    (l8 : K.lookup f8 = some ⟨oc8, od8, .func (PySem.W.fnOf "first_wrong" "first_wrong" (defArgs s_first_wrong) (defBody s_first_wrong) (defScope s_first_wrong) .none kV8 dc8 pm8 an8 cd8 ct8), sl8⟩)
    (c8 : PySem.W.codeIn K cd8 "first_wrong" = true)
    (k8 : PySem.W.keepIn K (.ref f8) = true)
    (a9 : PySem.W.nsIn K mainGlobals "_law_mixed" = some (some (.ref f9)))
    (l9 : K.lookup f9 = some ⟨oc9, od9, .func (PySem.W.fnOf "_law_mixed" "_law_mixed" (defArgs s_law_mixed) (defBody s_law_mixed) (defScope s_law_mixed) .none kV9 dc9 pm9 an9 cd9 ct9), sl9⟩)
    (c9 : PySem.W.codeIn K cd9 "_law_mixed" = true)
    (k9 : PySem.W.keepIn K (.ref f9) = true)
    (a10 : PySem.W.nsIn K mainGlobals "_law_pot" = some (some (.ref f10)))
    (l10 : K.lookup f10 = some ⟨oc10, od10, .func (PySem.W.fnOf "_law_pot" "_law_pot" (defArgs s_law_pot) (defBody s_law_pot) (defScope s_law_pot) .none kV10 dc10 pm10 an10 cd10 ct10), sl10⟩)
    (c10 : PySem.W.codeIn K cd10 "_law_pot" = true)
    (k10 : PySem.W.keepIn K (.ref f10) = true)
    (a11 : PySem.W.nsIn K mainGlobals "_law_take" = some (some (.ref f11)))
    (l11 : K.lookup f11 = some ⟨oc11, od11, .func (PySem.W.fnOf "_law_take" "_law_take" (defArgs s_law_take) (defBody s_law_take) (defScope s_law_take) .none kV11 dc11 pm11 an11 cd11 ct11), sl11⟩)
    (c11 : PySem.W.codeIn K cd11 "_law_take" = true)
    (k11 : PySem.W.keepIn K (.ref f11) = true)
    (a12 : PySem.W.nsIn K mainGlobals "_law_worth" = some (some (.ref f12)))
    (l12 : K.lookup f12 = some ⟨oc12, od12, .func (PySem.W.fnOf "_law_worth" "_law_worth" (defArgs s_law_worth) (defBody s_law_worth) (defScope s_law_worth) .none kV12 dc12 pm12 an12 cd12 ct12), sl12⟩)
    (c12 : PySem.W.codeIn K cd12 "_law_worth" = true)
    (k12 : PySem.W.keepIn K (.ref f12) = true)
    (a13 : PySem.W.nsIn K mainGlobals "_law_plain_done" = some (some (.ref f13)))
    (l13 : K.lookup f13 = some ⟨oc13, od13, .func (PySem.W.fnOf "_law_plain_done" "_law_plain_done" (defArgs s_law_plain_done) (defBody s_law_plain_done) (defScope s_law_plain_done) .none kV13 dc13 pm13 an13 cd13 ct13), sl13⟩)
    (c13 : PySem.W.codeIn K cd13 "_law_plain_done" = true)
    (k13 : PySem.W.keepIn K (.ref f13) = true)
    (a14 : PySem.W.nsIn K mainGlobals "_law_deed_told" = some (some (.ref f14)))
    (l14 : K.lookup f14 = some ⟨oc14, od14, .func (PySem.W.fnOf "_law_deed_told" "_law_deed_told" (defArgs s_law_deed_told) (defBody s_law_deed_told) (defScope s_law_deed_told) .none kV14 dc14 pm14 an14 cd14 ct14), sl14⟩)
    (c14 : PySem.W.codeIn K cd14 "_law_deed_told" = true)
    (k14 : PySem.W.keepIn K (.ref f14) = true)
    (a15 : PySem.W.nsIn K mainGlobals "_law_step_told" = some (some (.ref f15)))
    (l15 : K.lookup f15 = some ⟨oc15, od15, .func (PySem.W.fnOf "_law_step_told" "_law_step_told" (defArgs s_law_step_told) (defBody s_law_step_told) (defScope s_law_step_told) .none kV15 dc15 pm15 an15 cd15 ct15), sl15⟩)
    (c15 : PySem.W.codeIn K cd15 "_law_step_told" = true)
    (k15 : PySem.W.keepIn K (.ref f15) = true)
    (a16 : PySem.W.nsIn K mainGlobals "_law_story" = some (some (.ref f16)))
    (l16 : K.lookup f16 = some ⟨oc16, od16, .func (PySem.W.fnOf "_law_story" "_law_story" (defArgs s_law_story) (defBody s_law_story) (defScope s_law_story) .none kV16 dc16 pm16 an16 cd16 ct16), sl16⟩)
    (c16 : PySem.W.codeIn K cd16 "_law_story" = true)
    (k16 : PySem.W.keepIn K (.ref f16) = true)
    (a17 : PySem.W.nsIn K mainGlobals "_law_bent_step" = some (some (.ref f17)))
    (l17 : K.lookup f17 = some ⟨oc17, od17, .func (PySem.W.fnOf "_law_bent_step" "_law_bent_step" (defArgs s_law_bent_step) (defBody s_law_bent_step) (defScope s_law_bent_step) .none kV17 dc17 pm17 an17 cd17 ct17), sl17⟩)
    (c17 : PySem.W.codeIn K cd17 "_law_bent_step" = true)
    (k17 : PySem.W.keepIn K (.ref f17) = true)
    (a18 : PySem.W.nsIn K mainGlobals "_law_bent" = some (some (.ref f18)))
    (l18 : K.lookup f18 = some ⟨oc18, od18, .func (PySem.W.fnOf "_law_bent" "_law_bent" (defArgs s_law_bent) (defBody s_law_bent) (defScope s_law_bent) .none kV18 dc18 pm18 an18 cd18 ct18), sl18⟩)
    (c18 : PySem.W.codeIn K cd18 "_law_bent" = true)
    (k18 : PySem.W.keepIn K (.ref f18) = true)
    (a19 : PySem.W.nsIn K mainGlobals "_law_held" = some (some (.ref f19)))
    (l19 : K.lookup f19 = some ⟨oc19, od19, .func (PySem.W.fnOf "_law_held" "_law_held" (defArgs s_law_held) (defBody s_law_held) (defScope s_law_held) .none kV19 dc19 pm19 an19 cd19 ct19), sl19⟩)
    (c19 : PySem.W.codeIn K cd19 "_law_held" = true)
    (k19 : PySem.W.keepIn K (.ref f19) = true)
    (a20 : PySem.W.nsIn K mainGlobals "_law_missing" = some (some (.ref f20)))
    (l20 : K.lookup f20 = some ⟨oc20, od20, .func (PySem.W.fnOf "_law_missing" "_law_missing" (defArgs s_law_missing) (defBody s_law_missing) (defScope s_law_missing) .none kV20 dc20 pm20 an20 cd20 ct20), sl20⟩)
    (c20 : PySem.W.codeIn K cd20 "_law_missing" = true)
    (k20 : PySem.W.keepIn K (.ref f20) = true)
    (a21 : PySem.W.nsIn K mainGlobals "_law_fits" = some (some (.ref f21)))
    (l21 : K.lookup f21 = some ⟨oc21, od21, .func (PySem.W.fnOf "_law_fits" "_law_fits" (defArgs s_law_fits) (defBody s_law_fits) (defScope s_law_fits) .none kV21 dc21 pm21 an21 cd21 ct21), sl21⟩)
    (c21 : PySem.W.codeIn K cd21 "_law_fits" = true)
    (k21 : PySem.W.keepIn K (.ref f21) = true)
    (a22 : PySem.W.nsIn K mainGlobals "_law_first" = some (some (.ref f22)))
    (l22 : K.lookup f22 = some ⟨oc22, od22, .func (PySem.W.fnOf "_law_first" "_law_first" (defArgs s_law_first) (defBody s_law_first) (defScope s_law_first) .none kV22 dc22 pm22 an22 cd22 ct22), sl22⟩)
    (c22 : PySem.W.codeIn K cd22 "_law_first" = true)
    (k22 : PySem.W.keepIn K (.ref f22) = true)
    (a23 : PySem.W.nsIn K mainGlobals "_law_told" = some (some (.ref f23)))
    (l23 : K.lookup f23 = some ⟨oc23, od23, .func (PySem.W.fnOf "_law_told" "_law_told" (defArgs s_law_told) (defBody s_law_told) (defScope s_law_told) .none kV23 dc23 pm23 an23 cd23 ct23), sl23⟩)
    (c23 : PySem.W.codeIn K cd23 "_law_told" = true)
    (k23 : PySem.W.keepIn K (.ref f23) = true)
    (a24 : PySem.W.nsIn K mainGlobals "law" = some (some (.ref f24)))
    (l24 : K.lookup f24 = some ⟨oc24, od24, .func (PySem.W.fnOf "law" "law" (defArgs s_law) (defBody s_law) (defScope s_law) .none kV24 dc24 pm24 an24 cd24 ct24), sl24⟩)
    (c24 : PySem.W.codeIn K cd24 "law" = true)
    (k24 : PySem.W.keepIn K (.ref f24) = true)
    (cst0 : PySem.W.nsIn K mainGlobals "LAST_POINT" = some (some (.int 65535 tk0)))
    (blt0 : PySem.W.nsIn K mainGlobals "int" = some none)
    (blt1 : PySem.W.nsIn K mainGlobals "bool" = some none)
    (blt2 : PySem.W.nsIn K mainGlobals "isinstance" = some none)
    (blt3 : PySem.W.nsIn K mainGlobals "range" = some none)
    (blt4 : PySem.W.nsIn K mainGlobals "len" = some none)
    (blt5 : PySem.W.nsIn K mainGlobals "list" = some none)
    (blt6 : PySem.W.nsIn K mainGlobals "tuple" = some none)
    (blt7 : PySem.W.nsIn K mainGlobals "max" = some none)
    (blt8 : PySem.W.nsIn K mainGlobals "set" = some none)
    (blt9 : PySem.W.nsIn K mainGlobals "dict" = some none)
    (blt10 : PySem.W.nsIn K mainGlobals "all" = some none)
    (blt11 : PySem.W.nsIn K mainGlobals "sorted" = some none)
    (blt12 : PySem.W.nsIn K mainGlobals "enumerate" = some none) :
    ∃ fd : FuncData, (∀ (s : Shared) (v : Value), BindsTo s fd ⟨[v], []⟩ [("script", v)]) ∧ ∀ base : Heap, K.In base → base.Ns mainGlobals mg → FnOk l.prog w K mg base CX0 8 fa fd ["script"] (spLaw K) := by
  have e := hfa.symm.trans (PySem.W.mg_of X G a24)
  cases e
  have g : Gs K mg C_Listener := ⟨⟨_, PySem.W.mg_of X G cst0⟩, ⟨pg_Listener, hd_Listener, po_Listener, sa_Listener⟩, na_Listener_worths, na_Listener_cursor, na_Listener_owed, PySem.W.mg_none_of X G blt0, PySem.W.mg_none_of X G blt1, PySem.W.mg_none_of X G blt2, PySem.W.mg_none_of X G blt3, PySem.W.mg_none_of X G blt4, PySem.W.mg_none_of X G blt5, PySem.W.mg_none_of X G blt6, PySem.W.mg_none_of X G blt7, PySem.W.mg_none_of X G blt8, PySem.W.mg_none_of X G blt9, PySem.W.mg_none_of X G blt10, PySem.W.mg_none_of X G blt11, PySem.W.mg_none_of X G blt12⟩
  have d0 : Dfn K mg "is_whole" s_is_whole ["thing"] := ⟨_, _, fun_mk (st := s_is_whole) l0 c0 k0, PySem.W.mg_of X G a0, (fun_mk (st := s_is_whole) l0 c0 k0).binds fun _ _ _ _ _ _ us hl => SW.len1 us hl fun _ => rfl⟩
  have d1 : Dfn K mg "is_point" s_is_point ["thing"] := ⟨_, _, fun_mk (st := s_is_point) l1 c1 k1, PySem.W.mg_of X G a1, (fun_mk (st := s_is_point) l1 c1 k1).binds fun _ _ _ _ _ _ us hl => SW.len1 us hl fun _ => rfl⟩
  have d2 : Dk K mg C_Listener "Listener" "Listener.__init__" s_Listener___init ["self"] := ⟨_, _, fun_mk (st := s_Listener___init) l2 c2 k2, ⟨mk_Listener, a2, i2, kc_Listener⟩, PySem.W.mg_of X G q_Listener, (fun_mk (st := s_Listener___init) l2 c2 k2).binds fun _ _ _ _ _ _ us hl => SW.len1 us hl fun _ => rfl⟩
  have d3 : Dfn K mg "may_follow" s_may_follow ["following", "cursor"] := ⟨_, _, fun_mk (st := s_may_follow) l3 c3 k3, PySem.W.mg_of X G a3, (fun_mk (st := s_may_follow) l3 c3 k3).binds fun _ _ _ _ _ _ us hl => SW.len2 us hl fun _ _ => rfl⟩
  have d4 : Dm K C_Listener "has_all" "Listener.has_all" s_Listener_has_all ["self", "pairs"] := ⟨_, _, fun_mk (st := s_Listener_has_all) l4 c4 k4, ⟨a4, i4, k4⟩, (fun_mk (st := s_Listener_has_all) l4 c4 k4).binds fun _ _ _ _ _ _ us hl => SW.len2 us hl fun _ _ => rfl⟩
  have d5 : Dm K C_Listener "agrees_to_step" "Listener.agrees_to_step" s_Listener_agrees_to_step ["self", "cursor", "following", "pairs"] := ⟨_, _, fun_mk (st := s_Listener_agrees_to_step) l5 c5 k5, ⟨a5, i5, k5⟩, (fun_mk (st := s_Listener_agrees_to_step) l5 c5 k5).binds fun _ _ _ _ _ _ us hl => SW.len4 us hl fun _ _ _ _ => rfl⟩
  have d6 : Dm K C_Listener "agrees_to_deed" "Listener.agrees_to_deed" s_Listener_agrees_to_deed ["self", "thing"] := ⟨_, _, fun_mk (st := s_Listener_agrees_to_deed) l6 c6 k6, ⟨a6, i6, k6⟩, (fun_mk (st := s_Listener_agrees_to_deed) l6 c6 k6).binds fun _ _ _ _ _ _ us hl => SW.len2 us hl fun _ _ => rfl⟩
  have d7 : Dm K C_Listener "agrees" "Listener.agrees" s_Listener_agrees ["self", "thing"] := ⟨_, _, fun_mk (st := s_Listener_agrees) l7 c7 k7, ⟨a7, i7, k7⟩, (fun_mk (st := s_Listener_agrees) l7 c7 k7).binds fun _ _ _ _ _ _ us hl => SW.len2 us hl fun _ _ => rfl⟩
  have d8 : Dfn K mg "first_wrong" s_first_wrong ["story"] := ⟨_, _, fun_mk (st := s_first_wrong) l8 c8 k8, PySem.W.mg_of X G a8, (fun_mk (st := s_first_wrong) l8 c8 k8).binds fun _ _ _ _ _ _ us hl => SW.len1 us hl fun _ => rfl⟩
  have d9 : Dfn K mg "_law_mixed" s_law_mixed ["cell", "k"] := ⟨_, _, fun_mk (st := s_law_mixed) l9 c9 k9, PySem.W.mg_of X G a9, (fun_mk (st := s_law_mixed) l9 c9 k9).binds fun _ _ _ _ _ _ us hl => SW.len2 us hl fun _ _ => rfl⟩
  have d10 : Dfn K mg "_law_pot" s_law_pot ["cell"] := ⟨_, _, fun_mk (st := s_law_pot) l10 c10 k10, PySem.W.mg_of X G a10, (fun_mk (st := s_law_pot) l10 c10 k10).binds fun _ _ _ _ _ _ us hl => SW.len1 us hl fun _ => rfl⟩
  have d11 : Dfn K mg "_law_take" s_law_take ["pot", "many"] := ⟨_, _, fun_mk (st := s_law_take) l11 c11 k11, PySem.W.mg_of X G a11, (fun_mk (st := s_law_take) l11 c11 k11).binds fun _ _ _ _ _ _ us hl => SW.len2 us hl fun _ _ => rfl⟩
  have d12 : Dfn K mg "_law_worth" s_law_worth ["pot"] := ⟨_, _, fun_mk (st := s_law_worth) l12 c12 k12, PySem.W.mg_of X G a12, (fun_mk (st := s_law_worth) l12 c12 k12).binds fun _ _ _ _ _ _ us hl => SW.len1 us hl fun _ => rfl⟩
  have d13 : Dfn K mg "_law_plain_done" s_law_plain_done ["plain", "deed"] := ⟨_, _, fun_mk (st := s_law_plain_done) l13 c13 k13, PySem.W.mg_of X G a13, (fun_mk (st := s_law_plain_done) l13 c13 k13).binds fun _ _ _ _ _ _ us hl => SW.len2 us hl fun _ _ => rfl⟩
  have d14 : Dfn K mg "_law_deed_told" s_law_deed_told ["pot", "plain"] := ⟨_, _, fun_mk (st := s_law_deed_told) l14 c14 k14, PySem.W.mg_of X G a14, (fun_mk (st := s_law_deed_told) l14 c14 k14).binds fun _ _ _ _ _ _ us hl => SW.len2 us hl fun _ _ => rfl⟩
  have d15 : Dfn K mg "_law_step_told" s_law_step_told ["pot", "plain", "walk"] := ⟨_, _, fun_mk (st := s_law_step_told) l15 c15 k15, PySem.W.mg_of X G a15, (fun_mk (st := s_law_step_told) l15 c15 k15).binds fun _ _ _ _ _ _ us hl => SW.len3 us hl fun _ _ _ => rfl⟩
  have d16 : Dfn K mg "_law_story" s_law_story ["pot", "most"] := ⟨_, _, fun_mk (st := s_law_story) l16 c16 k16, PySem.W.mg_of X G a16, (fun_mk (st := s_law_story) l16 c16 k16).binds fun _ _ _ _ _ _ us hl => SW.len2 us hl fun _ _ => rfl⟩
  have d17 : Dfn K mg "_law_bent_step" s_law_bent_step ["pot", "row"] := ⟨_, _, fun_mk (st := s_law_bent_step) l17 c17 k17, PySem.W.mg_of X G a17, (fun_mk (st := s_law_bent_step) l17 c17 k17).binds fun _ _ _ _ _ _ us hl => SW.len2 us hl fun _ _ => rfl⟩
  have d18 : Dfn K mg "_law_bent" s_law_bent ["pot", "story"] := ⟨_, _, fun_mk (st := s_law_bent) l18 c18 k18, PySem.W.mg_of X G a18, (fun_mk (st := s_law_bent) l18 c18 k18).binds fun _ _ _ _ _ _ us hl => SW.len2 us hl fun _ _ => rfl⟩
  have d19 : Dfn K mg "_law_held" s_law_held ["rows"] := ⟨_, _, fun_mk (st := s_law_held) l19 c19 k19, PySem.W.mg_of X G a19, (fun_mk (st := s_law_held) l19 c19 k19).binds fun _ _ _ _ _ _ us hl => SW.len1 us hl fun _ => rfl⟩
  have d20 : Dfn K mg "_law_missing" s_law_missing ["ahead", "row"] := ⟨_, _, fun_mk (st := s_law_missing) l20 c20 k20, PySem.W.mg_of X G a20, (fun_mk (st := s_law_missing) l20 c20 k20).binds fun _ _ _ _ _ _ us hl => SW.len2 us hl fun _ _ => rfl⟩
  have d21 : Dfn K mg "_law_fits" s_law_fits ["ahead", "row"] := ⟨_, _, fun_mk (st := s_law_fits) l21 c21 k21, PySem.W.mg_of X G a21, (fun_mk (st := s_law_fits) l21 c21 k21).binds fun _ _ _ _ _ _ us hl => SW.len2 us hl fun _ _ => rfl⟩
  have d22 : Dfn K mg "_law_first" s_law_first ["story"] := ⟨_, _, fun_mk (st := s_law_first) l22 c22 k22, PySem.W.mg_of X G a22, (fun_mk (st := s_law_first) l22 c22 k22).binds fun _ _ _ _ _ _ us hl => SW.len1 us hl fun _ => rfl⟩
  have d23 : Dfn K mg "_law_told" s_law_told ["story"] := ⟨_, _, fun_mk (st := s_law_told) l23 c23 k23, PySem.W.mg_of X G a23, (fun_mk (st := s_law_told) l23 c23 k23).binds fun _ _ _ _ _ _ us hl => SW.len1 us hl fun _ => rfl⟩
  have FL := fun_mk (st := s_law) l24 c24 k24
  refine ⟨PySem.W.fnOf "law" "law" (defArgs s_law) (defBody s_law) (defScope s_law) .none kV24 dc24 pm24 an24 cd24 ct24, fun s v => .of_eq rfl, fun base _ _ => ?_⟩
  have T0 := F_whole (P := l.prog) (w := w) (base := base) d0 g
  have T1 := F_isp (P := l.prog) (w := w) (base := base) d1 g T0
  have T2 := L_init (P := l.prog) (w := w) (base := base) d2 g
  have T3 := F_may (P := l.prog) (w := w) (base := base) d3 T1
  have T4 := L_has (P := l.prog) (w := w) (base := base) d4 g
  have T5 := L_step (P := l.prog) (w := w) (base := base) d5 g T3 T4
  have T6 := L_deed (P := l.prog) (w := w) (base := base) d6 g
  have T7 := L_agrees (P := l.prog) (w := w) (base := base) d7 g T6 T5
  have T8 := F_first (P := l.prog) (w := w) (base := base) d8 g T2 T7
  have T9 := F_mixed (P := l.prog) (w := w) (base := base) d9
  have T10 := F_pot (P := l.prog) (w := w) (base := base) d10 g
  have T11 := F_take (P := l.prog) (w := w) (base := base) d11 T9
  have T12 := F_worthP (P := l.prog) (w := w) (base := base) d12 T11
  have T13 := F_plain_done (P := l.prog) (w := w) (base := base) d13 g
  have T14 := F_deed_told (P := l.prog) (w := w) (base := base) d14 g T11 T12 T13
  have T15 := F_step_told (P := l.prog) (w := w) (base := base) d15 g T11
  have T16 := F_story (P := l.prog) (w := w) (base := base) d16 g T11 T14 T15
  have T17 := F_bent_step (P := l.prog) (w := w) (base := base) d17 g T11
  have T18 := F_bent (P := l.prog) (w := w) (base := base) d18 g T11 T12 T17
  have T19 := F_held (P := l.prog) (w := w) (base := base) d19 g
  have T20 := F_missing (P := l.prog) (w := w) (base := base) d20 g T19
  have T21 := F_fits (P := l.prog) (w := w) (base := base) d21 g T19 T20
  have T22 := F_lfirst (P := l.prog) (w := w) (base := base) d22 g T21
  have T23 := F_ltold (P := l.prog) (w := w) (base := base) d23 g T8 T22
  exact ok_law FL g T0 T1 T2 T3 T4 T5 T6 T7 T8 T9 T10 T11 T12 T13 T14 T15 T16 T17 T18 T19 T20 T21 T22 T23
theorem walk {l : PySem.W.OpenLaw} {q : Program} {loose : List Str} {XP : (Str → Option Value) → Heap → Prop} {YP : World → Heap → Prop} {d : DefRec} {K : Params → PySem.W.Frag} (hn : l.most = some 63) (hdf : d.params.defaults = [])
    (hY : ∀ (w : World) (h : Heap), YP w h → (K w.params).In h)
    (F : ∀ (w : World) (mg : Str → Option Value) (fa : Addr) (h : Heap), (K w.params).In h → h.Ns mainGlobals mg → mg d.name = some (.ref fa) →
      ∃ fd : FuncData, (∀ (s : Shared) (u : Value), BindsTo s fd ⟨[u], []⟩ [("script", u)]) ∧ ∀ base : Heap, (K w.params).In base → base.Ns mainGlobals mg → FnOk l.prog w (K w.params) mg base CX0 8 fa fd ["script"] (spLaw (K w.params))) :
    PySem.W.WalkO q loose XP YP l.row.toRowW d [] (fun f vs => PySem.call f vs) :=
  L2.walk_of (n := 63) (k := 8) (x := "script") (CX := fun _ => CX0) (sp := fun w => spLaw (K w.params)) hn (by decide) hdf ⟨rfl, by decide, by decide⟩ hY F (fun _ _ a ns hl _ hS => ⟨a, ns, rfl, hS, hl, fun _ => rfl⟩) fun _ _ _ _ _ z => z
end K
open PySem PySem.W PyProof.Rows
set_option maxRecDepth 100000 in
set_option maxHeartbeats 0 in
theorem PySem.Challenge.cw_slowshift_k31_first_wrong_thing_holds : PySem.Challenge.rw_slowshift_k31_first_wrong_thing.Holds := by
  w_on; o_law; z_head; (case hw => w_witness2)
  k_fill
  refine SW.walkX (fun _ => by kernel_rfl) (K.walk (l := PySem.Challenge.rw_slowshift_k31_first_wrong_thing) rfl rfl (fun w h Y => Y) ?F)
  case F =>
    intro w mg fa h KX G hmg
    refine' K.all_mk KX G hmg ?q_Listener ?pg_Listener ?hd_Listener ?po_Listener ?sa_Listener ?mk_Listener ?kc_Listener ?na_Listener_worths ?na_Listener_cursor ?na_Listener_owed ?a0 ?l0 ?c0 ?k0 ?a1 ?l1 ?c1 ?k1 ?a2 ?i2 ?l2 ?c2 ?k2 ?a3 ?l3 ?c3 ?k3 ?a4 ?i4 ?l4 ?c4 ?k4 ?a5 ?i5 ?l5 ?c5 ?k5 ?a6 ?i6 ?l6 ?c6 ?k6 ?a7 ?i7 ?l7 ?c7 ?k7 ?a8 ?l8 ?c8 ?k8 ?a9 ?l9 ?c9 ?k9 ?a10 ?l10 ?c10 ?k10 ?a11 ?l11 ?c11 ?k11 ?a12 ?l12 ?c12 ?k12 ?a13 ?l13 ?c13 ?k13 ?a14 ?l14 ?c14 ?k14 ?a15 ?l15 ?c15 ?k15 ?a16 ?l16 ?c16 ?k16 ?a17 ?l17 ?c17 ?k17 ?a18 ?l18 ?c18 ?k18 ?a19 ?l19 ?c19 ?k19 ?a20 ?l20 ?c20 ?k20 ?a21 ?l21 ?c21 ?k21 ?a22 ?l22 ?c22 ?k22 ?a23 ?l23 ?c23 ?k23 ?a24 ?l24 ?c24 ?k24 ?cst0 ?blt0 ?blt1 ?blt2 ?blt3 ?blt4 ?blt5 ?blt6 ?blt7 ?blt8 ?blt9 ?blt10 ?blt11 ?blt12
    (case q_Listener => k_is)
    (case pg_Listener => k_is)
    (case hd_Listener => k_is)
    (case po_Listener => k_is)
    (case sa_Listener => k_is)
    (case mk_Listener => k_is)
    (case kc_Listener => k_is)
    (case na_Listener_worths => k_is)
    (case na_Listener_cursor => k_is)
    (case na_Listener_owed => k_is)
    (case a0 => k_is)
    (case l0 => k_is)
    (case c0 => k_is)
    (case k0 => k_is)
    (case a1 => k_is)
    (case l1 => k_is)
    (case c1 => k_is)
    (case k1 => k_is)
    (case a2 => k_is)
    (case i2 => k_is)
    (case l2 => k_is)
    (case c2 => k_is)
    (case k2 => k_is)
    (case a3 => k_is)
    (case l3 => k_is)
    (case c3 => k_is)
    (case k3 => k_is)
    (case a4 => k_is)
    (case i4 => k_is)
    (case l4 => k_is)
    (case c4 => k_is)
    (case k4 => k_is)
    (case a5 => k_is)
    (case i5 => k_is)
    (case l5 => k_is)
    (case c5 => k_is)
    (case k5 => k_is)
    (case a6 => k_is)
    (case i6 => k_is)
    (case l6 => k_is)
    (case c6 => k_is)
    (case k6 => k_is)
    (case a7 => k_is)
    (case i7 => k_is)
    (case l7 => k_is)
    (case c7 => k_is)
    (case k7 => k_is)
    (case a8 => k_is)
    (case l8 => k_is)
    (case c8 => k_is)
    (case k8 => k_is)
    (case a9 => k_is)
    (case l9 => k_is)
    (case c9 => k_is)
    (case k9 => k_is)
    (case a10 => k_is)
    (case l10 => k_is)
    (case c10 => k_is)
    (case k10 => k_is)
    (case a11 => k_is)
    (case l11 => k_is)
    (case c11 => k_is)
    (case k11 => k_is)
    (case a12 => k_is)
    (case l12 => k_is)
    (case c12 => k_is)
    (case k12 => k_is)
    (case a13 => k_is)
    (case l13 => k_is)
    (case c13 => k_is)
    (case k13 => k_is)
    (case a14 => k_is)
    (case l14 => k_is)
    (case c14 => k_is)
    (case k14 => k_is)
    (case a15 => k_is)
    (case l15 => k_is)
    (case c15 => k_is)
    (case k15 => k_is)
    (case a16 => k_is)
    (case l16 => k_is)
    (case c16 => k_is)
    (case k16 => k_is)
    (case a17 => k_is)
    (case l17 => k_is)
    (case c17 => k_is)
    (case k17 => k_is)
    (case a18 => k_is)
    (case l18 => k_is)
    (case c18 => k_is)
    (case k18 => k_is)
    (case a19 => k_is)
    (case l19 => k_is)
    (case c19 => k_is)
    (case k19 => k_is)
    (case a20 => k_is)
    (case l20 => k_is)
    (case c20 => k_is)
    (case k20 => k_is)
    (case a21 => k_is)
    (case l21 => k_is)
    (case c21 => k_is)
    (case k21 => k_is)
    (case a22 => k_is)
    (case l22 => k_is)
    (case c22 => k_is)
    (case k22 => k_is)
    (case a23 => k_is)
    (case l23 => k_is)
    (case c23 => k_is)
    (case k23 => k_is)
    (case a24 => k_is)
    (case l24 => k_is)
    (case c24 => k_is)
    (case k24 => k_is)
    (case cst0 => k_is)
    (case blt0 => k_is)
    (case blt1 => k_is)
    (case blt2 => k_is)
    (case blt3 => k_is)
    (case blt4 => k_is)
    (case blt5 => k_is)
    (case blt6 => k_is)
    (case blt7 => k_is)
    (case blt8 => k_is)
    (case blt9 => k_is)
    (case blt10 => k_is)
    (case blt11 => k_is)
    (case blt12 => k_is)




