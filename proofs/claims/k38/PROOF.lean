import PyProof.Rows.All
import Wide.All
import OpenK.AllK
import Wide.FinOn
import Lean
import PyProof.EqAt
import PyProof.EqKinds
import PyProof.TupleCall
import PySem.Challenge.RW_slowshift_k38_what_is_a_sound_state
set_option Elab.async false
set_option linter.all false
set_option maxRecDepth 100000
set_option genSizeOf false
set_option genSizeOfSpec false
set_option genInjectivity false
set_option maxHeartbeats 4000000

namespace L2
open PySem PySem.Spec PyProof.Rows

noncomputable abbrev Key := Sum Int Str
noncomputable def keyIs : Key → Value → Bool
  | .inl k, v => Value.isInt k v
  | .inr x, v => Value.isStrOf x v
noncomputable def keyH (w : World) : Key → Int
  | .inl k => hashInt k
  | .inr x => hashStr w x
theorem keyIs_shape : ∀ {k : Key} {v : Value}, keyIs k v = true → (∃ i t, k = Sum.inl i ∧ v = Value.int i t) ∨ (∃ x t, k = Sum.inr x ∧ v = Value.str x t)
  | .inl i, v, h => by
    obtain ⟨t, e⟩ := Value.isInt_shape (k := i) (v := v) h
    exact .inl ⟨i, t, rfl, e⟩
  | .inr x, v, h => by
    obtain ⟨t, e⟩ := Value.isStrOf_shape (x := x) (v := v) h
    exact .inr ⟨x, t, rfl, e⟩
theorem keyIs_int (i : Int) (t : Tok) : keyIs (.inl i) (.int i t) = true := by simp [keyIs, Value.isInt]
theorem keyIs_str (x : Str) (t : Tok) : keyIs (.inr x) (.str x t) = true := by simp [keyIs, Value.isStrOf]
theorem key_ll (a b : Int) : decide ((Sum.inl a : Key) = Sum.inl b) = (a == b) := by
  by_cases e : a = b
  · subst e; simp
  · have h : ¬ (Sum.inl a : Key) = Sum.inl b := fun q => e (Sum.inl.inj q)
    rw [decide_eq_false h]
    exact (beq_eq_false_iff_ne.mpr e).symm
theorem key_rr (a b : Str) : decide ((Sum.inr a : Key) = Sum.inr b) = decide (a = b) := by
  by_cases e : a = b
  · subst e; simp
  · have h : ¬ (Sum.inr a : Key) = Sum.inr b := fun q => e (Sum.inr.inj q)
    rw [decide_eq_false h, decide_eq_false e]
theorem key_lr (a : Int) (b : Str) : decide ((Sum.inl a : Key) = Sum.inr b) = false := decide_eq_false (fun q => nomatch q)
theorem key_rl (a : Str) (b : Int) : decide ((Sum.inr a : Key) = Sum.inl b) = false := decide_eq_false (fun q => nomatch q)

noncomputable def mixKind (prog : Program) (w : World) : PySem.KeyKind prog w Key where
  is := keyIs
  hash := keyH w
  inj := fun v a b ha hb => by
    rcases keyIs_shape ha with ⟨i, t, rfl, rfl⟩ | ⟨x, t, rfl, rfl⟩
    · rcases keyIs_shape hb with ⟨j, u, rfl, e⟩ | ⟨y, u, rfl, e⟩
      · injection e with e1 _; rw [e1]
      · exact nomatch e
    · rcases keyIs_shape hb with ⟨j, u, rfl, e⟩ | ⟨y, u, rfl, e⟩
      · exact nomatch e
      · injection e with e1 _; rw [e1]
  byValue := fun k v h => by
    rcases keyIs_shape h with ⟨i, t, rfl, rfl⟩ | ⟨x, t, rfl, rfl⟩ <;> rfl
  pyHash := fun hv h => by
    rcases keyIs_shape hv with ⟨i, t, rfl, rfl⟩ | ⟨x, t, rfl, rfl⟩
    · exact wpAny_pyHash_int h
    · exact wpAny_pyHash_str h
  eqBool := fun hu hv h => by
    rcases keyIs_shape hu with ⟨i, t, rfl, rfl⟩ | ⟨x, t, rfl, rfl⟩
    · rcases keyIs_shape hv with ⟨j, u, rfl, rfl⟩ | ⟨y, u, rfl, rfl⟩
      · rw [key_ll] at h; exact wpAny_eqBool_int h
      · rw [key_lr] at h; exact SeqAt.EqAt.int_str i t y u _ _ _ _ h
    · rcases keyIs_shape hv with ⟨j, u, rfl, rfl⟩ | ⟨y, u, rfl, rfl⟩
      · rw [key_rl] at h; exact SeqAt.EqAt.str_int x t j u _ _ _ _ h
      · rw [key_rr] at h; exact wpAny_eqBool_str h
  «strs» := fun k x t v h => by
    rcases keyIs_shape h with ⟨i, u, rfl, e⟩ | ⟨y, u, rfl, e⟩
    · exact nomatch e
    · injection e with e1 _
      subst e1
      cases v <;> rfl

theorem mixKind_int (prog : Program) (w : World) (i : Int) (t : Tok) : (mixKind prog w).is (.inl i) (.int i t) = true := keyIs_int i t
theorem mixKind_str (prog : Program) (w : World) (x : Str) (t : Tok) : (mixKind prog w).is (.inr x) (.str x t) = true := keyIs_str x t
end L2

namespace L2
open PySem PySem.Spec PyProof.Rows

set_option genInjectivity true in
inductive V where
  | non | bl (b : Bool) | int (i : Int) | str (x : Str) | byt (b : Array UInt8) | flt (b : UInt64) | ref (a : Addr) | ty (n : String)
  deriving DecidableEq

noncomputable def RelV : V → Value → Prop
  | .non, u => u = Value.none
  | .bl b, u => u = Value.bool b
  | .int i, u => ∃ t, u = Value.int i t
  | .str x, u => ∃ t, u = Value.str x t
  | .byt b, u => ∃ t, u = Value.bytes b t
  | .flt b, u => ∃ t, u = Value.float b t
  | .ref a, u => u = Value.ref a
  | .ty n, u => u = Value.type n

noncomputable abbrev Vals : List V → List Value → Prop := Paired RelV
theorem Vals.length {xs : List V} {us : List Value} (r : Vals xs us) : xs.length = us.length := Paired.length r
theorem Vals.get : ∀ {xs : List V} {us : List Value} {i : Nat} {x : V}, Vals xs us → xs[i]? = some x → ∃ u, us[i]? = some u ∧ RelV x u
  | _, _, _, _, .nil, e => by simp at e
  | _, _, 0, _, .cons r _, e => by simp at e; subst e; exact ⟨_, rfl, r⟩
  | _, _, i + 1, x, .cons _ t, e => by
    obtain ⟨u, h1, h2⟩ := Vals.get (i := i) (x := x) t (by simpa using e)
    exact ⟨u, by simpa using h1, h2⟩
theorem Vals.set {x : V} {u : Value} (r : RelV x u) : ∀ {xs : List V} {us : List Value} (i : Nat), Vals xs us → Vals (xs.set i x) (us.set i u)
  | _, _, _, .nil => .nil
  | _, _, 0, .cons _ t => .cons r t
  | _, _, i + 1, .cons q t => .cons q (Vals.set r i t)
theorem Vals.append : ∀ {xs ys : List V} {us ws : List Value}, Vals xs us → Vals ys ws → Vals (xs ++ ys) (us ++ ws)
  | _, _, _, _, .nil, s => s
  | _, _, _, _, .cons r t, s => .cons r (Vals.append t s)
theorem Vals.take : ∀ {xs : List V} {us : List Value} (n : Nat), Vals xs us → Vals (xs.take n) (us.take n)
  | _, _, 0, _ => .nil
  | _, _, _ + 1, .nil => .nil
  | _, _, n + 1, .cons r t => .cons r (Vals.take n t)
theorem Vals.drop : ∀ {xs : List V} {us : List Value} (n : Nat), Vals xs us → Vals (xs.drop n) (us.drop n)
  | _, _, 0, r => r
  | _, _, _ + 1, .nil => .nil
  | _, _, n + 1, .cons _ t => Vals.drop n t

noncomputable def RelO : Option V → Option Value → Prop
  | some v, some u => RelV v u
  | none, none => True
  | _, _ => False
noncomputable def KV {κ : Type} : List (κ × V) → List (κ × Value) → Prop := Paired fun (p : κ × V) (q : κ × Value) => p.1 = q.1 ∧ RelV p.2 q.2

noncomputable def kV : Key → V
  | .inl i => .int i
  | .inr x => .str x

inductive HO where
    | lst (xs : List V)
    | tup (xs : List V)
    | dK (kvs : List (Key × V)) | dT (kvs : List (List Key × V))
    | set (S : Int → Bool) (n : Nat)
    | ins (C dx : Addr) (fs : List (Str × V))
    | own (x : Addr)
    | xd (fs : List (Str × V))
    | met (f x : Addr)
    | rng (lo hi : Int)
    | frz (o : Obj) (u : HO)
    | tbl (ps : Array Value)
    | ext (φ : Heap → Prop)

noncomputable abbrev Hp := Addr → Option HO
noncomputable def upd (H : Hp) (a : Addr) (o : HO) : Hp := fun b => if b = a then some o else H b
theorem upd_same {H : Hp} {a : Addr} {o : HO} : upd H a o a = some o := by unfold upd; rw [if_pos rfl]
theorem upd_ne {H : Hp} {a b : Addr} {o : HO} (h : b ≠ a) : upd H a o b = H b := by unfold upd; rw [if_neg h]
theorem ne_of {H : Hp} {a b : Addr} {o u : HO} (h : H a = some o) (h' : H b = some u) (d : o ≠ u) : a ≠ b := by
  intro e; subst e; rw [h] at h'; exact d (Option.some.inj h')
theorem ne_of_none {H : Hp} {a b : Addr} {o : HO} (h : H a = some o) (h' : H b = none) : a ≠ b := by
  intro e; subst e; rw [h] at h'; cases h'

section
variable (P : Program) (w : World)
noncomputable def ObjOk (H : Hp) (h : Heap) (a : Addr) : HO → Prop
  | .lst xs => xs.length ≤ sizeLine ∧ ∃ (its : List Value) (n : Nat), Vals xs its ∧ h.get? a = some { cls := .type "list", data := .seq its.toArray n }
  | .tup xs => xs.length ≤ sizeLine ∧ ∃ its : List Value, Vals xs its ∧ IsTup h a its.toArray
  | .dK kvs => kvs.length ≤ sizeLine ∧ (a == sysModules) = false ∧ ∃ vs, KV kvs vs ∧ h.DictOf (mixKind P w) a vs
  | .dT kvs => kvs.length ≤ sizeLine ∧ (a == sysModules) = false ∧ ∃ xs : List (List Key × Addr × Value),
      Paired (fun (p : List Key × V) (q : List Key × Addr × Value) => p.1 = q.1 ∧ H q.2.1 = some (.tup (p.1.map kV)) ∧ RelV p.2 q.2.2) kvs xs ∧
      ∃ o es ep, h.get? a = some o ∧ o.ExactDict ∧ o.data = .dict es ep ∧ es.toList = xs.map (entryOfKey (tupleKind (mixKind P w))) ∧ (xs.map (·.1)).Nodup
  | .set S n => h.SetOf (intKind P w) a S n
  | .ins C dx fs => H dx = some (.own a) ∧ fs.length ≤ 1000 ∧ dx ≠ a ∧ h.get? a = some (PySem.W.instObj C dx) ∧
      ∃ mA, h.Ns1 dx mA ∧ (∀ f, RelO (fs.lookup f) (mA f)) ∧ PySem.Within mA (fs.map (·.1))
  | .own _ => ∃ o, h.get? a = some o
  | .xd fs => ∃ mA, h.Ns1 a mA ∧ ∀ f, RelO (fs.lookup f) (mA f)
  | .rng lo hi => ∃ t u v, h.get? a = some { cls := .type "range", data := .fields #[.int lo t, .int hi u, .int 1 v] }
  | .frz o u => h.get? a = some o ∧ ObjOk H h a u
  | .tbl ps => h.get? a = some { cls := .none, data := .fields ps }
  | .met f x => h.get? a = some (PySem.W.methodObj (.ref f) (.ref x))
  | .ext φ => φ h ∧ (∃ o, h.get? a = some o) ∧ ∀ h1 h2 : Heap, φ h1 → (∀ o, h1.get? a = some o → h2.get? a = some o) → φ h2
noncomputable def HOk (H : Hp) (h : Heap) : Prop := ∀ a o, H a = some o → ObjOk P w H h a o
end

section
variable {P : Program} {w : World} {H H' : Hp} {h h' : Heap} {a : Addr} {o : HO}
theorem ObjOk.lt (x : ObjOk P w H h a o) : a < h.objs.size := by
  cases o with
  | lst xs => obtain ⟨_, _, _, _, e⟩ := x; exact Heap.lt_size e
  | tup xs => obtain ⟨_, _, _, p⟩ := x; exact p.lt
  | dK kvs => obtain ⟨_, _, _, _, o, _, _, e, _⟩ := x; exact Heap.lt_size e
  | dT kvs => obtain ⟨_, _, _, _, o, _, _, e, _⟩ := x; exact Heap.lt_size e
  | set S n => obtain ⟨o, _, _, _, e, _⟩ := x; exact Heap.lt_size e
  | ins C dx fs => obtain ⟨_, _, _, e, _⟩ := x; exact Heap.lt_size e
  | own y => obtain ⟨_, e⟩ := x; exact Heap.lt_size e
  | xd fs => obtain ⟨_, ⟨_, _, _, e, _⟩, _⟩ := x; exact Heap.lt_size e
  | rng lo hi => obtain ⟨_, _, _, e⟩ := x; exact Heap.lt_size e
  | frz ob u => obtain ⟨e, _⟩ := x; exact Heap.lt_size e
  | tbl ps => exact Heap.lt_size (show h.get? a = some _ from x)
  | met f y => exact Heap.lt_size (show h.get? a = some _ from x)
  | ext φ => obtain ⟨_, ⟨_, e⟩, _⟩ := x; exact Heap.lt_size e
theorem Paired.mapP {α β : Type} {F G : α → β → Prop} : ∀ {l₁ : List α} {l₂ : List β}, Paired F l₁ l₂ → (∀ a b, F a b → G a b) → Paired G l₁ l₂
  | _, _, .nil, _ => .nil
  | _, _, .cons r t, f => .cons (f _ _ r) (Paired.mapP t f)
theorem ObjOk.stay (x : ObjOk P w H h a o) (k : ∀ b u, (b = a ∨ H b = some (.own a)) → h.get? b = some u → h'.get? b = some u)
    (ho : ∀ b, H b = some (.own a) → H' b = some (.own a)) (ht : ∀ b xs, H b = some (.tup xs) → H' b = some (.tup xs)) : ObjOk P w H' h' a o := by
  induction o with
  | lst xs => obtain ⟨z, its, n, r, e⟩ := x; exact ⟨z, its, n, r, k _ _ (.inl rfl) e⟩
  | tup xs => obtain ⟨z, its, r, ob, e, c⟩ := x; exact ⟨z, its, r, ob, k _ _ (.inl rfl) e, c⟩
  | dK kvs => obtain ⟨z, y, vs, r, ob, es, ep, e, c⟩ := x; exact ⟨z, y, vs, r, ob, es, ep, k _ _ (.inl rfl) e, c⟩
  | dT kvs =>
    obtain ⟨z, y, xs, r, ob, es, ep, e, c⟩ := x
    exact ⟨z, y, xs, Paired.mapP r fun p q z => ⟨z.1, ht _ _ z.2.1, z.2.2⟩, ob, es, ep, k _ _ (.inl rfl) e, c⟩
  | set S n => obtain ⟨ob, es, ep, t, e, c⟩ := x; exact ⟨ob, es, ep, t, k _ _ (.inl rfl) e, c⟩
  | ins C dx fs =>
    obtain ⟨d, z, ne, e, mA, ⟨od, es, ep, e2, c⟩, r⟩ := x
    exact ⟨ho _ d, z, ne, k _ _ (.inl rfl) e, mA, ⟨od, es, ep, k _ _ (.inr d) e2, c⟩, r⟩
  | own y => obtain ⟨ob, e⟩ := x; exact ⟨ob, k _ _ (.inl rfl) e⟩
  | xd fs => obtain ⟨mA, ⟨od, es, ep, e, c⟩, r⟩ := x; exact ⟨mA, ⟨od, es, ep, k _ _ (.inl rfl) e, c⟩, r⟩
  | rng lo hi => obtain ⟨t, u, v, e⟩ := x; exact ⟨t, u, v, k _ _ (.inl rfl) e⟩
  | frz ob u ih => obtain ⟨e, q⟩ := x; exact ⟨k _ _ (.inl rfl) e, ih q⟩
  | tbl ps =>
    have e : h.get? a = some { cls := .none, data := .fields ps } := x
    show h'.get? a = some { cls := .none, data := .fields ps }
    exact k a _ (.inl rfl) e
  | met f y =>
    have e : h.get? a = some (PySem.W.methodObj (.ref f) (.ref y)) := x
    show h'.get? a = some (PySem.W.methodObj (.ref f) (.ref y))
    exact k a _ (.inl rfl) e
  | ext φ => obtain ⟨p, ⟨o, e⟩, st⟩ := x; exact ⟨st _ _ p fun o q => k _ _ (.inl rfl) q, ⟨o, k _ _ (.inl rfl) e⟩, st⟩
theorem HOk.lt (x : HOk P w H h) (e : H a = some o) : a < h.objs.size := (x a o e).lt
theorem HOk.fresh (x : HOk P w H h) (e : h.objs.size ≤ a) : H a = none := by
  cases q : H a with
  | none => rfl
  | some u => exact absurd (Nat.lt_of_lt_of_le (x.lt q) e) (Nat.lt_irrefl _)
theorem HOk.kept (x : HOk P w H h) (k : ∀ b u, h.get? b = some u → h'.get? b = some u) : HOk P w H h' := fun a o e =>
  (x a o e).stay (fun b u _ q => k b u q) (fun _ q => q) fun _ _ q => q
theorem HOk.laid (x : HOk P w H h) (k : ∀ b u, h.get? b = some u → h'.get? b = some u) (hp : h.objs.size ≤ a) (new : ObjOk P w (upd H a o) h' a o) : HOk P w (upd H a o) h' := fun b u e => by
  have hn := x.fresh hp
  by_cases hb : b = a
  · subst hb; rw [upd_same] at e; cases e; exact new
  · rw [upd_ne hb] at e
    exact (x b u e).stay (fun c v _ q => k c v q) (fun c q => by rw [upd_ne (ne_of_none q hn)]; exact q) fun c xs q => by rw [upd_ne (ne_of_none q hn)]; exact q
end

noncomputable def Rd (H : Hp) (a : Addr) (u : HO) : Prop := H a = some u ∨ ∃ o, H a = some (.frz o u)
theorem Rd.ok {P : Program} {w : World} {H : Hp} {h : Heap} {a : Addr} {u : HO} (r : Rd H a u) (x : HOk P w H h) : ObjOk P w H h a u := by
  rcases r with r | ⟨o, r⟩
  · exact x a u r
  · obtain ⟨_, q⟩ := x a _ r
    exact q
noncomputable def Mut : Option HO → Prop
  | some (.lst _) => True
  | some (.dK _) => True
  | some (.dT _) => True
  | some (.set _ _) => True
  | some (.ins _ _ _) => True
  | some (.ext _) => True
  | _ => False
section
variable {P : Program} {w : World} {H : Hp} {h h' : Heap} {x e : Addr} {o' : HO}
theorem HOk.write (ok : HOk P w H h) (mu : Mut (H x)) (he : e = x ∨ H e = some (.own x)) (k : ∀ b u, b ≠ e → h.get? b = some u → h'.get? b = some u) (heo : ∃ u, h'.get? e = some u)
    (new : ObjOk P w (upd H x o') h' x o') : HOk P w (upd H x o') h' := fun b u q => by
  have nown : ∀ c y, H c = some (.own y) → c ≠ x := fun c y r z => by subst z; rw [r] at mu; exact mu
  have ntup : ∀ c xs, H c = some (.tup xs) → c ≠ x := fun c xs r z => by subst z; rw [r] at mu; exact mu
  by_cases hb : b = x
  · subst hb; rw [upd_same] at q; cases q; exact new
  · rw [upd_ne hb] at q
    by_cases hbe : b = e
    · have q' : H b = some (.own x) := by
        rcases he with z | z
        · exact absurd (hbe.trans z) hb
        · rw [hbe]; exact z
      rw [q] at q'; cases q'
      obtain ⟨v, hv⟩ := heo
      exact ⟨v, by rw [hbe]; exact hv⟩
    · refine (ok b u q).stay (fun c v hc r => k c v ?_ r) (fun c r => by rw [upd_ne (nown c b r)]; exact r) fun c xs r => by rw [upd_ne (ntup c xs r)]; exact r
      rcases hc with rfl | hc
      · exact hbe
      · rintro rfl
        rcases he with z | z
        · exact nown c b hc z
        · rw [hc] at z; cases z; exact hb rfl
end

structure Un (fs ex : List Addr) (H H' : Hp) (h h' : Heap) : Prop where
  keep : ∀ b o, h.get? b = some o → H b = none → b ∉ fs → b ∉ ex → h'.get? b = some o
  slot : ∀ b o, h.get? b = some o → H b = none → b ∈ fs → b ∉ ex → ∃ sl, h'.get? b = some { o with slots := sl }
  free : ∀ b o, h.get? b = some o → H b = none → b ∉ ex → H' b = none
  there : ∀ b o, h.get? b = some o → b ∉ ex → ∃ o', h'.get? b = some o'
  tups : ∀ b xs, H b = some (.tup xs) → H' b = some (.tup xs)
  frzs : ∀ b o u, H b = some (.frz o u) → H' b = some (.frz o u)
  tbls : ∀ b ps, H b = some (.tbl ps) → ∃ more, H' b = some (.tbl (ps ++ more))
section
variable {fs fs' ex ex' : List Addr} {H H1 H2 : Hp} {h h1 h2 h' : Heap} {a x e : Addr} {o : HO}
theorem Un.any (u : Un fs ex H H1 h h1) {b : Addr} {ob : Obj} (q : h.get? b = some ob) (n : H b = none) (hx : b ∉ ex) : ∃ sl, h1.get? b = some { ob with slots := sl } := by
  by_cases hb : b ∈ fs
  · exact u.slot b ob q n hb hx
  · exact ⟨ob.slots, u.keep b ob q n hb hx⟩
theorem Un.kept (k : ∀ b u, h.get? b = some u → h'.get? b = some u) : Un fs ex H H h h' :=
  ⟨fun b ob q _ _ _ => k b ob q, fun b ob q _ _ _ => ⟨ob.slots, k b ob q⟩, fun _ _ _ n _ => n, fun b ob q _ => ⟨ob, k b ob q⟩, fun _ _ q => q, fun _ _ _ q => q, fun _ ps q => ⟨#[], by rw [q]; simp⟩⟩
theorem Un.refl : Un fs ex H H h h := Un.kept fun _ _ q => q
theorem Un.laid (k : ∀ b u, h.get? b = some u → h'.get? b = some u) (hp : h.objs.size ≤ a) (hn : H a = none) : Un fs ex H (upd H a o) h h' where
  keep := fun b u q _ _ _ => k b u q
  slot := fun b u q _ _ _ => ⟨u.slots, k b u q⟩
  free := fun b u q n _ => by rw [upd_ne (Nat.ne_of_lt (Nat.lt_of_lt_of_le (Heap.lt_size q) hp))]; exact n
  there := fun b u q _ => ⟨u, k b u q⟩
  tups := fun b xs q => by rw [upd_ne (ne_of_none q hn)]; exact q
  frzs := fun b u xs q => by rw [upd_ne (ne_of_none q hn)]; exact q
  tbls := fun b ps q => ⟨#[], by rw [upd_ne (ne_of_none q hn), q]; simp⟩
theorem Un.write (mu : Mut (H x)) (he : e = x ∨ H e = some (.own x)) (k : ∀ b u, b ≠ e → h.get? b = some u → h'.get? b = some u) (heo : ∃ u, h'.get? e = some u) : Un fs ex H (upd H x o) h h' := by
  have hx : ∀ b, H b = none → b ≠ x := fun b n z => by subst z; rw [n] at mu; exact mu
  have hb : ∀ b, H b = none → b ≠ e := fun b n z => by
    subst z
    rcases he with r | r
    · exact hx b n r
    · rw [n] at r; cases r
  have hm : ∀ b u, H b = some u → ¬ Mut (some u) → b ≠ x := fun b u q nm z => by subst z; rw [q] at mu; exact nm mu
  refine ⟨fun b u q n _ _ => k b u (hb b n) q, fun b u q n _ _ => ⟨u.slots, k b u (hb b n) q⟩, fun b u q n _ => by rw [upd_ne (hx b n)]; exact n, fun b u q _ => ?_,
    fun b xs q => by rw [upd_ne (hm b _ q fun z => z)]; exact q, fun b u xs q => by rw [upd_ne (hm b _ q fun z => z)]; exact q, fun b ps q => ⟨#[], by rw [upd_ne (hm b _ q fun z => z), q]; simp⟩⟩
  by_cases hbe : b = e
  · subst hbe; exact heo
  · exact ⟨u, k b u hbe q⟩
end

noncomputable def trk (h : Heap) (H : Hp) : List Addr := (List.range h.objs.size).filter fun a => (H a).isSome
noncomputable def hidT (h : Heap) (H : Hp) : Heap := PySem.W.hideAll h (trk h H)
theorem hidT_size (h : Heap) (H : Hp) : (hidT h H).objs.size = h.objs.size := PySem.W.hideAll_size _ _
theorem hidT_get {h : Heap} {H : Hp} {b : Addr} {o : Obj} (e : h.get? b = some o) (n : H b = none) : (hidT h H).get? b = some o :=
  PySem.W.hideAll_get _ e fun hm => by
    have q : (H b).isSome = true := (List.mem_filter.mp hm).2
    rw [n] at q; simp at q
theorem of_hidT {h : Heap} {H : Hp} {b : Addr} {o : Obj} (e : (hidT h H).get? b = some o) : h.get? b = some o ∧ H b = none := by
  have e' : h.get? b = some o := PySem.W.of_hideAll (trk h H) e
  refine ⟨e', ?_⟩
  cases q : H b with
  | none => rfl
  | some x =>
    have hm : b ∈ trk h H := List.mem_filter.mpr ⟨List.mem_range.mpr (Heap.lt_size e'), by simp [q]⟩
    have z : (hidT h H).get? b = none := PySem.W.hideAll_none (trk h H) hm
    rw [z] at e; cases e

end L2

namespace L2
open PySem PySem.Spec PyProof.Rows

structure Mod (K : PySem.W.Frag) (mg : Str → Option Value) (base : Heap) : Prop where
  kin : K.In base
  glob : base.Ns mainGlobals mg
  blt : ∃ mb, base.Ns builtinsNs mb ∧ ∀ x : Str, x ≠ "__name__" → mb x = bootBuiltins x
  nolimit : base.NoLimit

structure Cx where
  prog : Program
  w : World
  K : PySem.W.Frag
  mg : Str → Option Value
  base : Heap
  A : Around
  N : List Str
  s₀ : Shared
  H₀ : Hp
  env : Env
  outer : List Env
  stack : List Env
  ex : List Addr
  fn : Str → Bool
  calm : Bool
  pn : List (Addr × Obj)
  xe : Value → Shared → Prop
noncomputable def frs (l : List Env) : List Addr := l.filterMap (·.frame)
noncomputable abbrev Cx.fs (X : Cx) : List Addr := frs X.outer

noncomputable def Vis (sc : Scope) (x : Str) : Prop := sc.names.lookup x = some .local ∨ sc.names.lookup x = some .cell ∨ sc.names.lookup x = some .free
noncomputable def Loc (sc : Scope) (x : Str) : Prop := sc.names.lookup x = some .local ∨ sc.names.lookup x = some .cell
noncomputable def Look (env : Env) (h : Heap) (m : Str → Option Value) (x : Str) (u : Value) : Prop :=
  (env.kindOf x = some .local ∧ m x = some u) ∨ ((env.kindOf x = some .cell ∨ env.kindOf x = some .free) ∧ ∃ c, env.cells.lookup x = some c ∧ h.IsCell c (some u))

structure Cx.Ok (X : Cx) : Prop where
  mod : Mod X.K X.mg X.base
  kind : X.env.scope.kind = .function
  glob : X.env.globals = mainGlobals
  blt : X.env.builtins = builtinsNs
  above : X.s₀.heap.objs.size ≤ X.env.locals
  inj : ∀ x y c, X.env.cells.lookup x = some c → X.env.cells.lookup y = some c → x = y
  has : ∀ x, (X.env.kindOf x = some .cell ∨ X.env.kindOf x = some .free) → ∃ c, X.env.cells.lookup x = some c
  cab : ∀ x c, X.fn x = true → X.env.cells.lookup x = some c → X.s₀.heap.objs.size ≤ c
  hd : X.calm = true → X.A.handled = none
  frames : X.A.frames = some X.stack
  stk : X.stack = X.outer ∨ (X.stack = X.env :: X.outer ∧ X.env.frame = some X.env.locals)
  exf : ∀ b ∈ X.ex, b ≠ X.env.locals ∧ ∀ x c, X.env.cells.lookup x = some c → c ≠ b
  bs : ∀ b o, X.base.get? b = some o → X.s₀.heap.get? b = some o ∧ X.H₀ b = none
  bsz : X.base.objs.size ≤ X.s₀.heap.objs.size
  noex : ∀ b o, X.base.get? b = some o → b ∉ X.ex
  exfs : ∀ b ∈ X.ex, b ∉ X.fs
  funs : X.s₀.heap.FunFrames X.base X.outer
  frf : ∀ b ∈ X.fs, X.H₀ b = none

structure Inv (X : Cx) (pins : List (Addr × Obj)) (σ : List (Option V)) (H : Hp) (s : Shared) : Prop where
  ok : X.Ok
  os : s.os = X.s₀.os
  bare : AllBare s.gens
  base : Un X.fs X.ex X.H₀ H X.s₀.heap s.heap
  loc : ∃ m, s.heap.Ns X.env.locals m ∧ ∀ (i : Nat) (x : Str) (v : V), X.N[i]? = some x → σ[i]? = some (some v) → Vis X.env.scope x → ∃ u, RelV v u ∧ Look X.env s.heap m x u
  cell : ∀ x c, X.env.cells.lookup x = some c → ∃ v, s.heap.IsCell c v
  free : H X.env.locals = none
  freeC : ∀ x c, X.env.cells.lookup x = some c → H c = none
  pin : ∀ p ∈ X.pn ++ pins, s.heap.get? p.1 = some p.2 ∧ H p.1 = none ∧ p.1 ≠ X.env.locals ∧ p.1 ∉ X.fs ∧ ∀ v, p.2.data ≠ .cell v
  hok : HOk X.prog X.w H s.heap
  len : σ.length = X.N.length

section
variable {X : Cx} {pins : List (Addr × Obj)} {σ : List (Option V)} {H H' : Hp} {s : Shared} {h' : Heap}

theorem Cx.Ok.nofr (ok : X.Ok) {b : Addr} {o : Obj} (e : X.base.get? b = some o) : b ∉ X.fs := fun hb => by
  have := (ok.funs.mem hb).1
  rw [e] at this; cases this
theorem Inv.bs (I : Inv X pins σ H s) : ∀ b o, X.base.get? b = some o → s.heap.get? b = some o ∧ H b = none := fun b o e =>
  ⟨I.base.keep b o (I.ok.bs b o e).1 (I.ok.bs b o e).2 (I.ok.nofr e) (I.ok.noex b o e), I.base.free b o (I.ok.bs b o e).1 (I.ok.bs b o e).2 (I.ok.noex b o e)⟩
theorem Inv.bk (I : Inv X pins σ H s) : ∀ b o, X.base.get? b = some o → s.heap.get? b = some o := fun b o e => (I.bs b o e).1
theorem Inv.mod (I : Inv X pins σ H s) : Mod X.K X.mg X.base := I.ok.mod
theorem Inv.kIn (I : Inv X pins σ H s) : X.K.In s.heap := I.ok.mod.kin.keeps I.bk
theorem Inv.lt (I : Inv X pins σ H s) : X.env.locals < s.heap.objs.size := let ⟨_, hn, _⟩ := I.loc; hn.lt
theorem Inv.sz (I : Inv X pins σ H s) : X.s₀.heap.objs.size ≤ s.heap.objs.size := Nat.le_trans I.ok.above (Nat.le_of_lt I.lt)
theorem Inv.nofs (I : Inv X pins σ H s) {a : Addr} (h : s.heap.objs.size ≤ a) : a ∉ X.fs := fun hb => by
  obtain ⟨_, o, ho, _⟩ := I.ok.funs.mem hb
  exact absurd (Nat.lt_of_lt_of_le (Heap.lt_size ho) (Nat.le_trans I.sz h)) (Nat.lt_irrefl _)
theorem Inv.cne (I : Inv X pins σ H s) : ∀ x c, X.env.cells.lookup x = some c → c ≠ X.env.locals := fun x c e z => by
  obtain ⟨v, o, ho, hd⟩ := I.cell x c e
  obtain ⟨m, ⟨o', es, ep, ho', hd', _⟩, _⟩ := I.loc
  rw [z, ho'] at ho; cases ho; rw [hd'] at hd; cases hd
theorem Inv.funs (I : Inv X pins σ H s) : s.heap.FunFrames X.base X.outer := by
  have all : ∀ (l : List Env), (∀ b ∈ frs l, b ∈ X.fs) → X.s₀.heap.FunFrames X.base l → s.heap.FunFrames X.base l := by
    intro l
    induction l with
    | nil => intro _ _; trivial
    | cons env r ih =>
      intro hs hl
      obtain ⟨hk, ⟨L, o, hf, hn, ho, hd⟩, hr⟩ := hl
      have hL : L ∈ X.fs := hs L (by unfold frs; rw [List.filterMap_cons, hf]; exact List.mem_cons_self)
      obtain ⟨sl, e⟩ := I.base.slot L o ho (I.ok.frf L hL) hL fun z => I.ok.exfs L z hL
      exact ⟨hk, ⟨L, _, hf, hn, e, hd⟩, ih (fun b hb => hs b (by unfold frs; rw [List.filterMap_cons, hf]; exact List.mem_cons_of_mem _ hb)) hr⟩
  exact all X.outer (fun _ hb => hb) I.ok.funs

theorem Inv.stack (I : Inv X pins σ H s) : s.heap.FunFrames X.base X.stack := by
  rcases I.ok.stk with e | ⟨e, hf⟩
  · rw [e]; exact I.funs
  · rw [e]
    obtain ⟨m, hn, _⟩ := I.loc
    refine .cons (by rw [I.ok.kind]; decide) hf hn ?_ I.funs
    exact Heap.get?_none_of_le (Nat.le_trans I.ok.bsz I.ok.above)
theorem Inv.stkSub (I : Inv X pins σ H s) : ∀ b ∈ frs X.stack, b ∈ X.env.locals :: X.fs := fun b hb => by
  rcases I.ok.stk with e | ⟨e, hf⟩
  · rw [e] at hb; exact List.mem_cons_of_mem _ hb
  · rw [e] at hb
    unfold frs at hb
    rw [List.filterMap_cons, hf] at hb
    exact hb
theorem Inv.stkFree (I : Inv X pins σ H s) : ∀ b ∈ frs X.stack, H b = none := fun b hb => by
  rcases List.mem_cons.mp (I.stkSub b hb) with e | hb
  · rw [e]; exact I.free
  · obtain ⟨_, o, ho, _⟩ := I.ok.funs.mem hb
    exact I.base.free b o ho (I.ok.frf b hb) fun z => I.ok.exfs b z hb

theorem Inv.step {g' : Array GenState} {t' : Nat} {d' : Drawn} {ch : List Addr} (I : Inv X pins σ H s)
    (hch : ∀ b ∈ ch, (b ∈ X.ex ∨ X.s₀.heap.objs.size ≤ b) ∧ b ≠ X.env.locals ∧ (∀ x c, X.env.cells.lookup x = some c → c ≠ b) ∧ ∀ p ∈ X.pn ++ pins, p.1 ≠ b)
    (keep : ∀ b o, b ≠ X.env.locals → b ∉ X.fs → b ∉ ch → s.heap.get? b = some o → H b = none → h'.get? b = some o)
    (slot : ∀ b o, b ≠ X.env.locals → b ∈ X.fs → b ∉ ch → s.heap.get? b = some o → H b = none → ∃ sl, h'.get? b = some { o with slots := sl }) (free : ∀ b o, b ∉ ch → s.heap.get? b = some o → H b = none → H' b = none)
    (there : ∀ b o, b ∉ ch → s.heap.get? b = some o → ∃ o', h'.get? b = some o')
    (tups : ∀ b xs, H b = some (.tup xs) → H' b = some (.tup xs)) (frzs : ∀ b o u, H b = some (.frz o u) → H' b = some (.frz o u)) (tbls : ∀ b ps, H b = some (.tbl ps) → ∃ more, H' b = some (.tbl (ps ++ more)))
    (ns : ∀ m, s.heap.Ns X.env.locals m → h'.Ns X.env.locals m) (hok : HOk X.prog X.w H' h') (hg : AllBare g') :
    Inv X pins σ H' { s with heap := h', gens := g', drawn := d', toks := t' } := by
  have neL : ∀ b o, X.s₀.heap.get? b = some o → b ≠ X.env.locals := fun b o e => Nat.ne_of_lt (Nat.lt_of_lt_of_le (Heap.lt_size e) I.ok.above)
  have neC : ∀ b o, X.s₀.heap.get? b = some o → b ∉ X.ex → b ∉ ch := fun b o e hx hb => by
    rcases (hch b hb).1 with z | z
    · exact hx z
    · exact absurd (Nat.lt_of_lt_of_le (Heap.lt_size e) z) (Nat.lt_irrefl _)
  have cellK : ∀ x c, X.env.cells.lookup x = some c → ∀ v, s.heap.IsCell c v → h'.IsCell c v := fun x c e v ⟨o, ho, hd⟩ => by
    have nch : c ∉ ch := fun z => (hch c z).2.2.1 x c e rfl
    by_cases hc : c ∈ X.fs
    · obtain ⟨sl, q⟩ := slot c o (I.cne x c e) hc nch ho (I.freeC x c e)
      exact ⟨_, q, hd⟩
    · exact ⟨o, keep c o (I.cne x c e) hc nch ho (I.freeC x c e), hd⟩
  refine ⟨I.ok, I.os, hg, ⟨fun b o e n hb hx => ?_, fun b o e n hb hx => ?_, fun b o e n hx => ?_, fun b o e hx => ?_, fun b xs e => tups b xs (I.base.tups b xs e), fun b o xs e => frzs b o xs (I.base.frzs b o xs e), fun b ps e => ?_⟩, ?_, fun x c e => ?_, ?_, fun x c e => ?_, fun p hp => ?_, hok, I.len⟩
  · exact keep b o (neL b o e) hb (neC b o e hx) (I.base.keep b o e n hb hx) (I.base.free b o e n hx)
  · obtain ⟨sl, e1⟩ := I.base.slot b o e n hb hx
    obtain ⟨sl', e2⟩ := slot b _ (neL b o e) hb (neC b o e hx) e1 (I.base.free b o e n hx)
    exact ⟨sl', e2⟩
  · obtain ⟨o', e1⟩ := I.base.there b o e hx
    exact free b o' (neC b o e hx) e1 (I.base.free b o e n hx)
  · obtain ⟨o', e1⟩ := I.base.there b o e hx
    exact there b o' (neC b o e hx) e1
  · obtain ⟨m1, e1⟩ := I.base.tbls b ps e
    obtain ⟨m2, e2⟩ := tbls b _ e1
    exact ⟨m1 ++ m2, by rw [e2, Array.append_assoc]⟩
  · obtain ⟨m, hn, hl⟩ := I.loc
    refine ⟨m, ns m hn, fun i x v e1 e2 e3 => ?_⟩
    obtain ⟨u, r, l⟩ := hl i x v e1 e2 e3
    refine ⟨u, r, ?_⟩
    rcases l with l | ⟨k, c, e, z⟩
    · exact .inl l
    · exact .inr ⟨k, c, e, cellK x c e _ z⟩
  · obtain ⟨v, z⟩ := I.cell x c e
    exact ⟨v, cellK x c e v z⟩
  · obtain ⟨m, ⟨o, _, _, ho, _⟩, _⟩ := I.loc
    exact free _ o (fun z => (hch _ z).2.1 rfl) ho I.free
  · obtain ⟨v, o, ho, hd⟩ := I.cell x c e
    exact free c o (fun z => (hch c z).2.2.1 x c e rfl) ho (I.freeC x c e)
  · obtain ⟨e, n, ne, nf, d⟩ := I.pin p hp
    have nch : p.1 ∉ ch := fun z => (hch p.1 z).2.2.2 p hp rfl
    exact ⟨keep p.1 p.2 ne nf nch e n, free p.1 p.2 nch e n, ne, nf, d⟩
theorem Inv.un {t' : Nat} (I : Inv X pins σ H s) (u : Un X.fs [] H H' s.heap h') (hok : HOk X.prog X.w H' h') : Inv X pins σ H' { s with heap := h', toks := t' } := by
  obtain ⟨m, ⟨o, es, ep, ho, r⟩, _⟩ := id I.loc
  obtain ⟨sl, hL⟩ := u.any ho I.free (by simp)
  exact I.step (g' := s.gens) (d' := s.drawn) (ch := []) (fun _ z => nomatch z) (fun b o _ hb _ e n => u.keep b o e n hb (by simp)) (fun b o _ hb _ e n => u.slot b o e n hb (by simp)) (fun b o _ e n => u.free b o e n (by simp)) (fun b o _ e => u.there b o e (by simp)) u.tups u.frzs u.tbls (fun m' hm => by
    obtain ⟨o', es', ep', ho', r'⟩ := hm
    rw [ho] at ho'; cases ho'
    exact ⟨_, es', ep', hL, r'⟩) hok I.bare
theorem Inv.call {g' : Array GenState} {t' : Nat} {d' : Drawn} {ch : List Addr} (I : Inv X pins σ H s) (u : Un (frs X.stack) ch H H' s.heap h') (hok : HOk X.prog X.w H' h') (hg : AllBare g')
    (hch : ∀ b ∈ ch, (b ∈ X.ex ∨ X.s₀.heap.objs.size ≤ b) ∧ b ≠ X.env.locals ∧ (∀ x c, X.env.cells.lookup x = some c → c ≠ b) ∧ ∀ p ∈ X.pn ++ pins, p.1 ≠ b) :
    Inv X pins σ H' { s with heap := h', gens := g', drawn := d', toks := t' } := by
  obtain ⟨m, ⟨o, es, ep, ho, r⟩, _⟩ := id I.loc
  obtain ⟨sl, hL⟩ := u.any ho I.free fun z => (hch _ z).2.1 rfl
  exact I.step (ch := ch) hch (fun b o hL hb hc e n => u.keep b o e n (fun z => (List.mem_cons.mp (I.stkSub b z)).elim hL hb) hc) (fun b o _ _ hc e n => u.any e n hc) (fun b o hc e n => u.free b o e n hc) (fun b o hc e => u.there b o e hc) u.tups u.frzs u.tbls (fun m' hm => by
    obtain ⟨o', es', ep', ho', r'⟩ := hm
    rw [ho] at ho'; cases ho'
    exact ⟨_, es', ep', hL, r'⟩) hok hg
theorem Inv.turned {t' : Nat} {it : Addr} (I : Inv X pins σ H s) (k : ∀ b o, b ≠ it → s.heap.get? b = some o → h'.get? b = some o) (hn : H it = none) (hL : it ≠ X.env.locals)
    (h1 : it ∈ X.ex ∨ X.s₀.heap.objs.size ≤ it) (h2 : ∀ x c, X.env.cells.lookup x = some c → c ≠ it) (h3 : ∀ p ∈ X.pn ++ pins, p.1 ≠ it) : Inv X pins σ H { s with heap := h', toks := t' } := by
  have nit : ∀ b u, H b = some u → b ≠ it := fun b u e z => by rw [z, hn] at e; cases e
  refine I.step (g' := s.gens) (d' := s.drawn) (ch := [it]) (fun b hb => ?_) (fun b o _ _ hc e _ => k b o (fun z => hc (by simp [z])) e) (fun b o _ _ hc e _ => ⟨o.slots, k b o (fun z => hc (by simp [z])) e⟩) (fun _ _ _ _ n => n)
    (fun b o hc e => ⟨o, k b o (fun z => hc (by simp [z])) e⟩) (fun _ _ e => e) (fun _ _ _ e => e) (fun b ps e => ⟨#[], by rw [e]; simp⟩) (fun m hm => ?_) (fun b u e => ?_) I.bare
  · have e : b = it := by simpa using hb
    subst e
    exact ⟨h1, hL, h2, h3⟩
  · obtain ⟨o, es, ep, ho, r⟩ := hm
    exact ⟨o, es, ep, k _ o (Ne.symm hL) ho, r⟩
  · refine (I.hok b u e).stay (fun c v hc q => k c v ?_ q) (fun _ q => q) fun _ _ q => q
    rcases hc with z | z
    · rw [z]; exact nit b u e
    · exact nit c _ z
theorem Inv.tok (I : Inv X pins σ H s) (t : Nat) : Inv X pins σ H { s with toks := t } := I.un (h' := s.heap) (t' := t) Un.refl I.hok
theorem Inv.kept {t' : Nat} (I : Inv X pins σ H s) (k : ∀ b u, s.heap.get? b = some u → h'.get? b = some u) : Inv X pins σ H { s with heap := h', toks := t' } := I.un (Un.kept k) (I.hok.kept k)
theorem Inv.laid {a : Addr} {o : HO} {t' : Nat} (I : Inv X pins σ H s) (k : ∀ b u, s.heap.get? b = some u → h'.get? b = some u) (hp : s.heap.objs.size ≤ a) (new : ObjOk X.prog X.w (upd H a o) h' a o) :
    Inv X pins σ (upd H a o) { s with heap := h', toks := t' } := I.un (Un.laid k hp (I.hok.fresh hp)) (I.hok.laid k hp new)
theorem Inv.write {x e : Addr} {o : HO} {t' : Nat} (I : Inv X pins σ H s) (mu : Mut (H x)) (he : e = x ∨ H e = some (.own x)) (k : ∀ b u, b ≠ e → s.heap.get? b = some u → h'.get? b = some u) (heo : ∃ u, h'.get? e = some u)
    (new : ObjOk X.prog X.w (upd H x o) h' x o) : Inv X pins σ (upd H x o) { s with heap := h', toks := t' } := I.un (Un.write mu he k heo) (I.hok.write mu he k heo new)
theorem Inv.pins_of {pins' : List (Addr × Obj)} (I : Inv X pins σ H s) (h : ∀ p ∈ pins', s.heap.get? p.1 = some p.2 ∧ H p.1 = none ∧ p.1 ≠ X.env.locals ∧ p.1 ∉ X.fs ∧ ∀ v, p.2.data ≠ .cell v) : Inv X pins' σ H s :=
  ⟨I.ok, I.os, I.bare, I.base, I.loc, I.cell, I.free, I.freeC, fun p hp => (List.mem_append.mp hp).elim (fun z => I.pin p (List.mem_append_left _ z)) (h p), I.hok, I.len⟩

theorem nodup_ix {N : List Str} (hN : N.Nodup) {i j : Nat} {x : Str} (a : N[i]? = some x) (b : N[j]? = some x) : i = j := by
  obtain ⟨h1, e1⟩ := List.getElem?_eq_some_iff.mp a
  obtain ⟨h2, e2⟩ := List.getElem?_eq_some_iff.mp b
  exact (List.getElem_inj hN).mp (e1.trans e2.symm)

theorem store_ok2 {M : Model} {A : Around} {E : Value → Shared → Prop} {i : Nat} {x : Str} {v : V} {u : Value} {Q : Unit → Shared → Prop} (I : Inv X pins σ H s) (hN : X.N.Nodup) (hi : X.N[i]? = some x) (hx : Loc X.env.scope x) (r : RelV v u)
    (h : ∀ s', Inv X pins (σ.set i (some v)) H s' → (∃ a, Heap.SameBut a s.heap s'.heap ∧ (a = X.env.locals ∨ X.env.cells.lookup x = some a)) → Q () s') (hf : X.fn x = true ∨ X.env.scope.names.lookup x = some .local := by first | exact .inl rfl | exact .inr rfl | assumption) : wpAny M A (storeName X.env x u) Q E s := by
  obtain ⟨m, hn, hl⟩ := id I.loc
  have hcls : (X.env.scope.kind == .class || (X.env.scope.kind == .module && X.env.locals != X.env.globals)) = false := by rw [I.ok.kind]; rfl
  have hiσ : i < σ.length := by rw [I.len]; exact (List.getElem?_eq_some_iff.mp hi).1
  have cne := I.cne
  have tracked : ∀ {a : Addr} {h' : Heap}, (∃ o, s.heap.get? a = some o ∧ H a = none) → Heap.SameBut a s.heap h' → HOk X.prog X.w H h' := fun {a h'} ha hs b ob e => by
    obtain ⟨_, _, hfree⟩ := ha
    refine (I.hok b ob e).stay (fun c w' hc q => (hs.2 c ?_).trans q) (fun _ q => q) fun _ _ q => q
    rintro rfl
    rcases hc with rfl | hc
    · rw [hfree] at e; cases e
    · rw [hfree] at hc; cases hc
  rcases hx with hk | hk
  · refine wpAny_storeName_local hk hn (fun h' hn' hs => ?_) hcls
    obtain ⟨oL, _, _, hoL, _⟩ := id hn
    refine h _ ⟨I.ok, I.os, I.bare, ⟨fun b o e n hb hx => ?_, fun b o e n hb hx => ?_, I.base.free, fun b o e hx => ?_, I.base.tups, I.base.frzs, I.base.tbls⟩, ⟨_, hn', fun j y v' e1 e2 e3 => ?_⟩, fun y c e => ?_, I.free, I.freeC, fun p hp => ?_, tracked ⟨oL, hoL, I.free⟩ hs, by simpa using I.len⟩ ⟨_, hs, .inl rfl⟩
    · exact (hs.2 b (Nat.ne_of_lt (Nat.lt_of_lt_of_le (Heap.lt_size e) I.ok.above))).trans (I.base.keep b o e n hb hx)
    · obtain ⟨sl, e1⟩ := I.base.slot b o e n hb hx
      exact ⟨sl, (hs.2 b (Nat.ne_of_lt (Nat.lt_of_lt_of_le (Heap.lt_size e) I.ok.above))).trans e1⟩
    · obtain ⟨o', e1⟩ := I.base.there b o e hx
      exact ⟨o', (hs.2 b (Nat.ne_of_lt (Nat.lt_of_lt_of_le (Heap.lt_size e) I.ok.above))).trans e1⟩
    · by_cases hj : j = i
      · subst hj
        rw [hi] at e1; cases e1
        rw [List.getElem?_set_self hiσ] at e2
        cases e2
        exact ⟨u, r, .inl ⟨hk, by simp⟩⟩
      · rw [List.getElem?_set_ne (Ne.symm hj)] at e2
        obtain ⟨u', r', q⟩ := hl j y v' e1 e2 e3
        refine ⟨u', r', ?_⟩
        rcases q with ⟨k, e⟩ | ⟨k, c, e, z⟩
        · refine .inl ⟨k, ?_⟩
          have : y ≠ x := fun e => hj (nodup_ix hN e1 (e ▸ hi))
          simp [this, e]
        · exact .inr ⟨k, c, e, z.sameBut hs (cne y c e)⟩
    · obtain ⟨w', z⟩ := I.cell y c e
      exact ⟨w', z.sameBut hs (cne y c e)⟩
    · obtain ⟨e, n, ne, nf, d⟩ := I.pin p hp
      exact ⟨(hs.2 p.1 ne).trans e, n, ne, nf, d⟩
  · have hfn : X.fn x = true := by
      rcases hf with z | z
      · exact z
      · rw [z] at hk; cases hk
    obtain ⟨c, hc⟩ := I.ok.has x (.inl hk)
    obtain ⟨w', z⟩ := I.cell x c hc
    refine wpAny_storeName_cell I.ok.kind hk hc z (fun h' hc' hs => ?_)
    obtain ⟨oc, hoc, hocd⟩ := id z
    refine h { s with heap := h' } ⟨I.ok, I.os, I.bare, ⟨fun b o e n hb hx => ?_, fun b o e n hb hx => ?_, I.base.free, fun b o e hx => ?_, I.base.tups, I.base.frzs, I.base.tbls⟩, ⟨m, hn.sameBut hs (Ne.symm (cne x c hc)), fun j y v' e1 e2 e3 => ?_⟩, fun y c' e => ?_, I.free, I.freeC, fun p hp => ?_, tracked ⟨oc, hoc, I.freeC x c hc⟩ hs, by simpa using I.len⟩ ⟨c, hs, .inr hc⟩
    · exact (hs.2 b (Nat.ne_of_lt (Nat.lt_of_lt_of_le (Heap.lt_size e) (I.ok.cab x c hfn hc)))).trans (I.base.keep b o e n hb hx)
    · obtain ⟨sl, e1⟩ := I.base.slot b o e n hb hx
      exact ⟨sl, (hs.2 b (Nat.ne_of_lt (Nat.lt_of_lt_of_le (Heap.lt_size e) (I.ok.cab x c hfn hc)))).trans e1⟩
    · obtain ⟨o', e1⟩ := I.base.there b o e hx
      exact ⟨o', (hs.2 b (Nat.ne_of_lt (Nat.lt_of_lt_of_le (Heap.lt_size e) (I.ok.cab x c hfn hc)))).trans e1⟩
    · by_cases hj : j = i
      · subst hj
        rw [hi] at e1; cases e1
        rw [List.getElem?_set_self hiσ] at e2
        cases e2
        exact ⟨u, r, .inr ⟨.inl hk, c, hc, hc'⟩⟩
      · rw [List.getElem?_set_ne (Ne.symm hj)] at e2
        obtain ⟨u', r', q⟩ := hl j y v' e1 e2 e3
        refine ⟨u', r', ?_⟩
        rcases q with q | ⟨k, c', e, z'⟩
        · exact .inl q
        · refine .inr ⟨k, c', e, z'.sameBut hs ?_⟩
          rintro rfl
          exact hj (nodup_ix hN e1 (I.ok.inj _ _ _ e hc ▸ hi))
    · by_cases hcc : c' = c
      · subst hcc; exact ⟨_, hc'⟩
      · obtain ⟨w2, z2⟩ := I.cell y c' e
        exact ⟨w2, z2.sameBut hs hcc⟩
    · obtain ⟨e, n, ne, nf, d⟩ := I.pin p hp
      refine ⟨(hs.2 p.1 ?_).trans e, n, ne, nf, d⟩
      intro q
      rw [q, hoc] at e
      have q' : oc = p.2 := Option.some.inj e
      exact d w' (by rw [← q']; exact hocd)
theorem store_ok {M : Model} {A : Around} {E : Value → Shared → Prop} {i : Nat} {x : Str} {v : V} {u : Value} {Q : Unit → Shared → Prop} (I : Inv X pins σ H s) (hN : X.N.Nodup) (hi : X.N[i]? = some x) (hx : Loc X.env.scope x) (r : RelV v u)
    (h : ∀ s', Inv X pins (σ.set i (some v)) H s' → Q () s') (hf : X.fn x = true ∨ X.env.scope.names.lookup x = some .local := by first | exact .inl rfl | exact .inr rfl | assumption) : wpAny M A (storeName X.env x u) Q E s :=
  store_ok2 I hN hi hx r (fun s' I' _ => h s' I') hf
theorem Inv.call' {s' : Shared} {ch : List Addr} (I : Inv X pins σ H s) (ho : s'.os = s.os) (u : Un (frs X.stack) ch H H' s.heap s'.heap) (hok : HOk X.prog X.w H' s'.heap) (hg : AllBare s'.gens)
    (hch : ∀ b ∈ ch, (b ∈ X.ex ∨ X.s₀.heap.objs.size ≤ b) ∧ b ≠ X.env.locals ∧ (∀ x c, X.env.cells.lookup x = some c → c ≠ b) ∧ ∀ p ∈ X.pn ++ pins, p.1 ≠ b) : Inv X pins σ H' s' := by
  obtain ⟨h', g', d', t', o'⟩ := s'
  have e : o' = s.os := ho
  subst e
  exact I.call (g' := g') (t' := t') (d' := d') u hok hg hch
end

noncomputable abbrev XK := Value → Option Addr → Hp → Prop
noncomputable abbrev St := List (Option V)
noncomputable abbrev VK := V → Hp → Prop
noncomputable abbrev TE := St → Hp → VK → Prop
noncomputable abbrev TT := St → Hp → (Bool → Hp → Prop) → Prop
noncomputable abbrev TA := St → Hp → (List V → Hp → Prop) → Prop
structure Ends where
  nx : St → Hp → Prop
  rt : VK
  bk : St → Hp → Prop := fun _ _ => False
  ct : St → Hp → Prop := fun _ _ => False
noncomputable abbrev TS := Ends → St → Hp → Prop

noncomputable def EP (X : Cx) (pins : List (Addr × Obj)) (σ : St) (Q : VK) (u : Value) (s' : Shared) : Prop := ∃ v H', Inv X pins σ H' s' ∧ RelV v u ∧ Q v H'
noncomputable def TP (X : Cx) (pins : List (Addr × Obj)) (σ : St) (Q : Bool → Hp → Prop) (b : Bool) (s' : Shared) : Prop := ∃ H', Inv X pins σ H' s' ∧ Q b H'
noncomputable def AP (X : Cx) (pins : List (Addr × Obj)) (σ : St) (Q : List V → Hp → Prop) (us : List Value) (s' : Shared) : Prop := ∃ vs H', Inv X pins σ H' s' ∧ Vals vs us ∧ Q vs H'
noncomputable def SP (X : Cx) (pins : List (Addr × Obj)) (D : Ends) (f : Flow) (s' : Shared) : Prop :=
  match f with
  | .next => ∃ σ' H', Inv X pins σ' H' s' ∧ D.nx σ' H'
  | .brk => ∃ σ' H', Inv X pins σ' H' s' ∧ D.bk σ' H'
  | .cont => ∃ σ' H', Inv X pins σ' H' s' ∧ D.ct σ' H'
  | .ret u => ∃ v σ' H', Inv X pins σ' H' s' ∧ RelV v u ∧ D.rt v H'

noncomputable def PE (X : Cx) (e : Expr) (t : TE) : Prop :=
  ∀ (pins : List (Addr × Obj)) (s : Shared) (σ : St) (H : Hp) (Q : VK), Inv X pins σ H s → t σ H Q → wpAny (model X.prog X.w) X.A (eval e X.env) (EP X pins σ Q) X.xe s
noncomputable def PT (X : Cx) (e : Expr) (t : TT) : Prop :=
  ∀ (pins : List (Addr × Obj)) (s : Shared) (σ : St) (H : Hp) (Q : Bool → Hp → Prop), Inv X pins σ H s → t σ H Q → wpAny (model X.prog X.w) X.A (isTrue e X.env (eval e X.env)) (TP X pins σ Q) X.xe s
noncomputable def PW (X : Cx) (e : Expr) (t : TT) : Prop :=
  ∀ (whole : Sem Value) (pins : List (Addr × Obj)) (s : Shared) (σ : St) (H : Hp) (Q : Bool → Hp → Prop), Inv X pins σ H s → t σ H Q → wpAny (model X.prog X.w) X.A (isTrue e X.env whole) (TP X pins σ Q) X.xe s
theorem PW.pt {X : Cx} {e : Expr} {t : TT} (h : PW X e t) : PT X e t := h _
noncomputable def PA (X : Cx) (es : List Expr) (t : TA) : Prop :=
  ∀ (pos : Pos) (pins : List (Addr × Obj)) (s : Shared) (σ : St) (H : Hp) (Q : List V → Hp → Prop), Inv X pins σ H s → t σ H Q → wpAny (model X.prog X.w) X.A (spliced (backTo pos (starEach es X.env))) (AP X pins σ Q) X.xe s
noncomputable def PS (X : Cx) (st : Stmt) (t : TS) : Prop :=
  ∀ (pins : List (Addr × Obj)) (s : Shared) (σ : St) (H : Hp) (D : Ends), Inv X pins σ H s → t D σ H → wpAny (model X.prog X.w) X.A (exec st X.env) (SP X pins D) X.xe s
noncomputable def PSs (X : Cx) (st : List Stmt) (t : TS) : Prop :=
  ∀ (pins : List (Addr × Obj)) (s : Shared) (σ : St) (H : Hp) (D : Ends), Inv X pins σ H s → t D σ H → wpAny (model X.prog X.w) X.A (execs st X.env) (SP X pins D) X.xe s
theorem thn {α : Type} {t : Sem α} {Q Q' : α → Shared → Prop} {M : Model} {A : Around} {E : Value → Shared → Prop} {s : Shared} (h : wpAny M A t Q E s) (hQ : ∀ a s, Q a s → Q' a s) : wpAny M A t Q' E s := wpAny_mono h hQ fun _ _ x => x
end L2

namespace L2
open PySem PySem.Spec PyProof.Rows
section
variable {X : Cx}


noncomputable def tVar (i : Nat) : TE := fun σ H Q => ∃ v, σ[i]? = some (some v) ∧ Q v H
noncomputable def tC (v : V) : TE := fun _ H Q => Q v H
theorem pe_var {i : Nat} {x : Str} {pos : Pos} (hN : X.N[i]? = some x) (hv : Vis X.env.scope x) (hd : (x == ("__debug__" : Str)) = false := by decide) (hcd : (x == ("__classdict__" : Str)) = false := by decide) : PE X (.Name x pos) (tVar i) := by
  intro pins s σ H Q I h
  obtain ⟨v, e, h⟩ := h
  obtain ⟨m, hn, hl⟩ := I.loc
  obtain ⟨u, r, l⟩ := hl i x v hN e hv
  have fin : EP X pins σ Q u s := ⟨v, H, I, r, h⟩
  rcases l with ⟨hk, hm⟩ | ⟨hk, c, hc, hcell⟩
  · exact wpAny_Name (wpAny_loadName_local I.ok.kind hk hn hm fin) hd
  · rcases hk with hk | hk
    · exact wpAny_Name (wpAny_loadName_cell I.ok.kind hk hc hcell fin) hd
    · exact wpAny_Name (wpAny_loadName_free I.ok.kind hk hc hcell fin hcd) hd
theorem pe_int {i j pos} : PE X (.Constant (.int i) j pos) (tC (.int i)) := fun _ _ _ H _ I h => wpAny_Constant_int ⟨.int i, H, I.tok _, ⟨_, rfl⟩, h⟩
theorem pe_bl {b j pos} : PE X (.Constant (.bool b) j pos) (tC (.bl b)) := fun _ _ _ H _ I h => Constant_bool ⟨.bl b, H, I, rfl, h⟩
theorem pe_non {j pos} : PE X (.Constant .none j pos) (tC .non) := fun _ _ _ H _ I h => Constant_none ⟨.non, H, I, rfl, h⟩
theorem pe_str {x j pos} : PE X (.Constant (.str x) j pos) (tC (.str x)) := fun _ _ _ H _ I h => Calls.Constant_str ⟨.str x, H, I.tok _, ⟨_, rfl⟩, h⟩

noncomputable def Gl (X : Cx) (x : Str) : Prop := X.env.kindOf x = some .globalImplicit
theorem ld_glob {E : Value → Shared → Prop} {pins : List (Addr × Obj)} {s : Shared} {σ : St} {H : Hp} {x : Str} {u : Value} {pos : Pos} {Q : Value → Shared → Prop} (I : Inv X pins σ H s) (hg : Gl X x) (hm : X.mg x = some u) (h : Q u s)
    (hd : (x == ("__debug__" : Str)) = false := by decide) : wpAny (model X.prog X.w) X.A (eval (.Name x pos) X.env) Q E s :=
  Calls.Name_function_global I.ok.kind hg (Calls.loadGlobal_global (by rw [I.ok.glob]; exact I.mod.glob.keeps I.bk) hm h) hd
theorem ld_blt {E : Value → Shared → Prop} {pins : List (Addr × Obj)} {s : Shared} {σ : St} {H : Hp} {x : Str} {u : Value} {pos : Pos} {Q : Value → Shared → Prop} (I : Inv X pins σ H s) (hg : Gl X x) (hm : X.mg x = none) (hv : bootBuiltins x = some u) (h : Q u s)
    (hn : x ≠ "__name__" := by decide) (hd : (x == ("__debug__" : Str)) = false := by decide) : wpAny (model X.prog X.w) X.A (eval (.Name x pos) X.env) Q E s := by
  obtain ⟨mb, h1, h2⟩ := I.mod.blt
  exact Calls.Name_function_global I.ok.kind hg (Calls.loadGlobal_builtin (by rw [I.ok.glob]; exact I.mod.glob.keeps I.bk) hm (by rw [I.ok.blt]; exact h1.keeps I.bk) ((h2 x hn).trans hv) h) hd
theorem pe_glob {x : Str} {v : V} {u : Value} {pos : Pos} (hg : Gl X x) (hm : X.mg x = some u) (r : RelV v u) (hd : (x == ("__debug__" : Str)) = false := by decide) : PE X (.Name x pos) (tC v) :=
  fun _ _ _ H _ I h => ld_glob I hg hm ⟨v, H, I, r, h⟩ hd
theorem pe_bltn {x : Str} {v : V} {u : Value} {pos : Pos} (hg : Gl X x) (hm : X.mg x = none) (hv : bootBuiltins x = some u) (r : RelV v u) (hn : x ≠ "__name__" := by decide) (hd : (x == ("__debug__" : Str)) = false := by decide) : PE X (.Name x pos) (tC v) :=
  fun _ _ _ H _ I h => ld_blt I hg hm hv ⟨v, H, I, r, h⟩ hn hd

variable {a b : Expr} {ta tb : TE} {pos : Pos}

noncomputable def PC (X : Cx) (op : CmpOp) (a b : Expr) (t : TE) : Prop :=
  ∀ (pins : List (Addr × Obj)) (s : Shared) (σ : St) (H : Hp) (Q : VK), Inv X pins σ H s → t σ H Q →
    wpAny (model X.prog X.w) X.A (eval a X.env) (fun v s₁ => wpAny (model X.prog X.w) X.A (eval b X.env) (fun u s₂ => wpAny (model X.prog X.w) X.A (compareOp op v u) (EP X pins σ Q) X.xe s₂) X.xe s₁) X.xe s
noncomputable def tB (t : TE) : TT := fun σ H Q => t σ H fun x H1 => ∃ c, x = .bl c ∧ Q c H1
theorem pt_cmp {op : CmpOp} {t : TE} (h : PC X op a b t) (h1 : behindInMarks op b = false := by first | exact nobehind _ (by decide) (by decide) | rfl) : PT X (.Compare a [op] [b] pos) (tB t) := by
  intro pins s σ H Q I hw
  refine wpAny_isTrue_Compare1 (thn (h pins s σ H _ I hw) fun v s1 h1 => thn h1 fun u s2 h2 => thn h2 fun c s3 ⟨x, H1, I1, r1, q1⟩ => ?_) h1
  obtain ⟨d, rfl, q⟩ := q1
  cases r1
  exact wpAny_truthy_bool ⟨H1, I1, q⟩
theorem pt_val {e : Expr} {t : TE} (h : PE X e t) (he : ∀ whole, isTrue e X.env whole = (do let v ← whole; standAt e.pos; holding [v] (truthy v)) := by intro _; rfl) : PT X e (tB t) := by
  intro pins s σ H Q I hw
  refine isTrue_plain (thn (h pins s σ H _ I hw) fun v s1 ⟨x, H1, I1, r1, q1⟩ => ?_) (he _)
  obtain ⟨d, rfl, q⟩ := q1
  cases r1
  exact wpAny_truthy_bool ⟨H1, I1, q⟩

variable {tA tB' : TT} {rest : List Expr}
noncomputable def tAnd (t u : TT) : TT := fun σ H Q => t σ H fun c H1 => if c = true then u σ H1 Q else Q false H1
noncomputable def tOr (t u : TT) : TT := fun σ H Q => t σ H fun c H1 => if c = true then Q true H1 else u σ H1 Q
noncomputable def tNot (t : TT) : TT := fun σ H Q => t σ H fun c H1 => Q (!c) H1
theorem pw_and1 (ha : PT X a tA) : PW X (.BoolOp .And [a] pos) tA := by
  intro wh pins s σ H Q I h
  refine isTrue_and (thn (ha pins s σ H Q I h) fun c s1 e => ?_)
  cases c with
  | true => exact isTrue_and_nil e
  | false => exact e
theorem pw_or1 (ha : PT X a tA) : PW X (.BoolOp .Or [a] pos) tA := by
  intro wh pins s σ H Q I h
  refine isTrue_or (thn (ha pins s σ H Q I h) fun c s1 e => ?_)
  cases c with
  | false => exact isTrue_or_nil e
  | true => exact e
theorem pw_and (ha : PT X a tA) (hb : PW X (.BoolOp .And (b :: rest) pos) tB') : PW X (.BoolOp .And (a :: b :: rest) pos) (tAnd tA tB') := by
  intro wh pins s σ H Q I h
  refine isTrue_and (thn (ha pins s σ H _ I h) fun c s1 zz => ?_)
  obtain ⟨H1, I1, q1⟩ := zz
  cases c with
  | true => exact hb wh pins s1 σ H1 Q I1 q1
  | false => exact ⟨H1, I1, q1⟩
theorem pw_or (ha : PT X a tA) (hb : PW X (.BoolOp .Or (b :: rest) pos) tB') : PW X (.BoolOp .Or (a :: b :: rest) pos) (tOr tA tB') := by
  intro wh pins s σ H Q I h
  refine isTrue_or (thn (ha pins s σ H _ I h) fun c s1 zz => ?_)
  obtain ⟨H1, I1, q1⟩ := zz
  cases c with
  | true => exact ⟨H1, I1, q1⟩
  | false => exact hb wh pins s1 σ H1 Q I1 q1
theorem pt_not (ha : PT X a tA) : PT X (.UnaryOp .Not a pos) (tNot tA) := by
  intro pins s σ H Q I h
  exact isTrue_not (ha pins s σ H (fun c H1 => Q (!c) H1) I h)
noncomputable def tAndV (ta tb : TE) : TE := fun σ H Q => ta σ H fun x H1 => ∃ c, x = .bl c ∧ if c = true then tb σ H1 Q else Q (.bl false) H1
noncomputable def tOrV (ta tb : TE) : TE := fun σ H Q => ta σ H fun x H1 => ∃ c, x = .bl c ∧ if c = true then Q (.bl true) H1 else tb σ H1 Q
noncomputable def tNotV (ta : TE) : TE := fun σ H Q => ta σ H fun x H1 => ∃ c, x = .bl c ∧ Q (.bl (!c)) H1
theorem pe_one {op} {t : TE} (h : PE X a t) : PE X (.BoolOp op [a] pos) t := fun pins s σ H Q I hw => BoolOp_one (h pins s σ H Q I hw)
theorem pe_and (ha : PE X a ta) (hb : PE X (.BoolOp .And (b :: rest) pos) tb) : PE X (.BoolOp .And (a :: b :: rest) pos) (tAndV ta tb) := by
  intro pins s σ H Q I h
  refine BoolOp_and (thn (ha pins s σ H _ I h) fun v s1 zz => ?_)
  obtain ⟨x, H1, I1, r1, q1⟩ := zz
  obtain ⟨c, rfl, q1⟩ := q1
  cases r1
  refine wpAny_truthy_bool ?_
  cases c with
  | true => exact hb pins s1 σ H1 Q I1 q1
  | false => exact ⟨.bl false, H1, I1, rfl, q1⟩
theorem pe_or (ha : PE X a ta) (hb : PE X (.BoolOp .Or (b :: rest) pos) tb) : PE X (.BoolOp .Or (a :: b :: rest) pos) (tOrV ta tb) := by
  intro pins s σ H Q I h
  refine BoolOp_or (thn (ha pins s σ H _ I h) fun v s1 zz => ?_)
  obtain ⟨x, H1, I1, r1, q1⟩ := zz
  obtain ⟨c, rfl, q1⟩ := q1
  cases r1
  refine wpAny_truthy_bool ?_
  cases c with
  | false => exact hb pins s1 σ H1 Q I1 q1
  | true => exact ⟨.bl true, H1, I1, rfl, q1⟩
theorem pe_not (ha : PE X a ta) : PE X (.UnaryOp .Not a pos) (tNotV ta) := by
  intro pins s σ H Q I h
  refine UnaryOp_ (thn (ha pins s σ H _ I h) fun v s1 zz => ?_)
  obtain ⟨x, H1, I1, r1, q1⟩ := zz
  obtain ⟨c, rfl, q1⟩ := q1
  cases r1
  exact not_of (wpAny_truthy_bool ⟨.bl (!c), H1, I1, rfl, q1⟩)
noncomputable def tIf (t : TT) (ta tb : TE) : TE := fun σ H Q => t σ H fun c H1 => if c = true then ta σ H1 Q else tb σ H1 Q
theorem pe_ifExp {c : Expr} (hc : PT X c tA) (ha : PE X a ta) (hb : PE X b tb) : PE X (.IfExp c a b pos) (tIf tA ta tb) := by
  intro pins s σ H Q I h
  refine wpAny_IfExp (thn (hc pins s σ H _ I h) fun d s1 zz => ?_)
  obtain ⟨H1, I1, q1⟩ := zz
  cases d with
  | true => exact ha pins s1 σ H1 Q I1 q1
  | false => exact hb pins s1 σ H1 Q I1 q1
end
end L2

namespace L2
open PySem PySem.Spec PyProof.Rows

noncomputable def SqL (K : PySem.W.Frag) (H : Hp) (a : Addr) (xs : List V) : Prop :=
  Rd H a (.lst xs) ∨
    ∃ (o : Obj) (its : Array Value) (n : Nat), K.lookup a = some o ∧ o.cls = .type "list" ∧ o.dict = none ∧ o.data = .seq its n ∧ its.size ≤ sizeLine ∧ Vals xs its.toList
noncomputable def SqT (K : PySem.W.Frag) (H : Hp) (a : Addr) (xs : List V) : Prop :=
  Rd H a (.tup xs) ∨
    ∃ (o : Obj) (its : Array Value) (n : Nat), K.lookup a = some o ∧ o.cls = .type "tuple" ∧ o.data = .seq its n ∧ its.size ≤ sizeLine ∧ Vals xs its.toList
noncomputable def absV : Value → Option V
  | .none => some .non
  | .bool b => some (.bl b)
  | .int i _ => some (.int i)
  | .str x _ => some (.str x)
  | .bytes b _ => some (.byt b)
  | .float b _ => some (.flt b)
  | .ref a => some (.ref a)
  | .type n => some (.ty n)
  | _ => none
theorem RelV.abs {x : V} {u : Value} (r : RelV x u) : absV u = some x := by
  cases x with
  | non => cases r; rfl
  | bl _ => cases r; rfl
  | int _ => obtain ⟨t, rfl⟩ := r; rfl
  | str _ => obtain ⟨t, rfl⟩ := r; rfl
  | byt _ => obtain ⟨t, rfl⟩ := r; rfl
  | flt _ => obtain ⟨t, rfl⟩ := r; rfl
  | ref _ => cases r; rfl
  | ty _ => cases r; rfl
theorem RelV.inj {x y : V} {u : Value} (r : RelV x u) (q : RelV y u) : x = y := Option.some.inj (r.abs.symm.trans q.abs)
theorem Vals.inj : ∀ {xs ys : List V} {us : List Value}, Vals xs us → Vals ys us → xs = ys
  | _, _, _, .nil, .nil => rfl
  | _, _, _, .cons r t, .cons r' t' => by rw [r.inj r', Vals.inj t t']
section
variable {X : Cx} {pins : List (Addr × Obj)} {σ : St} {H : Hp} {s : Shared} {a : Addr} {xs ys : List V}
theorem SqL.of {K : PySem.W.Frag} (h : H a = some (.lst xs)) : SqL K H a xs := .inl (.inl h)
theorem SqT.of {K : PySem.W.Frag} (h : H a = some (.tup xs)) : SqT K H a xs := .inl (.inl h)
theorem Inv.list (I : Inv X pins σ H s) (h : SqL X.K H a xs) : ∃ its : List Value, Vals xs its ∧ PlainL s.heap a its.toArray ∧ xs.length ≤ sizeLine := by
  rcases h with h | ⟨o, its, n, hk, hc, hd, hs, hz, r⟩
  · obtain ⟨z, its, n, r, e⟩ := h.ok I.hok
    exact ⟨its, r, ⟨_, n, e, rfl, rfl, rfl⟩, z⟩
  · refine ⟨its.toList, r, ⟨o, n, I.kIn a o hk, hc, hd, by simpa using hs⟩, ?_⟩
    have e := r.length
    simp only [Array.length_toList] at e
    omega
theorem Inv.tuple (I : Inv X pins σ H s) (h : SqT X.K H a xs) : ∃ its : List Value, Vals xs its ∧ IsTup s.heap a its.toArray ∧ xs.length ≤ sizeLine := by
  rcases h with h | ⟨o, its, n, hk, hc, hs, hz, r⟩
  · obtain ⟨z, its, r, p⟩ := h.ok I.hok
    exact ⟨its, r, p, z⟩
  · refine ⟨its.toList, r, ⟨o, I.kIn a o hk, hc, n, by simpa using hs⟩, ?_⟩
    have e := r.length
    simp only [Array.length_toList] at e
    omega
theorem Inv.list_inj (I : Inv X pins σ H s) (h : SqL X.K H a xs) (h' : SqL X.K H a ys) : xs = ys := by
  obtain ⟨its, r, ⟨o, n, e, _, _, d⟩, _⟩ := I.list h
  obtain ⟨its', r', ⟨o', n', e', _, _, d'⟩, _⟩ := I.list h'
  rw [e] at e'; cases e'
  rw [d] at d'
  injection d' with d1 _
  have : its = its' := by simpa using congrArg Array.toList d1
  subst this
  exact r.inj r'
theorem Inv.tuple_inj (I : Inv X pins σ H s) (h : SqT X.K H a xs) (h' : SqT X.K H a ys) : xs = ys := by
  obtain ⟨its, r, ⟨o, e, _, n, d⟩, _⟩ := I.tuple h
  obtain ⟨its', r', ⟨o', e', _, n', d'⟩, _⟩ := I.tuple h'
  rw [e] at e'; cases e'
  rw [d] at d'
  injection d' with d1 _
  have : its = its' := by simpa using congrArg Array.toList d1
  subst this
  exact r.inj r'
end

noncomputable abbrev Cx.wish (X : Cx) (E : Value → Shared → Prop) : Cx := { X with xe := E }
noncomputable abbrev Cx.nox (X : Cx) : Cx := X.wish fun _ _ => False
theorem Cx.Ok.wish {X : Cx} (ok : X.Ok) (E : Value → Shared → Prop) : (X.wish E).Ok :=
  ⟨ok.mod, ok.kind, ok.glob, ok.blt, ok.above, ok.inj, ok.has, ok.cab, ok.hd, ok.frames, ok.stk, ok.exf, ok.bs, ok.bsz, ok.noex, ok.exfs, ok.funs, ok.frf⟩
theorem Cx.Ok.unwish {X : Cx} {E : Value → Shared → Prop} (ok : (X.wish E).Ok) : X.Ok :=
  ⟨ok.mod, ok.kind, ok.glob, ok.blt, ok.above, ok.inj, ok.has, ok.cab, ok.hd, ok.frames, ok.stk, ok.exf, ok.bs, ok.bsz, ok.noex, ok.exfs, ok.funs, ok.frf⟩
section
variable {X : Cx} {pins : List (Addr × Obj)} {σ : St} {H : Hp} {s : Shared} {E : Value → Shared → Prop}
theorem Inv.wish (I : Inv X pins σ H s) (E : Value → Shared → Prop) : Inv (X.wish E) pins σ H s := ⟨I.ok.wish E, I.os, I.bare, I.base, I.loc, I.cell, I.free, I.freeC, I.pin, I.hok, I.len⟩
theorem Inv.unwish (I : Inv (X.wish E) pins σ H s) : Inv X pins σ H s := ⟨I.ok.unwish, I.os, I.bare, I.base, I.loc, I.cell, I.free, I.freeC, I.pin, I.hok, I.len⟩
theorem SP.unwish {D : Ends} {f : Flow} {s' : Shared} (h : SP (X.wish E) pins D f s') : SP X pins D f s' := by
  cases f with
  | next => obtain ⟨σ', H', I, q⟩ := h; exact ⟨σ', H', I.unwish, q⟩
  | brk => obtain ⟨σ', H', I, q⟩ := h; exact ⟨σ', H', I.unwish, q⟩
  | cont => obtain ⟨σ', H', I, q⟩ := h; exact ⟨σ', H', I.unwish, q⟩
  | ret u => obtain ⟨v, σ', H', I, r, q⟩ := h; exact ⟨v, σ', H', I.unwish, r, q⟩
theorem PSs.nox {st : List Stmt} {t : TS} (h : PSs X.nox st t) : PSs X st t := fun pins s σ H D I hw =>
  wpAny_mono (h pins s σ H D (I.wish _) hw) (fun _ _ q => q.unwish) fun _ _ z => False.elim z
end

section
variable {X : Cx} {st : Stmt} {rest : List Stmt} {t u : TS} {e : Expr} {te : TE} {pos : Pos}
noncomputable def tNext : TS := fun D σ H => D.nx σ H
noncomputable def tSeq (t u : TS) : TS := fun D σ H => t { D with nx := u D } σ H
theorem pss_nil : PSs X [] tNext := fun _ _ σ H _ I h => wpAny_execs_nil ⟨σ, H, I, h⟩
theorem pss_cons (h1 : PS X st t) (h2 : PSs X rest u) : PSs X (st :: rest) (tSeq t u) := by
  intro pins s σ H D I h
  refine wpAny_execs_cons (thn (h1 pins s σ H { D with nx := u D } I h) fun f s1 q => ?_)
  cases f with
  | next =>
    obtain ⟨σ', H', I', q⟩ := q
    exact h2 pins s1 σ' H' D I' q
  | ret v => exact q
  | brk => exact q
  | cont => exact q
theorem pss_one (h1 : PS X st t) : PSs X [st] t := by
  intro pins s σ H D I h
  refine wpAny_execs_cons (thn (h1 pins s σ H D I h) fun f s1 q => ?_)
  cases f with
  | next => exact wpAny_execs_nil q
  | ret v => exact q
  | brk => exact q
  | cont => exact q
theorem Inv.quiet {pins : List (Addr × Obj)} {σ : St} {H : Hp} {s : Shared} (I : Inv X pins σ H s) : interactive X.env = false := by simp [interactive, I.ok.kind]
noncomputable def tDrop (te : TE) : TS := fun D σ H => te σ H fun _ H1 => D.nx σ H1
theorem ps_expr (he : PE X e te) (hs : swapsWith e none pos.line X.env = pure false := by rfl) : PS X (.Expr e pos) (tDrop te) := by
  intro pins s σ H D I h
  exact wpAny_Expr_any (thn (he pins s σ H _ I h) fun v s1 ⟨x, H1, I1, r1, q1⟩ => ⟨σ, H1, I1, q1⟩) I.quiet hs
noncomputable def tRet (te : TE) : TS := fun D σ H => te σ H D.rt
theorem ps_ret (he : PE X e te) : PS X (.Return (some e) pos) (tRet te) := by
  intro pins s σ H D I h
  exact wpAny_Return_some (thn (he pins s σ H _ I h) fun v s1 ⟨x, H1, I1, r1, q1⟩ => ⟨x, σ, H1, I1, r1, q1⟩)
noncomputable def tIfS (c : TT) (t u : TS) : TS := fun D σ H => c σ H fun b H1 => if b = true then t D σ H1 else u D σ H1
theorem ps_if {c : Expr} {a b : List Stmt} {tc : TT} (hc : PT X c tc) (ha : PSs X a t) (hb : PSs X b u) : PS X (.If c a b pos) (tIfS tc t u) := by
  intro pins s σ H D I h
  refine wpAny_If (thn (hc pins s σ H _ I h) fun d s1 zz => ?_)
  obtain ⟨H1, I1, q1⟩ := zz
  cases d with
  | true => exact ha pins s1 σ H1 D I1 q1
  | false => exact hb pins s1 σ H1 D I1 q1
end

noncomputable abbrev TG := V → St → Hp → (St → Hp → Prop) → Prop
noncomputable abbrev TGs := List V → St → Hp → (St → Hp → Prop) → Prop
noncomputable def PG (X : Cx) (target : Expr) (t : TG) : Prop :=
  ∀ (pins : List (Addr × Obj)) (s : Shared) (σ : St) (H : Hp) (v : V) (u : Value) (Q : St → Hp → Prop), Inv X pins σ H s → RelV v u → t v σ H Q →
    wpAny (model X.prog X.w) X.A (assign target X.env u) (fun _ s' => ∃ σ' H', Inv X pins σ' H' s' ∧ Q σ' H') X.xe s
noncomputable def PGs (X : Cx) (ts : List Expr) (t : TGs) : Prop :=
  ∀ (pins : List (Addr × Obj)) (s : Shared) (σ : St) (H : Hp) (vs : List V) (us : List Value) (Q : St → Hp → Prop), Inv X pins σ H s → Vals vs us → t vs σ H Q →
    wpAny (model X.prog X.w) X.A (assignInOrder ((assignEach ts X.env).map (·.2)) us) (fun _ s' => ∃ σ' H', Inv X pins σ' H' s' ∧ Q σ' H') X.xe s
noncomputable abbrev TSet := V → V → V → Hp → (Hp → Prop) → Prop
noncomputable def PSet (X : Cx) (t : TSet) : Prop :=
  ∀ (pins : List (Addr × Obj)) (s : Shared) (σ : St) (H : Hp) (o i v : V) (ov iv u : Value) (Q : Hp → Prop), Inv X pins σ H s → RelV o ov → RelV i iv → RelV v u → t o i v H Q →
    wpAny (model X.prog X.w) X.A (setItem ov iv u) (fun _ s' => ∃ H', Inv X pins σ H' s' ∧ Q H') X.xe s
section
variable {X : Cx} {pos : Pos}
noncomputable def gName (i : Nat) : TG := fun v σ H Q => Q (σ.set i (some v)) H
theorem pg_name {i : Nat} {x : Str} (hN : X.N.Nodup) (hi : X.N[i]? = some x) (hx : Loc X.env.scope x) (hf : X.fn x = true ∨ X.env.scope.names.lookup x = some .local := by first | exact .inl rfl | exact .inr rfl | assumption) : PG X (.Name x pos) (gName i) := by
  intro pins s σ H v u Q I r h
  exact wpAny_assign_Name (store_ok I hN hi hx r (fun s' I' => ⟨_, H, I', h⟩) hf)
noncomputable def gNil : TGs := fun vs σ H Q => vs = [] ∧ Q σ H
noncomputable def gCons (t : TG) (u : TGs) : TGs := fun vs σ H Q => ∃ v r, vs = v :: r ∧ t v σ H fun σ' H' => u r σ' H' Q
theorem pgs_nil : PGs X [] gNil := by
  intro pins s σ H vs us Q I r h
  obtain ⟨e, h⟩ := h
  subst e
  cases r
  exact assignInOrder_nil ⟨σ, H, I, h⟩
theorem pgs_cons {e : Expr} {es : List Expr} {t : TG} {u : TGs} (h1 : PG X e t) (h2 : PGs X es u)
    (hs : (assignEach (e :: es) X.env).map (·.2) = assign e X.env :: (assignEach es X.env).map (·.2) := by rfl) : PGs X (e :: es) (gCons t u) := by
  intro pins s σ H vs us Q I r h
  obtain ⟨v, vr, e1, h⟩ := h
  subst e1
  cases r with
  | cons r rr =>
    rw [hs]
    refine assignInOrder_cons (thn (h1 pins s σ H _ _ _ I r h) fun _ s1 zz => ?_)
    obtain ⟨σ1, H1, I1, q1⟩ := zz
    exact h2 pins s1 σ1 H1 _ _ Q I1 rr q1
noncomputable def gTup (K : PySem.W.Frag) (n : Nat) (t : TGs) : TG := fun v σ H Q => ∃ a xs, v = .ref a ∧ SqT K H a xs ∧ xs.length = n ∧ t xs σ H Q
theorem pg_tup {es : List Expr} {k : Nat} {t : TGs} {n : Nat} (hc : X.calm = true) (h : PGs X es t)
    (hn : (assignEach es X.env).length = n := by rfl) (hst : (assignEach es X.env).findIdx? (·.1) = none := by rfl) : PG X (.Tuple es k pos) (gTup X.K n t) := by
  intro pins s σ H v u Q I r hw
  obtain ⟨a, xs, e1, hq, hl, hw⟩ := hw
  subst e1
  cases r
  obtain ⟨its, rv, ht, hz⟩ := I.tuple hq
  refine assign_Tuple_tuple (I.ok.hd hc) ht (by simp [hn, ← hl, rv.length]) hst fun h' hx => ?_
  have I1 : Inv X pins σ H { s with heap := h' } := I.kept (t' := s.toks) fun b o e => hx b o (Nat.ne_of_lt (Heap.lt_size e)) e
  exact h pins _ σ H xs _ Q I1 (by simpa using rv) hw
noncomputable def gSub (to ti : TE) (t : TSet) : TG := fun v σ H Q => to σ H fun o H1 => ti σ H1 fun i H2 => t o i v H2 fun H3 => Q σ H3
theorem pg_sub {o i : Expr} {to ti : TE} {t : TSet} (ho : PE X o to) (hi : PE X i ti) (hs : PSet X t)
    (ha : ∀ v, assign (.Subscript o i pos) X.env v = (do
      let ov ← holding [v] (eval o X.env)
      let iv ← holding [v, ov] (eval i X.env)
      standAt pos
      holding [v, ov, iv] (setItem ov iv v)
      release [v, ov, iv] []) := by intro _; rfl) : PG X (.Subscript o i pos) (gSub to ti t) := by
  intro pins s σ H v u Q I r h
  rw [ha]
  refine wpAny_bind (wpAny_holding (thn (ho pins s σ H _ I h) fun ov s1 zz => ?_))
  obtain ⟨x, H1, I1, r1, q1⟩ := zz
  refine wpAny_bind (wpAny_holding (thn (hi pins s1 σ H1 _ I1 q1) fun iv s2 zz => ?_))
  obtain ⟨y, H2, I2, r2, q2⟩ := zz
  refine wpAny_bind (wpAny_standAt (wpAny_bind (wpAny_holding (thn (hs pins s2 σ H2 x y v ov iv u _ I2 r1 r2 r q2) fun _ s3 zz => ?_))))
  obtain ⟨H3, I3, q3⟩ := zz
  exact wpAny_release ⟨σ, H3, I3, q3⟩
noncomputable def tAsg (te : TE) (g : TG) : TS := fun D σ H => te σ H fun x H1 => g x σ H1 D.nx
theorem ps_asg {tg e : Expr} {te : TE} {g : TG} (he : PE X e te) (hg : PG X tg g) (hs : swapsWithSole [tg] e pos.line X.env = pure false := by rfl) (hw : swappedStores [tg] e X.env = pure none := by rfl)
    (h1 : (assignEach [tg] X.env).map (·.2) = [assign tg X.env] := by rfl) : PS X (.Assign [tg] e pos) (tAsg te g) := by
  intro pins s σ H D I h
  refine wpAny_Assign_stores (thn (he pins s σ H _ I h) fun v s1 ⟨x, H1, I1, r1, q1⟩ => ?_) hs hw
  rw [h1]
  exact thn (hg pins s1 σ H1 x v _ I1 r1 q1) fun _ s2 q => q
theorem ps_set {i : Nat} {x : Str} {e : Expr} {te : TE} {pos' : Pos} (hN : X.N.Nodup) (hi : X.N[i]? = some x) (hx : Loc X.env.scope x) (he : PE X e te) (hs : swapsWith e (some (.Name x pos')) pos.line X.env = pure false := by rfl) (hf : X.fn x = true ∨ X.env.scope.names.lookup x = some .local := by first | exact .inl rfl | exact .inr rfl | assumption) :
    PS X (.Assign [.Name x pos'] e pos) (tAsg te (gName i)) := by
  intro pins s σ H D I h
  refine wpAny_Assign_Name (thn (he pins s σ H _ I h) fun v s1 ⟨y, H1, I1, r1, q1⟩ => ?_) hs
  exact store_ok I1 hN hi hx r1 (fun s2 I2 => ⟨_, H1, I2, q1⟩) hf
end

section
variable {X : Cx} {pos : Pos}
end

structure It where
  go : Nat → Hp → Prop
  yld : Nat → Hp → V → Hp → Prop
  stop : Nat → Hp → Prop
noncomputable def FpOk (X : Cx) (pins : List (Addr × Obj)) (H : Hp) (b : Addr) : Prop :=
  H b = none ∧ b ≠ X.env.locals ∧ b ∉ X.fs ∧ (b ∈ X.ex ∨ X.s₀.heap.objs.size ≤ b) ∧ (∀ x c, X.env.cells.lookup x = some c → c ≠ b) ∧ ∀ p ∈ X.pn ++ pins, p.1 ≠ b
theorem Inv.fpOk {X : Cx} {pins : List (Addr × Obj)} {σ : St} {H H' : Hp} {s : Shared} {b : Addr} (I : Inv X pins σ H s) (hb : s.heap.objs.size ≤ b) (hn : H' b = none) : FpOk X pins H' b := by
  refine ⟨hn, Nat.ne_of_gt (Nat.lt_of_lt_of_le I.lt hb), I.nofs hb, .inr (Nat.le_trans I.sz hb), fun x c e z => ?_, fun p hp z => ?_⟩
  · obtain ⟨v, q⟩ := I.cell x c e
    exact absurd (Nat.lt_of_lt_of_le q.lt (by rw [z]; exact hb)) (Nat.lt_irrefl _)
  · exact absurd (Nat.lt_of_lt_of_le (Heap.lt_size (I.pin p hp).1) (by rw [z]; exact hb)) (Nat.lt_irrefl _)
structure Turn (P : Program) (w : World) (K : PySem.W.Frag) (tg : Expr) (J : It) (fp : List Addr) (it : Addr) (tn : Nat → Heap → Prop) : Prop where
  mem : it ∈ fp
  obj : ∀ i h, tn i h → ∀ b ∈ fp, ∃ o, h.get? b = some o ∧ ∀ v, o.data ≠ .cell v
  keep : ∀ i h h', tn i h → (∀ b ∈ fp, ∀ o, h.get? b = some o → h'.get? b = some o) → tn i h'
  item : ∀ (X : Cx), X.prog = P → X.w = w → X.K = K → X.calm = true → ∀ (i : Nat) (pins : List (Addr × Obj)) (s : Shared) (σ : St) (H : Hp) (E : Value → Shared → Prop), Inv X pins σ H s → (∀ b ∈ fp, FpOk X pins H b) → tn i s.heap → J.go i H →
    wpAny (model P w) X.A (pyNext (.ref it)) (fun r s1 => ∃ u, r = some u ∧
      wpAny (model P w) X.A (letOwnedTupleGo tg (.ref it) u) (fun _ s2 => ∃ x H', Inv X pins σ H' s2 ∧ RelV x u ∧ J.yld i H x H' ∧ tn (i + 1) s2.heap ∧ ∀ b ∈ fp, H' b = none) E s1) E s
  done : ∀ (X : Cx), X.prog = P → X.w = w → X.K = K → X.calm = true → ∀ (i : Nat) (pins : List (Addr × Obj)) (s : Shared) (σ : St) (H : Hp) (E : Value → Shared → Prop), Inv X pins σ H s → (∀ b ∈ fp, FpOk X pins H b) → tn i s.heap → J.stop i H →
    wpAny (model P w) X.A (pyNext (.ref it)) (fun r s1 => r = none ∧ Inv X pins σ H s1) E s
  self : ∀ (A : Around) (i : Nat) (s : Shared) (Q : Value → Shared → Prop) (E : Value → Shared → Prop), tn i s.heap → Q (.ref it) s → wpAny (model P w) A (pyIter (.ref it)) Q E s
noncomputable abbrev TI := St → Hp → (It → Hp → Prop) → Prop
noncomputable def PIE (X : Cx) (pins : List (Addr × Obj)) (σ : St) (tg : Expr) (R : It → Hp → Prop) (itv : Value) (s2 : Shared) : Prop :=
  ∃ (it : Addr) (fp : List Addr) (tn : Nat → Heap → Prop) (J : It) (H' : Hp), itv = .ref it ∧ Inv X pins σ H' s2 ∧ Turn X.prog X.w X.K tg J fp it tn ∧ tn 0 s2.heap ∧ (∀ b ∈ fp, FpOk X pins H' b) ∧ R J H'
noncomputable def PI (X : Cx) (tg iter : Expr) (wi : TI) : Prop :=
  ∀ (pins : List (Addr × Obj)) (s : Shared) (σ : St) (H : Hp) (R : It → Hp → Prop), Inv X pins σ H s → wi σ H R →
    wpAny (model X.prog X.w) X.A (eval iter X.env) (fun v s1 => wpAny (model X.prog X.w) X.A (pyIter v) (PIE X pins σ tg R) X.xe s1) X.xe s

theorem go_of {M : Model} {A : Around} {E : Value → Shared → Prop} {s : Shared} {tg : Expr} {it : Addr} {u : Value} {o : Obj} {n : String} {vs : Array Value} {Q : Unit → Shared → Prop} (ho : s.heap.get? it = some o) (hc : o.cls = .type n) (hd : o.data = .fields vs)
    (hn : ["enumerate", "zip", "dict_itemiterator", "dict_reverseitemiterator", "odict_iterator", "itertools.zip_longest", "itertools.pairwise"].contains n = false) (hQ : Q () s) : wpAny M A (letOwnedTupleGo tg (.ref it) u) Q E s := by
  unfold letOwnedTupleGo
  cases tg <;> first
    | exact wpAny_pure hQ
    | (cases u <;> first
        | exact wpAny_pure hQ
        | (refine wpAny_bind (wpAny_load ho ?_)
           rw [hc, hd]
           show wpAny M A (if (["enumerate", "zip", "dict_itemiterator", "dict_reverseitemiterator", "odict_iterator", "itertools.zip_longest", "itertools.pairwise"].contains n && vs[0]? == some (rawInt _)) = true then _ else _) Q E s
           rw [if_neg (by intro h; rw [hn, Bool.false_and] at h; cases h)]
           exact wpAny_pure hQ))

noncomputable def Itl (K : PySem.W.Frag) (a : Addr) : It :=
  ⟨fun i H => ∃ xs x, SqL K H a xs ∧ xs[i]? = some x, fun i H x H' => H' = H ∧ ∀ xs, SqL K H a xs → xs[i]? = some x, fun i H => ∃ xs, SqL K H a xs ∧ xs.length ≤ i⟩
noncomputable def Itt (K : PySem.W.Frag) (a : Addr) : It :=
  ⟨fun i H => ∃ xs x, SqT K H a xs ∧ xs[i]? = some x, fun i H x H' => H' = H ∧ ∀ xs, SqT K H a xs → xs[i]? = some x, fun i H => ∃ xs, SqT K H a xs ∧ xs.length ≤ i⟩
noncomputable def Itr (lo : Int) (n : Nat) : It := ⟨fun i _ => i < n, fun i H x H' => H' = H ∧ x = .int (lo + i), fun i _ => n ≤ i⟩
theorem turn_list {P : Program} {w : World} {K : PySem.W.Frag} {tg : Expr} (a it : Addr) : Turn P w K tg (Itl K a) [it] it (fun i h => h.IsListIter it a i) where
  mem := by simp
  obj := fun i h st b hb => by
    have e : b = it := by simpa using hb
    subst e
    obtain ⟨o, e, c, d⟩ := st
    exact ⟨o, e, fun v z => by rw [d] at z; cases z⟩
  keep := fun i h h' st k => st.at fun o e => k it (by simp) o e
  item := by
    intro X hP hw hK hc i pins s σ H E I hf st hg
    subst hP hw hK
    obtain ⟨xs, x, hq, hx⟩ := hg
    obtain ⟨its, rv, p, hz⟩ := I.list hq
    obtain ⟨u, hu, ru⟩ := rv.get hx
    obtain ⟨f0, f1, f2, f3, f4, f5⟩ := hf it (by simp)
    refine wpAny_pyNext_list_item st p.isList (x := u) (by simpa using hu) fun h' st' sb => ?_
    have I1 : Inv X pins σ H { s with heap := h' } := I.turned (t' := s.toks) (fun b o hb e => (sb.2 b hb).trans e) f0 f1 f3 f4 f5
    obtain ⟨o, e, c, d⟩ := id st'
    exact ⟨u, rfl, go_of (s := { s with heap := h' }) e c d (by decide) ⟨x, H, I1, ru, ⟨rfl, fun ys hy => by rw [I.list_inj hy hq]; exact hx⟩, st', fun b hb => (hf b hb).1⟩⟩
  done := by
    intro X hP hw hK hc i pins s σ H E I hf st hg
    subst hP hw hK
    obtain ⟨xs, hq, hx⟩ := hg
    obtain ⟨its, rv, p, hz⟩ := I.list hq
    obtain ⟨f0, f1, f2, f3, f4, f5⟩ := hf it (by simp)
    have hl := rv.length
    exact wpAny_pyNext_list_end (I.ok.hd hc) st p.isList (by simp; omega) fun h' eb => ⟨rfl, I.turned (t' := s.toks) (fun b o hb e => eb b o hb e) f0 f1 f3 f4 f5⟩
  self := fun _ _ _ _ _ st h => wpAny_pyIter_listiter st h
theorem turn_tuple {P : Program} {w : World} {K : PySem.W.Frag} {tg : Expr} (a it : Addr) : Turn P w K tg (Itt K a) [it] it (fun i h => h.IsTupleIter it a i) where
  mem := by simp
  obj := fun i h st b hb => by
    have e : b = it := by simpa using hb
    subst e
    obtain ⟨o, e, c, d⟩ := st
    exact ⟨o, e, fun v z => by rw [d] at z; cases z⟩
  keep := fun i h h' st k => st.at fun o e => k it (by simp) o e
  item := by
    intro X hP hw hK hc i pins s σ H E I hf st hg
    subst hP hw hK
    obtain ⟨xs, x, hq, hx⟩ := hg
    obtain ⟨its, rv, p, hz⟩ := I.tuple hq
    obtain ⟨u, hu, ru⟩ := rv.get hx
    obtain ⟨f0, f1, f2, f3, f4, f5⟩ := hf it (by simp)
    refine wpAny_pyNext_tuple_item st (show s.heap.IsTuple a its.toArray from p) (x := u) (by simpa using hu) fun h' st' sb => ?_
    have I1 : Inv X pins σ H { s with heap := h' } := I.turned (t' := s.toks) (fun b o hb e => (sb.2 b hb).trans e) f0 f1 f3 f4 f5
    obtain ⟨o, e, c, d⟩ := id st'
    exact ⟨u, rfl, go_of (s := { s with heap := h' }) e c d (by decide) ⟨x, H, I1, ru, ⟨rfl, fun ys hy => by rw [I.tuple_inj hy hq]; exact hx⟩, st', fun b hb => (hf b hb).1⟩⟩
  done := by
    intro X hP hw hK hc i pins s σ H E I hf st hg
    subst hP hw hK
    obtain ⟨xs, hq, hx⟩ := hg
    obtain ⟨its, rv, p, hz⟩ := I.tuple hq
    obtain ⟨f0, f1, f2, f3, f4, f5⟩ := hf it (by simp)
    have hl := rv.length
    exact wpAny_pyNext_tuple_end (I.ok.hd hc) st (show s.heap.IsTuple a its.toArray from p) (by simp; omega) fun h' eb => ⟨rfl, I.turned (t' := s.toks) (fun b o hb e => eb b o hb e) f0 f1 f3 f4 f5⟩
  self := fun _ _ _ _ _ st h => wpAny_pyIter_tupleiter st h
theorem turn_range {P : Program} {w : World} {K : PySem.W.Frag} {tg : Expr} (it : Addr) (lo : Int) (n : Nat) : Turn P w K tg (Itr lo n) [it] it (fun i h => IsRangeIter h it (lo + (i : Nat) * 1) ((n : Int) - (i : Nat)) 1) where
  mem := by simp
  obj := fun i h st b hb => by
    have e : b = it := by simpa using hb
    subst e
    exact ⟨_, st, fun v z => by
      have z' : Data.fields _ = Data.cell v := z
      cases z'⟩
  keep := fun i h h' st k => k it (by simp) _ st
  item := by
    intro X hP hw hK hc i pins s σ H E I hf st hg
    subst hP hw hK
    obtain ⟨f0, f1, f2, f3, f4, f5⟩ := hf it (by simp)
    have W := Walks.range (prog := X.prog) (w := X.w) (I.ok.hd hc) it lo 1 n
    refine W.item i s _ _ hg st fun v h' tk hv st' kk => ?_
    obtain ⟨t, rfl⟩ := hv
    have I1 : Inv X pins σ H { s with heap := h', toks := tk } := I.turned (fun b o hb e => kk b o (by simpa using hb) e) f0 f1 f3 f4 f5
    refine ⟨_, rfl, go_of (s := { s with heap := h', toks := tk }) (n := "range_iterator") st' rfl rfl (by decide) ⟨.int (lo + i), H, I1, ⟨t, ?_⟩, ⟨rfl, rfl⟩, st', fun b hb => (hf b hb).1⟩⟩
    rw [Int.mul_one]
  done := by
    intro X hP hw hK hc i pins s σ H E I hf st hg
    subst hP hw hK
    obtain ⟨f0, f1, f2, f3, f4, f5⟩ := hf it (by simp)
    exact wpAny_pyNext_range_end (I.ok.hd hc) st (by have : n ≤ i := hg; omega) fun h' eb => ⟨rfl, I.turned (t' := s.toks) (fun b o hb e => eb b o hb e) f0 f1 f3 f4 f5⟩
  self := fun _ _ _ _ _ st h => wpAny_pyIter_rangeiter st h
end L2

namespace L2
open PySem PySem.Spec PyProof.Rows
section
variable {X : Cx} {tg : Expr}
noncomputable def iList (K : PySem.W.Frag) (tl : TE) : TI := fun σ H R => tl σ H fun x H1 => ∃ a, x = .ref a ∧ (∃ xs, SqL K H1 a xs) ∧ R (Itl K a) H1
noncomputable def iTup (K : PySem.W.Frag) (tl : TE) : TI := fun σ H R => tl σ H fun x H1 => ∃ a, x = .ref a ∧ (∃ xs, SqT K H1 a xs) ∧ R (Itt K a) H1
theorem pi_list {l : Expr} {tl : TE} (hl : PE X l tl) : PI X tg l (iList X.K tl) := by
  intro pins s σ H R I h
  refine thn (hl pins s σ H _ I h) fun v s1 zz => ?_
  obtain ⟨x, H1, I1, r1, q1⟩ := zz
  obtain ⟨a, e, ⟨xs, hq⟩, q⟩ := q1
  subst e
  cases r1
  obtain ⟨its, rv, p, hz⟩ := I1.list hq
  refine wpAny_pyIter_list p.isList ?_
  refine ⟨s1.heap.objs.size, [s1.heap.objs.size], _, _, H1, rfl, I1.kept (t' := s1.toks) fun b o e => Heap.get?_push_of_some _ e, turn_list a _, ⟨_, Heap.get?_push_size _ rfl, rfl, rfl⟩, fun b hb => ?_, q⟩
  have e : b = s1.heap.objs.size := by simpa using hb
  subst e
  exact I1.fpOk (Nat.le_refl _) (I1.hok.fresh (Nat.le_refl _))
theorem pi_tup {l : Expr} {tl : TE} (hl : PE X l tl) : PI X tg l (iTup X.K tl) := by
  intro pins s σ H R I h
  refine thn (hl pins s σ H _ I h) fun v s1 zz => ?_
  obtain ⟨x, H1, I1, r1, q1⟩ := zz
  obtain ⟨a, e, ⟨xs, hq⟩, q⟩ := q1
  subst e
  cases r1
  obtain ⟨its, rv, p, hz⟩ := I1.tuple hq
  refine wpAny_pyIter_tuple (show s1.heap.IsTuple a its.toArray from p) ?_
  refine ⟨s1.heap.objs.size, [s1.heap.objs.size], _, _, H1, rfl, I1.kept (t' := s1.toks) fun b o e => Heap.get?_push_of_some _ e, turn_tuple a _, ⟨_, Heap.get?_push_size _ rfl, rfl, rfl⟩, fun b hb => ?_, q⟩
  have e : b = s1.heap.objs.size := by simpa using hb
  subst e
  exact I1.fpOk (Nat.le_refl _) (I1.hok.fresh (Nat.le_refl _))
theorem range_it {pins : List (Addr × Obj)} {σ : St} {H : Hp} {s : Shared} {R : It → Hp → Prop} {E : Value → Shared → Prop} {lo hi : Int} {t u v : Tok} {tk : Nat} (I : Inv X pins σ H s) (h1 : -(2 ^ 62) ≤ lo) (h2 : lo < 2 ^ 62) (h3 : -(2 ^ 62) ≤ hi) (h4 : hi < 2 ^ 62)
    (q : R (Itr lo (hi - lo).toNat) H) : wpAny (model X.prog X.w) X.A (pyIter (.ref s.heap.objs.size)) (PIE X pins σ tg R) E { s with heap := s.heap.push { cls := .type "range", data := .fields #[.int lo t, .int hi u, .int 1 v] }, toks := tk } := by
  refine wpAny_pyIter_range (IsRange.new ..) (small_one h1 h2 h3 h4) ?_
  have I1 : Inv X pins σ H { s with heap := s.heap.push { cls := .type "range", data := .fields #[.int lo t, .int hi u, .int 1 v] }, toks := tk } := I.kept fun b o e => Heap.get?_push_of_some _ e
  refine ⟨(s.heap.push { cls := .type "range", data := .fields #[.int lo t, .int hi u, .int 1 v] }).objs.size, [(s.heap.push { cls := .type "range", data := .fields #[.int lo t, .int hi u, .int 1 v] }).objs.size], _, _, H, rfl,
    I1.kept (t' := tk) fun b o e => Heap.get?_push_of_some _ e, turn_range _ lo (hi - lo).toNat, ?_, fun b hb => ?_, q⟩
  · have e1 : lo + ((0 : Nat) : Int) * 1 = lo := by simp
    have e2 : (((hi - lo).toNat : Nat) : Int) - ((0 : Nat) : Int) = Builtin.Range.rangeSize lo hi 1 := by rw [rangeSize_one]; split <;> omega
    show IsRangeIter _ _ (lo + ((0 : Nat) : Int) * 1) ((((hi - lo).toNat : Nat) : Int) - ((0 : Nat) : Int)) 1
    rw [e1, e2]
    exact Heap.get?_push_size _ rfl
  · have e : b = (s.heap.push { cls := .type "range", data := .fields #[.int lo t, .int hi u, .int 1 v] }).objs.size := by simpa using hb
    subst e
    exact I1.fpOk (Nat.le_refl _) (I1.hok.fresh (Nat.le_refl _))
noncomputable def iRng1 (ta : TA) : TI := fun σ H R => ta σ H fun vs H1 => ∃ j : Int, vs = [.int j] ∧ -(2 ^ 62) ≤ j ∧ j < 2 ^ 62 ∧ R (Itr 0 j.toNat) H1
theorem pi_range1 {a : Expr} {ta : TA} {p pos : Pos} (hg : Gl X "range") (hm : X.mg "range" = none) (ha : PA X [a] ta) (hs : starEach [a] X.env = [(false, eval a X.env)] := by rfl) : PI X tg (.Call (.Name "range" p) [a] [] pos) (iRng1 ta) := by
  intro pins s σ H R I h
  refine Call_ (ld_blt I hg hm boot_range (PyProof.Rows.callWith_type1 (thn (ha pos pins s σ H _ I h) fun us s1 ⟨vs, H1, I1, r1, q1⟩ => ?_) hs rfl))
  obtain ⟨j, e, q1, q2, q⟩ := q1
  subst e
  cases r1 with
  | cons r rr =>
    cases rr
    obtain ⟨t, rfl⟩ := r
    exact call_range_1 (range_it I1 (by omega) (by omega) q1 q2 (by simpa using q))

noncomputable def tFor (wi : TI) (g : TG) (tb : TS) : TS := fun D σ H => wi σ H fun J H1 => ∃ W : Nat → Nat → St → Hp → Prop, (∃ m, W 0 m σ H1) ∧ ∀ i m σ H, W i m σ H →
  (J.stop i H ∧ D.nx σ H) ∨ (J.go i H ∧ ∃ N : St → Hp → Prop, (∀ σ' H', N σ' H' → ∃ m', m' < m ∧ W (i + 1) m' σ' H') ∧ ∀ x H', J.yld i H x H' → g x σ H' fun σ2 H2 => tb { D with nx := N, ct := N, bk := D.nx } σ2 H2)
noncomputable def pinsAt (fp : List Addr) (h : Heap) : List (Addr × Obj) := fp.filterMap fun b => (h.get? b).map fun o => (b, o)
theorem mem_pinsAt {fp : List Addr} {h : Heap} {b : Addr} {o : Obj} (hb : b ∈ fp) (e : h.get? b = some o) : (b, o) ∈ pinsAt fp h := List.mem_filterMap.mpr ⟨b, hb, by rw [e]; rfl⟩
theorem of_pinsAt {fp : List Addr} {h : Heap} {p : Addr × Obj} (hp : p ∈ pinsAt fp h) : p.1 ∈ fp ∧ h.get? p.1 = some p.2 := by
  obtain ⟨b, hb, e⟩ := List.mem_filterMap.mp hp
  cases q : h.get? b with
  | none => rw [q] at e; cases e
  | some o =>
    rw [q] at e
    have e' : (b, o) = p := Option.some.inj e
    subst e'
    exact ⟨hb, q⟩
theorem Inv.pinned {pins : List (Addr × Obj)} {σ : St} {H : Hp} {s : Shared} {fp : List Addr} (I : Inv X pins σ H s) (hf : ∀ b ∈ fp, FpOk X pins H b) (ho : ∀ b ∈ fp, ∃ o, s.heap.get? b = some o ∧ ∀ v, o.data ≠ .cell v) : Inv X (pins ++ pinsAt fp s.heap) σ H s :=
  I.pins_of fun p hp => (List.mem_append.mp hp).elim (fun z => I.pin p (List.mem_append_right _ z)) fun z => by
    obtain ⟨hb, e⟩ := of_pinsAt z
    obtain ⟨f0, f1, f2, _⟩ := hf p.1 hb
    obtain ⟨o, e', d⟩ := ho p.1 hb
    rw [e] at e'; cases e'
    exact ⟨e, f0, f1, f2, d⟩
theorem Inv.unpinned {pins pl : List (Addr × Obj)} {σ : St} {H : Hp} {s : Shared} (I : Inv X (pins ++ pl) σ H s) : Inv X pins σ H s := I.pins_of fun p hp => I.pin p (List.mem_append_right _ (List.mem_append_left _ hp))
theorem ps_for {iter : Expr} {body : List Stmt} {wi : TI} {g : TG} {tb : TS} {pos : Pos} (hp : PassesOwn (model X.prog X.w) X.A X.env X.xe) (hc : X.calm = true) (hi : PI X tg iter wi) (hg : PG X tg g) (hb : PSs X body tb)
    (hs : ∀ x, foldedSetIterable iter X.env x = pure x := by intro _; rfl) : PS X (.For tg iter body [] pos) (tFor wi g tb) := by
  intro pins s σ H D I h
  refine wpAny_For (thn (hi pins s σ H _ I h) fun v s1 h1 => thn h1 fun itv s2 h2 => ?_) hs
  obtain ⟨it, fp, tn, J, H2, e, I2, T, st2, f2, W, ⟨m0, w0⟩, turn⟩ := h2
  subst e
  -- what stays true of the iterator's objects through the loop
  have stat : ∀ {H' : Hp}, (∀ b ∈ fp, H' b = none) → ∀ b ∈ fp, FpOk X pins H' b := fun hn b hb => ⟨hn b hb, (f2 b hb).2⟩
  refine codeAny_forLoop_any (fun n s' => ∃ i σ' H', Inv X pins σ' H' s' ∧ tn i s'.heap ∧ (∀ b ∈ fp, H' b = none) ∧ W i n σ' H') ?_ m0 ⟨0, σ, H2, I2, st2, fun b hb => (f2 b hb).1, w0⟩
  rintro n s3 ⟨i, σ3, H3, I3, st3, fr3, w3⟩
  rcases turn i n σ3 H3 w3 with ⟨stop, qn⟩ | ⟨go, N, hN, step⟩
  · refine wpAny_passesOwn hp (thn (T.done X rfl rfl rfl hc i pins s3 σ3 H3 X.xe I3 (stat fr3) st3 stop) fun r s4 zz => ?_)
    obtain ⟨hr, I4⟩ := zz
    subst hr
    exact wpAny_execs_nil ⟨σ3, H3, I4, qn⟩
  · refine wpAny_passesOwn hp (thn (T.item X rfl rfl rfl hc i pins s3 σ3 H3 X.xe I3 (stat fr3) st3 go) fun r s4 zz => ?_)
    obtain ⟨u, hr, h4⟩ := zz
    subst hr
    refine wpAny_passesOwn hp (thn h4 fun _ s5 zz => ?_)
    obtain ⟨x, H5, I5, r5, y5, st5, fr5⟩ := zz
    have I5' := I5.pinned (stat fr5) (T.obj _ _ st5)
    refine wpAny_passesOwn hp (thn (hg _ s5 σ3 H5 x u _ I5' r5 (step x H5 y5)) fun _ s6 zz => ?_)
    obtain ⟨σ6, H6, I6, q6⟩ := zz
    refine wpAny_passesOwn hp (thn (hb _ s6 σ6 H6 _ I6 q6) fun f s7 q7 => ?_)
    have again : ∀ {σ7 : St} {H7 : Hp}, Inv X (pins ++ pinsAt fp s5.heap) σ7 H7 s7 → N σ7 H7 → ∃ m, m < n ∧ ∃ i σ' H', Inv X pins σ' H' s7 ∧ tn i s7.heap ∧ (∀ b ∈ fp, H' b = none) ∧ W i m σ' H' := fun {σ7 H7} I7 n7 => by
      obtain ⟨m', hm, w7⟩ := hN σ7 H7 n7
      refine ⟨m', hm, i + 1, σ7, H7, I7.unpinned, T.keep _ _ _ st5 fun b hb o e => (I7.pin (b, o) (List.mem_append_right _ (List.mem_append_right _ (mem_pinsAt hb e)))).1, fun b hb => ?_, w7⟩
      obtain ⟨o, e, d⟩ := T.obj _ _ st5 b hb
      exact (I7.pin (b, o) (List.mem_append_right _ (List.mem_append_right _ (mem_pinsAt hb e)))).2.1
    cases f with
    | next => obtain ⟨σ7, H7, I7, n7⟩ := q7; exact again I7 n7
    | cont => obtain ⟨σ7, H7, I7, n7⟩ := q7; exact again I7 n7
    | brk => obtain ⟨σ7, H7, I7, q7⟩ := q7; exact ⟨σ7, H7, I7.unpinned, q7⟩
    | ret v => obtain ⟨x7, σ7, H7, I7, r7, q7⟩ := q7; exact ⟨x7, σ7, H7, I7.unpinned, r7, q7⟩
end

theorem for_list {K : PySem.W.Frag} {a : Addr} {xs : List V} {g : TG} {tb : TS} {D : Ends} {σ : St} {H : Hp} (Pv : Nat → St → Hp → Prop) (h0 : Pv 0 σ H) (hl : ∀ i σ H, i ≤ xs.length → Pv i σ H → SqL K H a xs)
    (hs : ∀ i x σ H, xs[i]? = some x → Pv i σ H → g x σ H fun σ2 H2 => tb { D with nx := Pv (i + 1), ct := Pv (i + 1), bk := D.nx } σ2 H2) (hd : ∀ σ H, Pv xs.length σ H → D.nx σ H) :
    ∃ W : Nat → Nat → St → Hp → Prop, (∃ m, W 0 m σ H) ∧ ∀ i m σ H, W i m σ H →
      ((Itl K a).stop i H ∧ D.nx σ H) ∨ ((Itl K a).go i H ∧ ∃ N : St → Hp → Prop, (∀ σ' H', N σ' H' → ∃ m', m' < m ∧ W (i + 1) m' σ' H') ∧ ∀ x H', (Itl K a).yld i H x H' → g x σ H' fun σ2 H2 => tb { D with nx := N, ct := N, bk := D.nx } σ2 H2) := by
  refine ⟨fun i m σ H => m = xs.length - i ∧ i ≤ xs.length ∧ Pv i σ H, ⟨xs.length, by simp, Nat.zero_le _, h0⟩, ?_⟩
  rintro i m σ H ⟨rfl, hi, p⟩
  have q := hl i σ H hi p
  by_cases hlt : i < xs.length
  · refine .inr ⟨⟨xs, xs[i], q, by simp [hlt]⟩, Pv (i + 1), fun σ' H' p' => ⟨xs.length - (i + 1), by omega, rfl, hlt, p'⟩, fun x H' y => ?_⟩
    obtain ⟨e, y⟩ := y
    subst e
    exact hs i x σ _ (y xs q) p
  · have e : i = xs.length := by omega
    subst e
    exact .inl ⟨⟨xs, q, Nat.le_refl _⟩, hd σ H p⟩
theorem for_tup {K : PySem.W.Frag} {a : Addr} {xs : List V} {g : TG} {tb : TS} {D : Ends} {σ : St} {H : Hp} (Pv : Nat → St → Hp → Prop) (h0 : Pv 0 σ H) (hl : ∀ i σ H, i ≤ xs.length → Pv i σ H → SqT K H a xs)
    (hs : ∀ i x σ H, xs[i]? = some x → Pv i σ H → g x σ H fun σ2 H2 => tb { D with nx := Pv (i + 1), ct := Pv (i + 1), bk := D.nx } σ2 H2) (hd : ∀ σ H, Pv xs.length σ H → D.nx σ H) :
    ∃ W : Nat → Nat → St → Hp → Prop, (∃ m, W 0 m σ H) ∧ ∀ i m σ H, W i m σ H →
      ((Itt K a).stop i H ∧ D.nx σ H) ∨ ((Itt K a).go i H ∧ ∃ N : St → Hp → Prop, (∀ σ' H', N σ' H' → ∃ m', m' < m ∧ W (i + 1) m' σ' H') ∧ ∀ x H', (Itt K a).yld i H x H' → g x σ H' fun σ2 H2 => tb { D with nx := N, ct := N, bk := D.nx } σ2 H2) := by
  refine ⟨fun i m σ H => m = xs.length - i ∧ i ≤ xs.length ∧ Pv i σ H, ⟨xs.length, by simp, Nat.zero_le _, h0⟩, ?_⟩
  rintro i m σ H ⟨rfl, hi, p⟩
  have q := hl i σ H hi p
  by_cases hlt : i < xs.length
  · refine .inr ⟨⟨xs, xs[i], q, by simp [hlt]⟩, Pv (i + 1), fun σ' H' p' => ⟨xs.length - (i + 1), by omega, rfl, hlt, p'⟩, fun x H' y => ?_⟩
    obtain ⟨e, y⟩ := y
    subst e
    exact hs i x σ _ (y xs q) p
  · have e : i = xs.length := by omega
    subst e
    exact .inl ⟨⟨xs, q, Nat.le_refl _⟩, hd σ H p⟩
theorem for_range {lo : Int} {n : Nat} {g : TG} {tb : TS} {D : Ends} {σ : St} {H : Hp} (Pv : Nat → St → Hp → Prop) (h0 : Pv 0 σ H)
    (hs : ∀ i σ H, i < n → Pv i σ H → g (.int (lo + i)) σ H fun σ2 H2 => tb { D with nx := Pv (i + 1), ct := Pv (i + 1), bk := D.nx } σ2 H2) (hd : ∀ σ H, Pv n σ H → D.nx σ H) :
    ∃ W : Nat → Nat → St → Hp → Prop, (∃ m, W 0 m σ H) ∧ ∀ i m σ H, W i m σ H →
      ((Itr lo n).stop i H ∧ D.nx σ H) ∨ ((Itr lo n).go i H ∧ ∃ N : St → Hp → Prop, (∀ σ' H', N σ' H' → ∃ m', m' < m ∧ W (i + 1) m' σ' H') ∧ ∀ x H', (Itr lo n).yld i H x H' → g x σ H' fun σ2 H2 => tb { D with nx := N, ct := N, bk := D.nx } σ2 H2) := by
  refine ⟨fun i m σ H => m = n - i ∧ i ≤ n ∧ Pv i σ H, ⟨n, by simp, Nat.zero_le _, h0⟩, ?_⟩
  rintro i m σ H ⟨rfl, hi, p⟩
  by_cases hlt : i < n
  · refine .inr ⟨hlt, Pv (i + 1), fun σ' H' p' => ⟨n - (i + 1), by omega, rfl, hlt, p'⟩, fun x H' y => ?_⟩
    obtain ⟨e, y⟩ := y
    subst e y
    exact hs i σ _ hlt p
  · have e : i = n := by omega
    subst e
    exact .inl ⟨Nat.le_refl _, hd σ H p⟩
end L2

namespace L2
open PySem PySem.Spec PyProof.Rows

noncomputable abbrev R2 := V → V → Hp → VK → Prop
noncomputable def OpR (X : Cx) (f : Value → Value → Sem Value) (r : R2) : Prop :=
  ∀ (pins : List (Addr × Obj)) (s : Shared) (σ : St) (H : Hp) (x y : V) (v u : Value) (Q : VK), Inv X pins σ H s → RelV x v → RelV y u → r x y H Q →
    wpAny (model X.prog X.w) X.A (f v u) (EP X pins σ Q) X.xe s
noncomputable def UnR (X : Cx) (f : Value → Sem Value) (r : V → Hp → VK → Prop) : Prop :=
  ∀ (pins : List (Addr × Obj)) (s : Shared) (σ : St) (H : Hp) (x : V) (v : Value) (Q : VK), Inv X pins σ H s → RelV x v → r x H Q →
    wpAny (model X.prog X.w) X.A (f v) (EP X pins σ Q) X.xe s
noncomputable def CallR (X : Cx) (f : Value) (r : List V → Hp → VK → Prop) : Prop :=
  ∀ (pins : List (Addr × Obj)) (s : Shared) (σ : St) (H : Hp) (xs : List V) (us : List Value) (Q : VK), Inv X pins σ H s → Vals xs us → r xs H Q →
    wpAny (model X.prog X.w) X.A (call f us) (EP X pins σ Q) X.xe s

noncomputable def tOp (r : R2) (ta tb : TE) : TE := fun σ H Q => ta σ H fun x H1 => tb σ H1 fun y H2 => r x y H2 Q
noncomputable def tUn (r : V → Hp → VK → Prop) (ta : TE) : TE := fun σ H Q => ta σ H fun x H1 => r x H1 Q
noncomputable def rI (C : Int → Int → Prop) (g : Int → Int → V) : R2 := fun x y H Q => ∃ i j, x = .int i ∧ y = .int j ∧ C i j ∧ Q (g i j) H
noncomputable def rI0 (g : Int → Int → V) : R2 := fun x y H Q => ∃ i j, x = .int i ∧ y = .int j ∧ Q (g i j) H
noncomputable def rU (g : Int → V) : V → Hp → VK → Prop := fun x H Q => ∃ i, x = .int i ∧ Q (g i) H

section
variable {X : Cx} {a b c : Expr} {ta tb tc : TE} {pos : Pos}

theorem binT (ha : PE X a ta) (hb : PE X b tb) {pins : List (Addr × Obj)} {s : Shared} {σ : St} {H : Hp} {R : V → V → Hp → Prop} (I : Inv X pins σ H s)
    (h : ta σ H fun x H1 => tb σ H1 fun y H2 => R x y H2) {Q : Value → Shared → Prop} {f : Value → Value → Sem Value}
    (hf : ∀ v u s2 x y H2, Inv X pins σ H2 s2 → RelV x v → RelV y u → R x y H2 → wpAny (model X.prog X.w) X.A (f v u) Q X.xe s2) :
    wpAny (model X.prog X.w) X.A (eval a X.env) (fun v s₁ => wpAny (model X.prog X.w) X.A (eval b X.env) (fun u s₂ => wpAny (model X.prog X.w) X.A (f v u) Q X.xe s₂) X.xe s₁) X.xe s := by
  refine thn (ha pins s σ H _ I h) fun v s1 zz => ?_
  obtain ⟨x, H1, I1, r1, q1⟩ := zz
  refine thn (hb pins s1 σ H1 _ I1 q1) fun u s2 zz => ?_
  obtain ⟨y, H2, I2, r2, q2⟩ := zz
  exact hf v u s2 x y H2 I2 r1 r2 q2

theorem pe_op {op : Operator} {r : R2} (ho : OpR X (binaryOp op) r) (ha : PE X a ta) (hb : PE X b tb) : PE X (.BinOp a op b pos) (tOp r ta tb) := by
  intro pins s σ H Q I h
  exact wpAny_BinOp (binT ha hb I h fun v u s2 x y H2 I2 rx ry q => ho pins s2 σ H2 x y v u Q I2 rx ry q)
theorem pe_un {op : UnaryOp} {r : V → Hp → VK → Prop} (ho : UnR X (unaryOp op) r) (ha : PE X a ta) : PE X (.UnaryOp op a pos) (tUn r ta) := by
  intro pins s σ H Q I h
  exact UnaryOp_ (thn (ha pins s σ H _ I h) fun v s1 ⟨x, H1, I1, r1, q1⟩ => ho pins s1 σ H1 x v Q I1 r1 q1)

theorem opI {f : Value → Value → Sem Value} {C : Int → Int → Prop} {g : Int → Int → Int}
    (rule : ∀ (i j : Int) (t u : Tok) (s : Shared) (Q : Value → Shared → Prop) (E : Value → Shared → Prop), C i j → Q (.int (g i j) s.toks) { s with toks := s.toks + 1 } → wpAny (model X.prog X.w) X.A (f (.int i t) (.int j u)) Q E s) :
    OpR X f (rI C fun i j => .int (g i j)) := by
  intro pins s σ H x y v u Q I rx ry h
  obtain ⟨i, j, rfl, rfl, hc, q⟩ := h
  obtain ⟨t, rfl⟩ := rx
  obtain ⟨t', rfl⟩ := ry
  exact rule i j t t' s _ _ hc ⟨.int (g i j), H, I.tok _, ⟨_, rfl⟩, q⟩
theorem opI0 {f : Value → Value → Sem Value} {g : Int → Int → Int}
    (rule : ∀ (i j : Int) (t u : Tok) (s : Shared) (Q : Value → Shared → Prop) (E : Value → Shared → Prop), Q (.int (g i j) s.toks) { s with toks := s.toks + 1 } → wpAny (model X.prog X.w) X.A (f (.int i t) (.int j u)) Q E s) :
    OpR X f (rI0 fun i j => .int (g i j)) := by
  intro pins s σ H x y v u Q I rx ry h
  obtain ⟨i, j, rfl, rfl, q⟩ := h
  obtain ⟨t, rfl⟩ := rx
  obtain ⟨t', rfl⟩ := ry
  exact rule i j t t' s _ _ ⟨.int (g i j), H, I.tok _, ⟨_, rfl⟩, q⟩
theorem opB0 {f : Value → Value → Sem Value} {g : Int → Int → Bool}
    (rule : ∀ (i j : Int) (t u : Tok) (s : Shared) (Q : Value → Shared → Prop) (E : Value → Shared → Prop), Q (.bool (g i j)) s → wpAny (model X.prog X.w) X.A (f (.int i t) (.int j u)) Q E s) :
    OpR X f (rI0 fun i j => .bl (g i j)) := by
  intro pins s σ H x y v u Q I rx ry h
  obtain ⟨i, j, rfl, rfl, q⟩ := h
  obtain ⟨t, rfl⟩ := rx
  obtain ⟨t', rfl⟩ := ry
  exact rule i j t t' s _ _ ⟨.bl (g i j), H, I, rfl, q⟩

noncomputable def CPow (i j : Int) : Prop := 0 ≤ j ∧ j ≤ 1000000 ∧ i.natAbs < 2 ^ 64
noncomputable def CMul (i j : Int) : Prop := (-(2 ^ 64) < i ∧ i < 2 ^ 64) ∨ (-(2 ^ 64) < j ∧ j < 2 ^ 64)
theorem CMul.ok {i j : Int} (h : CMul i j) : IntMulOk i j := by
  rcases h with ⟨h1, h2⟩ | ⟨h1, h2⟩
  · exact .of_left (intBits_le_64 h1 h2)
  · exact .of_right (intBits_le_64 h1 h2)

theorem op_add : OpR X (binaryOp .Add) (rI0 fun i j => .int (i + j)) := opI0 fun _ _ _ _ _ _ _ q => add_int q
theorem op_sub : OpR X (binaryOp .Sub) (rI0 fun i j => .int (i - j)) := opI0 fun _ _ _ _ _ _ _ q => sub_int q
theorem op_mul : OpR X (binaryOp .Mult) (rI CMul fun i j => .int (i * j)) := opI fun _ _ _ _ _ _ _ hc q => mul_int q hc.ok
theorem op_mod : OpR X (binaryOp .Mod) (rI (fun _ j => 0 < j) fun i j => .int (i % j)) := opI fun i j _ _ _ _ _ hc q => by
  have h1 : (0 : Int) < j := hc
  exact mod_int' (by omega) (by rw [Int.fmod_eq_emod_of_nonneg i (by omega)]; exact q)
theorem op_pow : OpR X (binaryOp .Pow) (rI CPow fun i j => .int (i ^ j.toNat)) := opI fun _ _ _ _ _ _ _ hc q => pow_int_small hc.1 hc.2.1 hc.2.2 q


theorem unI {f : Value → Sem Value} {g : Int → Int}
    (rule : ∀ (i : Int) (t : Tok) (s : Shared) (Q : Value → Shared → Prop) (E : Value → Shared → Prop), Q (.int (g i) s.toks) { s with toks := s.toks + 1 } → wpAny (model X.prog X.w) X.A (f (.int i t)) Q E s) :
    UnR X f (rU fun i => .int (g i)) := by
  intro pins s σ H x v Q I rx h
  obtain ⟨i, rfl, q⟩ := h
  obtain ⟨t, rfl⟩ := rx
  exact rule i t s _ _ ⟨.int (g i), H, I.tok _, ⟨_, rfl⟩, q⟩
theorem un_neg : UnR X (unaryOp .USub) (rU fun i => .int (-i)) := unI fun _ _ _ _ _ q => neg_int q

end

noncomputable def scal : V → V → Bool
  | .non, .non => true | .non, .int _ => true | .int _, .non => true | .non, .bl _ => true | .bl _, .non => true | .non, .str _ => true | .str _, .non => true
  | .int _, .int _ => true | .bl _, .bl _ => true | .str _, .str _ => true | .byt _, .byt _ => true
  | .int _, .str _ => true | .str _, .int _ => true | .bl _, .str _ => true | .str _, .bl _ => true
  | _, _ => false
noncomputable def rEq : R2 := fun x y H Q => scal x y = true ∧ Q (.bl (decide (x = y))) H
noncomputable def rNe : R2 := fun x y H Q => scal x y = true ∧ Q (.bl (!decide (x = y))) H

theorem dec_int {i j : Int} : decide (V.int i = V.int j) = (i == j) := by
  rw [Bool.eq_iff_iff]
  simp
theorem dec_bl {i j : Bool} : decide (V.bl i = V.bl j) = (i == j) := by
  rw [Bool.eq_iff_iff]
  simp
theorem dec_str {i j : Str} : decide (V.str i = V.str j) = (i == j) := by
  rw [Bool.eq_iff_iff]
  simp
theorem dec_byt {i j : Array UInt8} : decide (V.byt i = V.byt j) = (i.toList == j.toList) := by
  rw [Bool.eq_iff_iff]
  cases i
  cases j
  simp

section
variable {X : Cx} {a b c : Expr} {ta tb tc : TE} {pos : Pos}
theorem fin_bl {pins : List (Addr × Obj)} {σ : St} {H : Hp} {s : Shared} {Q : VK} {k k' : Bool} (I : Inv X pins σ H s) (q : Q (.bl k) H) (e : k = k') : EP X pins σ Q (.bool k') s := by
  subst e
  exact ⟨.bl k, H, I, rfl, q⟩
theorem op_eq : OpR X (compareOp .Eq) rEq := by
  intro pins s σ H x y v u Q I rx ry h
  obtain ⟨hs, q⟩ := h
  cases x with
  | non =>
    cases rx
    cases y with
    | non => cases ry; exact PySem.EqNone.eq_none_none (fin_bl I q (by simp))
    | bl j => cases ry; exact PySem.EqNone.eq_none_bool (fin_bl I q (by simp))
    | int j => obtain ⟨t', rfl⟩ := ry; exact PySem.EqNone.eq_none_int (fin_bl I q (by simp))
    | str j => obtain ⟨t', rfl⟩ := ry; exact PySem.EqNone.eq_none_str (fin_bl I q (by simp))
    | _ => exact absurd (show false = true from hs) Bool.false_ne_true
  | bl i =>
    cases rx
    cases y with
    | non => cases ry; exact PySem.EqNone.eq_bool_none (fin_bl I q (by simp))
    | bl j => cases ry; exact eq_bool (fin_bl I q dec_bl)
    | str j => obtain ⟨t', rfl⟩ := ry; exact PySem.EqMixed.eq_bool_str (fin_bl I q (by simp))
    | _ => exact absurd (show false = true from hs) Bool.false_ne_true
  | int i =>
    obtain ⟨t, rfl⟩ := rx
    cases y with
    | non => cases ry; exact PySem.EqNone.eq_int_none (fin_bl I q (by simp))
    | int j => obtain ⟨t', rfl⟩ := ry; exact eq_int (fin_bl I q dec_int)
    | str j => obtain ⟨t', rfl⟩ := ry; exact PySem.EqMixed.eq_int_str (fin_bl I q (by simp))
    | _ => exact absurd (show false = true from hs) Bool.false_ne_true
  | str i =>
    obtain ⟨t, rfl⟩ := rx
    cases y with
    | non => cases ry; exact PySem.EqNone.eq_str_none (fin_bl I q (by simp))
    | bl j => cases ry; exact PySem.EqMixed.eq_str_bool (fin_bl I q (by simp))
    | int j => obtain ⟨t', rfl⟩ := ry; exact PySem.EqMixed.eq_str_int (fin_bl I q (by simp))
    | str j => obtain ⟨t', rfl⟩ := ry; exact eq_str (fin_bl I q dec_str)
    | _ => exact absurd (show false = true from hs) Bool.false_ne_true
  | byt i =>
    obtain ⟨t, rfl⟩ := rx
    cases y with
    | byt j => obtain ⟨t', rfl⟩ := ry; exact PySem.W.eq_bytes (fin_bl I q dec_byt)
    | _ => exact absurd (show false = true from hs) Bool.false_ne_true
  | _ => cases y <;> exact absurd (show false = true from hs) Bool.false_ne_true
theorem op_ne : OpR X (compareOp .NotEq) rNe := by
  intro pins s σ H x y v u Q I rx ry h
  obtain ⟨hs, q⟩ := h
  cases x with
  | non =>
    cases rx
    cases y with
    | non => cases ry; exact PySem.EqNone.ne_none_none (fin_bl I q (by simp))
    | bl j => cases ry; exact PySem.EqNone.ne_none_bool (fin_bl I q (by simp))
    | int j => obtain ⟨t', rfl⟩ := ry; exact PySem.EqNone.ne_none_int (fin_bl I q (by simp))
    | str j => obtain ⟨t', rfl⟩ := ry; exact PySem.EqNone.ne_none_str (fin_bl I q (by simp))
    | _ => exact absurd (show false = true from hs) Bool.false_ne_true
  | bl i =>
    cases rx
    cases y with
    | non => cases ry; exact PySem.EqNone.ne_bool_none (fin_bl I q (by simp))
    | bl j => cases ry; exact ne_bool (fin_bl I q (congrArg not dec_bl))
    | str j => obtain ⟨t', rfl⟩ := ry; exact PySem.EqMixed.ne_bool_str (fin_bl I q (by simp))
    | _ => exact absurd (show false = true from hs) Bool.false_ne_true
  | int i =>
    obtain ⟨t, rfl⟩ := rx
    cases y with
    | non => cases ry; exact PySem.EqNone.ne_int_none (fin_bl I q (by simp))
    | int j => obtain ⟨t', rfl⟩ := ry; exact ne_int (fin_bl I q (congrArg not dec_int))
    | str j => obtain ⟨t', rfl⟩ := ry; exact PySem.EqMixed.ne_int_str (fin_bl I q (by simp))
    | _ => exact absurd (show false = true from hs) Bool.false_ne_true
  | str i =>
    obtain ⟨t, rfl⟩ := rx
    cases y with
    | non => cases ry; exact PySem.EqNone.ne_str_none (fin_bl I q (by simp))
    | bl j => cases ry; exact PySem.EqMixed.ne_str_bool (fin_bl I q (by simp))
    | int j => obtain ⟨t', rfl⟩ := ry; exact PySem.EqMixed.ne_str_int (fin_bl I q (by simp))
    | str j => obtain ⟨t', rfl⟩ := ry; exact ne_str (fin_bl I q (congrArg not dec_str))
    | _ => exact absurd (show false = true from hs) Bool.false_ne_true
  | byt i =>
    obtain ⟨t, rfl⟩ := rx
    cases y with
    | byt j => obtain ⟨t', rfl⟩ := ry; exact PySem.W.ne_bytes (fin_bl I q (congrArg not dec_byt))
    | _ => exact absurd (show false = true from hs) Bool.false_ne_true
  | _ => cases y <;> exact absurd (show false = true from hs) Bool.false_ne_true

theorem op_lt : OpR X (compareOp .Lt) (rI0 fun i j => .bl (decide (i < j))) := opB0 fun _ _ _ _ _ _ _ q => lt_int q
theorem op_le : OpR X (compareOp .LtE) (rI0 fun i j => .bl (decide (i ≤ j))) := opB0 fun _ _ _ _ _ _ _ q => le_int q
theorem op_gt : OpR X (compareOp .Gt) (rI0 fun i j => .bl (decide (j < i))) := opB0 fun _ _ _ _ _ _ _ q => gt_int q
theorem op_ge : OpR X (compareOp .GtE) (rI0 fun i j => .bl (decide (j ≤ i))) := opB0 fun _ _ _ _ _ _ _ q => ge_int q

theorem op_isN : OpR X (compareOp .Is) (fun x y H Q => y = .non ∧ Q (.bl (decide (x = .non))) H) := by
  intro pins s σ H x y v u Q I rx ry h
  obtain ⟨rfl, q⟩ := h
  cases ry
  refine is_none_gen (fin_bl I q ?_)
  cases x <;> first
    | (cases rx; rfl)
    | (obtain ⟨t, rfl⟩ := rx; rfl)
theorem op_notN : OpR X (compareOp .IsNot) (fun x y H Q => y = .non ∧ Q (.bl (!decide (x = .non))) H) := by
  intro pins s σ H x y v u Q I rx ry h
  obtain ⟨rfl, q⟩ := h
  cases ry
  refine isnot_none_gen (fin_bl I q ?_)
  cases x <;> first
    | (cases rx; rfl)
    | (obtain ⟨t, rfl⟩ := rx; rfl)



theorem nomark (b : Expr) {op : CmpOp} (h : op ≠ .In := by decide) (h2 : op ≠ .NotIn := by decide) : behindInMarks op b = false := by
  have e1 : (op == CmpOp.In) = false := by cases op <;> first | rfl | exact absurd rfl h
  have e2 : (op == CmpOp.NotIn) = false := by cases op <;> first | rfl | exact absurd rfl h2
  cases b <;> simp [behindInMarks, e1, e2]
theorem pe_cmpR {op : CmpOp} {r : R2} (ho : OpR X (compareOp op) r) (ha : PE X a ta) (hb : PE X b tb) (hm : behindInMarks op b = false) : PE X (.Compare a [op] [b] pos) (tOp r ta tb) := by
  intro pins s σ H Q I h
  exact wpAny_Compare1 (binT ha hb I h fun v u s2 x y H2 I2 rx ry q => ho pins s2 σ H2 x y v u Q I2 rx ry q) hm
noncomputable def tTest (t : TE) : TT := fun σ H Q => t σ H fun x H' => ∃ k, x = .bl k ∧ Q k H'
theorem pt_cmpR {op : CmpOp} {r : R2} (ho : OpR X (compareOp op) r) (ha : PE X a ta) (hb : PE X b tb) (hm : behindInMarks op b = false) : PT X (.Compare a [op] [b] pos) (tTest (tOp r ta tb)) := by
  intro pins s σ H Q I h
  refine wpAny_isTrue_Compare1 (thn (ha pins s σ H _ I h) fun v s1 ⟨x, H1, I1, r1, q1⟩ => thn (hb pins s1 σ H1 _ I1 q1) fun u s2 ⟨y, H2, I2, r2, q2⟩ =>
    thn (ho pins s2 σ H2 x y v u _ I2 r1 r2 q2) fun c s3 ⟨z, H3, I3, r3, k, e, q3⟩ => ?_) hm
  subst e
  cases r3
  exact wpAny_truthy_bool ⟨H3, I3, q3⟩
noncomputable def tChain (r r' : R2) (ta tb tc : TE) : TE := fun σ H Q => ta σ H fun x H1 => tb σ H1 fun y H2 => r x y H2 fun z H3 => ∃ k, z = .bl k ∧
  (if k = true then tc σ H3 fun w' H4 => r' y w' H4 Q else Q (.bl false) H3)
theorem pe_chain {op op' : CmpOp} {r r' : R2} (ho : OpR X (compareOp op) r) (ho' : OpR X (compareOp op') r') (ha : PE X a ta) (hb : PE X b tb) (hc : PE X c tc)
    (hm : lastMarks [op, op'] [b, c] = false := by with_unfolding_all rfl) : PE X (.Compare a [op, op'] [b, c] pos) (tChain r r' ta tb tc) := by
  intro pins s σ H Q I h
  refine Compare_chain (thn (ha pins s σ H _ I h) fun v s1 ⟨x, H1, I1, r1, q1⟩ => chain_link (thn (hb pins s1 σ H1 _ I1 q1) fun u s2 ⟨y, H2, I2, r2, q2⟩ =>
    thn (ho pins s2 σ H2 x y v u _ I2 r1 r2 q2) fun d s3 ⟨z, H3, I3, r3, k, e, q3⟩ => ?_)) hm
  subst e
  cases r3
  refine wpAny_truthy_bool ?_
  cases k with
  | false => exact ite_ff ⟨.bl false, H3, I3, rfl, q3⟩
  | true => exact ite_tt (chain_last (thn (hc pins s3 σ H3 _ I3 q3) fun w' s4 ⟨z', H4, I4, r4, q4⟩ => ho' pins s4 σ H4 y z' u w' Q I4 r2 r4 q4))
theorem pt_chain {op op' : CmpOp} {r r' : R2} (ho : OpR X (compareOp op) r) (ho' : OpR X (compareOp op') r') (ha : PE X a ta) (hb : PE X b tb) (hc : PE X c tc)
    (hm : lastMarks [op, op'] [b, c] = false := by with_unfolding_all rfl) : PT X (.Compare a [op, op'] [b, c] pos) (tTest (tChain r r' ta tb tc)) := by
  intro pins s σ H Q I h
  refine isTrue_chain (thn (ha pins s σ H _ I h) fun v s1 ⟨x, H1, I1, r1, q1⟩ => test_link (thn (hb pins s1 σ H1 _ I1 q1) fun u s2 ⟨y, H2, I2, r2, q2⟩ =>
    thn (ho pins s2 σ H2 x y v u _ I2 r1 r2 q2) fun d s3 ⟨z, H3, I3, r3, k, e, q3⟩ => ?_)) hm
  subst e
  cases r3
  refine wpAny_truthy_bool ?_
  cases k with
  | false =>
    obtain ⟨k', e', q'⟩ := q3
    cases e'
    exact ite_ff ⟨H3, I3, q'⟩
  | true =>
    refine ite_tt (test_last (thn (hc pins s3 σ H3 _ I3 q3) fun w' s4 ⟨z', H4, I4, r4, q4⟩ => thn (ho' pins s4 σ H4 y z' u w' _ I4 r2 r4 q4) fun d' s5 zz => ?_))
    obtain ⟨z2, H5, I5, r5, k2, e2, q5⟩ := zz
    subst e2
    cases r5
    exact wpAny_truthy_bool ⟨H5, I5, q5⟩

theorem line63 : (sizeLine : Nat) < 2 ^ 63 := by rw [sizeLine_eq]; decide



theorem vals1 {x : V} {us : List Value} (r : Vals [x] us) : ∃ u, us = [u] ∧ RelV x u := by
  cases r with
  | cons r1 r2 => cases r2; exact ⟨_, rfl, r1⟩
theorem vals2 {x y : V} {us : List Value} (r : Vals [x, y] us) : ∃ u w', us = [u, w'] ∧ RelV x u ∧ RelV y w' := by
  cases r with
  | cons r1 r2 =>
    cases r2 with
    | cons r3 r4 => cases r4; exact ⟨_, _, rfl, r1, r3⟩
theorem call_int1 : CallR X (.type "int") (fun xs H Q => (∃ i, xs = [.int i] ∧ Q (.int i) H) ∨ ∃ k, xs = [.bl k] ∧ Q (.int (if k then 1 else 0)) H) := by
  intro pins s σ H xs us Q I r h
  rcases h with ⟨i, rfl, q⟩ | ⟨k, rfl, q⟩
  · obtain ⟨u, rfl, t, rfl⟩ := vals1 r
    exact call_int_int ⟨.int i, H, I, ⟨_, rfl⟩, q⟩
  · obtain ⟨u, rfl, r1⟩ := vals1 r
    cases r1
    exact call_int_bool ⟨.int (if k then 1 else 0), H, I.tok _, ⟨_, rfl⟩, q⟩
end
end L2

namespace L2
open PySem PySem.Spec PyProof.Rows

structure ObjM (h : Heap) (x dx C : Addr) (mA : Str → Option Value) : Prop where
  obj : h.get? x = some (PySem.W.instObj C dx)
  ns : h.Ns1 dx mA
  ne : dx ≠ x

theorem lookIn_ns {h : Heap} {dx : Addr} {mA : Str → Option Value} (n : h.Ns1 dx mA) : ∃ od, h.get? dx = some od ∧ ∀ name, PySem.W.lookIn name od = some (mA name) := by
  obtain ⟨o, es, ep, ho, hd, hk, _, hm⟩ := n
  refine ⟨o, ho, fun name => ?_⟩
  have e := hm name
  unfold nsFind findBy at e
  rw [← Array.find?_toList] at e
  unfold PySem.W.lookIn
  rw [hd]
  dsimp only
  split
  · rename_i y q
    rw [q] at e
    exact congrArg some e
  · rename_i q
    rw [q] at e
    have a : es.toList.any (·.refKey) = false := by
      rw [List.any_eq_false]
      intro y hy
      obtain ⟨z, t, hkey⟩ := hk y (Array.mem_toList_iff.mp hy)
      simp [DictEntry.refKey, hkey]
    have a' : ¬ es.toList.any (·.refKey) = true := by rw [a]; exact Bool.false_ne_true
    rw [if_neg a']
    exact congrArg some e

theorem ObjM.look {h : Heap} {x dx C : Addr} {mA : Str → Option Value} (I : ObjM h x dx C mA) : ∃ od, PySem.W.InstAt h x (PySem.W.instObj C dx) C (some od) ∧ ∀ name, PySem.W.lookIn name od = some (mA name) :=
  let ⟨od, ho, hl⟩ := lookIn_ns I.ns
  ⟨od, ⟨I.obj, rfl, rfl, ho⟩, hl⟩

section
variable {prog : Program} {w : World} {A : Around} {E : Value → Shared → Prop} {s : Shared} {K : PySem.W.Frag} {x dx C f : Addr} {mA : Str → Option Value} {name : Str} {v : Value}





end


theorem RelO.some_of {v : V} {o : Option Value} (r : RelO (some v) o) : ∃ u, o = some u ∧ RelV v u := by
  cases o with
  | none => exact (show False from r).elim
  | some u => exact ⟨u, rfl, r⟩

section
variable {P : Program} {w : World} {H H' : Hp} {h h' : Heap} {a C dx : Addr} {fs fs' : List (Str × V)}
theorem ins_get (hok : HOk P w H h) (e : H a = some (.ins C dx fs)) : ∃ mA, ObjM h a dx C mA ∧ (∀ f, RelO (fs.lookup f) (mA f)) ∧ PySem.Within mA (fs.map (·.1)) ∧ fs.length ≤ 1000 ∧ H dx = some (.own a) := by
  obtain ⟨d, z, ne, ob, mA, n, r, q⟩ := (show ObjOk P w H h a (.ins C dx fs) from hok a _ e)
  exact ⟨mA, ⟨ob, n, ne⟩, r, q, z, d⟩
end

structure Cls (K : PySem.W.Frag) (C : Addr) : Prop where
  pg : PySem.W.plainGet K C Str.empty = true
  hd : PySem.W.hasDictIn K C = true
  po : PySem.W.plainOver K C = true
  sa : PySem.W.findIn K (.ref C) "__setattr__" = some (some (.builtin "object.__setattr__"))
theorem Cls.get {K : PySem.W.Frag} {C : Addr} (c : Cls K C) (f : Str) : PySem.W.plainGet K C f = true := c.pg

section
variable {X : Cx} {pins : List (Addr × Obj)} {σ : St} {H : Hp} {s : Shared} {a C dx : Addr} {fs : List (Str × V)} {f : Str} {v : V} {A : Around} {E : Value → Shared → Prop}






end


section
variable {X : Cx} {o e value : Expr} {f : Str} {pos pos' tpos : Pos} {ta tv : TE}

end

section
variable {X : Cx} {pins : List (Addr × Obj)} {σ : St} {H : Hp} {s : Shared} {A : Around} {E : Value → Shared → Prop} {Q : Value → Shared → Prop} {c : Value} {b : Bool}
inductive TyOf (K : PySem.W.Frag) (H : Hp) : V → Value → Prop where
  | non : TyOf K H .non (.type "NoneType")
  | bl (x : Bool) : TyOf K H (.bl x) (.type "bool")
  | int (i : Int) : TyOf K H (.int i) (.type "int")
  | str (x : Str) : TyOf K H (.str x) (.type "str")
  | flt (x : UInt64) : TyOf K H (.flt x) (.type "float")
  | lst {a : Addr} {xs : List V} (e : H a = some (.lst xs)) : TyOf K H (.ref a) (.type "list")
  | frz {a : Addr} {o : Obj} {xs : List V} (e : H a = some (.frz o (.lst xs))) : TyOf K H (.ref a) (.type "list")
  | tup {a : Addr} {xs : List V} (e : H a = some (.tup xs)) : TyOf K H (.ref a) (.type "tuple")
  | dK {a : Addr} {kvs : List (Key × V)} (e : H a = some (.dK kvs)) : TyOf K H (.ref a) (.type "dict")
  | dT {a : Addr} {kvs : List (List Key × V)} (e : H a = some (.dT kvs)) : TyOf K H (.ref a) (.type "dict")
  | ins {a C dx : Addr} {fs : List (Str × V)} (e : H a = some (.ins C dx fs)) (cl : Cls K C) (ha : PySem.W.findIn K (.ref C) "__class__" = some (some (.builtin "object.__class__")))
      (hn : PySem.W.specialIn K (.builtin "object.__class__") "__get__" = some (some (.builtin "getset_descriptor.__get__"))) (htk : PySem.W.takesIn K (.builtin "object.__class__") = some true)
      (hm : PySem.W.mroIn K C (.type "object") = some true) : TyOf K H (.ref a) (.ref C)
theorem isinst_ok {x : V} {u t : Value} (I : Inv X pins σ H s) (rx : RelV x u) (ty : TyOf X.K H x t) (e : PySem.W.kitOne X.K t c = some b) (h : ∀ tk, Q (.bool b) { s with toks := tk }) :
    wpAny (model X.prog X.w) A (call (.builtin "isinstance") [u, c]) Q E s := by
  cases ty with
  | non => cases (show u = Value.none from rx); exact PySem.W.kia_one PySem.W.kitx_none I.kIn True.intro e (fun z => nomatch z) h
  | bl y => cases (show u = Value.bool y from rx); exact PySem.W.kia_one PySem.W.kitx_bool I.kIn True.intro e (fun z => nomatch z) h
  | int i => obtain ⟨t, q⟩ := (show ∃ t, u = Value.int i t from rx); cases q; exact PySem.W.kia_one PySem.W.kitx_int I.kIn True.intro e (fun z => nomatch z) h
  | str y => obtain ⟨t, q⟩ := (show ∃ t, u = Value.str y t from rx); cases q; exact PySem.W.kia_one PySem.W.kitx_str I.kIn True.intro e (fun z => nomatch z) h
  | flt y => obtain ⟨t, q⟩ := (show ∃ t, u = Value.float y t from rx); cases q; exact PySem.W.kia_one PySem.W.kitx_float I.kIn True.intro e (fun z => nomatch z) h
  | @lst a xs ea =>
    cases (show u = Value.ref a from rx)
    obtain ⟨_, _, n, _, h1⟩ := (show ObjOk X.prog X.w H s.heap a (.lst xs) from I.hok a _ ea)
    exact PySem.W.kia_one PySem.W.kitx_list I.kIn ⟨_, h1, rfl⟩ e (fun z => nomatch z) h
  | @frz a ob xs ea =>
    cases (show u = Value.ref a from rx)
    obtain ⟨_, _, _, n, _, h1⟩ := (show ObjOk X.prog X.w H s.heap a (.frz ob (.lst xs)) from I.hok a _ ea)
    exact PySem.W.kia_one PySem.W.kitx_list I.kIn ⟨_, h1, rfl⟩ e (fun z => nomatch z) h
  | @tup a xs ea =>
    cases (show u = Value.ref a from rx)
    obtain ⟨_, _, _, p⟩ := (show ObjOk X.prog X.w H s.heap a (.tup xs) from I.hok a _ ea)
    obtain ⟨o, h1, h2, _⟩ := p
    exact PySem.W.kia_one PySem.W.kitx_tuple I.kIn ⟨o, h1, h2⟩ e (fun z => nomatch z) h
  | @dK a kvs ea =>
    cases (show u = Value.ref a from rx)
    obtain ⟨_, _, vs, _, p⟩ := (show ObjOk X.prog X.w H s.heap a (.dK kvs) from I.hok a _ ea)
    obtain ⟨o, es, ep, h1, h2, _⟩ := p
    exact PySem.W.kia_one PySem.W.kitx_dict I.kIn ⟨o, h1, h2.1⟩ e (fun z => nomatch z) h
  | @dT a kvs ea =>
    cases (show u = Value.ref a from rx)
    obtain ⟨_, _, xs, _, o, es, ep, h1, h2, _⟩ := (show ObjOk X.prog X.w H s.heap a (.dT kvs) from I.hok a _ ea)
    exact PySem.W.kia_one PySem.W.kitx_dict I.kIn ⟨o, h1, h2.1⟩ e (fun z => nomatch z) h
  | @ins a C dx fs ea cl ha hn htk hm =>
    cases (show u = Value.ref a from rx)
    obtain ⟨mA, O, _⟩ := ins_get I.hok ea
    obtain ⟨od, J, _⟩ := O.look
    exact PySem.W.kia_one (PySem.W.kitx_own (cl.get _) cl.hd ha hn htk hm) I.kIn J e (fun z => nomatch z) h
end
end L2

namespace L2
open PySem PySem.Spec PyProof.Rows

structure Room (k : Nat) (A : Around) : Prop where
  hd : A.handled = none
  dp : A.depth + 3 * k + 5 < recursionLimit
  un : A.units + 16 * k + 200 < cLine
theorem Room.mono {j k : Nat} {A : Around} (r : Room k A) (h : j ≤ k) : Room j A := ⟨r.hd, by have := r.dp; omega, by have := r.un; omega⟩
theorem Room.deeper {k : Nat} {A : Around} (r : Room (k + 1) A) (env : Env) : Room k (A.deeper env) :=
  ⟨r.hd, by have := r.dp; show A.depth + 1 + 3 * k + 5 < _; omega, by have := r.un; show A.units + 3 + 16 * k + 200 < _; omega⟩
theorem Room.depth {k : Nat} {A : Around} (r : Room k A) : A.depth < recursionLimit := by have := r.dp; omega
theorem Room.units {k : Nat} {A : Around} (r : Room k A) : A.units + 64 < cLine := by have := r.un; omega

noncomputable def tNil : TA := fun _ H Q => Q [] H
noncomputable def tCons (ta : TE) (tr : TA) : TA := fun σ H Q => ta σ H fun x H1 => tr σ H1 fun xs H2 => Q (x :: xs) H2
section
variable {X : Cx} {e : Expr} {es : List Expr} {te : TE} {t : TA} {pos : Pos}
theorem pa_nil : PA X [] tNil := fun _ _ _ _ H Q I h => Calls.spliced_nil ⟨[], H, I, .nil, h⟩
theorem pa_cons (ha : PE X e te) (hr : PA X es t) (hs : starEach (e :: es) X.env = (false, eval e X.env) :: starEach es X.env := by rfl) : PA X (e :: es) (tCons te t) := by
  intro pos pins s σ H Q I h
  rw [hs]
  show wpAny _ _ (spliced ((false, eval e X.env) :: backTo pos (starEach es X.env))) _ _ s
  refine Calls.spliced_cons (thn (ha pins s σ H _ I h) fun u s1 zz => ?_)
  obtain ⟨x, H1, I1, r1, q1⟩ := zz
  exact thn (hr pos pins s1 σ H1 _ I1 q1) fun us s2 ⟨xs, H2, I2, r2, q2⟩ => ⟨x :: xs, H2, I2, .cons r1 r2, q2⟩

noncomputable def tTup (t : TA) : TE := fun σ H Q => t σ H fun xs H1 => xs.length ≤ sizeLine ∧ ∀ p, H1 p = none → Q (.ref p) (upd H1 p (.tup xs))
noncomputable def tLst (t : TA) : TE := fun σ H Q => t σ H fun xs H1 => xs.length ≤ sizeLine ∧ ∀ p, H1 p = none → Q (.ref p) (upd H1 p (.lst xs))
theorem pe_tup {x1} (h : PA X es t) : PE X (.Tuple es x1 pos) (tTup t) := by
  intro pins s σ H Q I hq
  refine wpAny_Tuple_spliced (thn (h pos pins s σ H _ I hq) fun us s1 ⟨xs, H1, I1, r, z, q⟩ => ⟨by rw [← r.length]; exact z, ?_⟩)
  have hf : H1 s1.heap.objs.size = none := I1.hok.fresh (Nat.le_refl _)
  refine ⟨.ref s1.heap.objs.size, upd H1 s1.heap.objs.size (.tup xs), I1.laid (t' := s1.toks) (fun b u e => Heap.get?_push_of_some _ e) (Nat.le_refl _) ?_, rfl, q _ hf⟩
  exact ⟨z, us, r, ⟨_, Heap.get?_push_size _ rfl, rfl, _, rfl⟩⟩
theorem pe_lst (h : PA X es t) : PE X (.List es pos) (tLst t) := by
  intro pins s σ H Q I hq
  refine wpAny_List_spliced (thn (h pos pins s σ H _ I hq) fun us s1 ⟨xs, H1, I1, r, z, q⟩ => ⟨by rw [← r.length]; exact z, ?_⟩)
  have hf : H1 s1.heap.objs.size = none := I1.hok.fresh (Nat.le_refl _)
  refine ⟨.ref s1.heap.objs.size, upd H1 s1.heap.objs.size (.lst xs), I1.laid (t' := s1.toks) (fun b u e => Heap.get?_push_of_some _ e) (Nat.le_refl _) ?_, rfl, q _ hf⟩
  exact ⟨z, us, 0, r, Heap.get?_push_size _ rfl⟩
end

noncomputable abbrev Sp := List V → Hp → VK → XK → Prop
noncomputable abbrev CXT := List Env → Hp → Shared → XK → Value → Shared → Prop

structure Env0 (P : Program) (w : World) (K : PySem.W.Frag) (mg : Str → Option Value) (base : Heap) (A : Around) (outer : List Env) (s : Shared) (H : Hp) : Prop where
  frames : A.frames = some outer
  mod : Mod K mg base
  bs : ∀ b o, base.get? b = some o → s.heap.get? b = some o ∧ H b = none
  bsz : base.objs.size ≤ s.heap.objs.size
  funs : s.heap.FunFrames base outer
  frf : ∀ b ∈ frs outer, H b = none
  hok : HOk P w H s.heap
  bare : AllBare s.gens
noncomputable def CE (outer : List Env) (P : Program) (w : World) (H : Hp) (s : Shared) (Q : VK) (u : Value) (s' : Shared) : Prop :=
  ∃ v H', s'.os = s.os ∧ AllBare s'.gens ∧ Un (frs outer) [] H H' s.heap s'.heap ∧ HOk P w H' s'.heap ∧ RelV v u ∧ Q v H'
noncomputable def CR (CX : CXT) (outer : List Env) (P : Program) (w : World) (H : Hp) (s : Shared) (Q : VK) (E : XK) (r : Result) (s' : Shared) : Prop :=
  match r with
  | .ok (.ret u) => CE outer P w H s Q u s'
  | .ok _ => False
  | .error e => CX outer H s E e s'
structure FnOk (P : Program) (w : World) (K : PySem.W.Frag) (mg : Str → Option Value) (base : Heap) (CX : CXT) (k : Nat) (f : Addr) (fd : FuncData) (ps : List Str) (sp : Sp) : Prop where
  len : ∀ vs H Q E, sp vs H Q E → vs.length = ps.length
  run : ∀ (A : Around) (outer : List Env) (s : Shared) (H : Hp) (args : Args) (us : List Value) (vs : List V) (Q : VK) (E : XK), Room k A → Env0 P w K mg base A outer s H → BindsTo s fd args (ps.zip us) → Vals vs us → sp vs H Q E →
    codeAny (model P w) A (.call (.ref f) args) (CR CX outer P w H s Q E) s
theorem FnOk.imp {P : Program} {w : World} {K : PySem.W.Frag} {mg : Str → Option Value} {base : Heap} {CX : CXT} {k : Nat} {f : Addr} {fd : FuncData} {ps : List Str} {sp sp' : Sp} (F : FnOk P w K mg base CX k f fd ps sp)
    (h : ∀ vs H Q E, sp' vs H Q E → sp vs H Q E) : FnOk P w K mg base CX k f fd ps sp' :=
  ⟨fun vs H Q E q => F.len vs H Q E (h _ _ _ _ q), fun A outer s H args us vs Q E hr he hb hv hs => F.run A outer s H args us vs Q E hr he hb hv (h _ _ _ _ hs)⟩


section
variable {X : Cx} {pins : List (Addr × Obj)} {σ : St} {H : Hp} {s s' : Shared}
theorem Inv.env0 (I : Inv X pins σ H s) : Env0 X.prog X.w X.K X.mg X.base X.A X.stack s H :=
  ⟨I.ok.frames, I.ok.mod, I.bs, Nat.le_trans I.ok.bsz I.sz, I.stack, I.stkFree, I.hok, I.bare⟩
theorem Inv.after {Q : VK} {u : Value} (I : Inv X pins σ H s) (h : CE X.stack X.prog X.w H s Q u s') : EP X pins σ Q u s' := by
  obtain ⟨v, H', os, bare, un, hok, r, q⟩ := h
  obtain ⟨hh, g, d, t, os'⟩ := s'
  obtain rfl : os' = s.os := os
  exact ⟨v, H', I.call (h' := hh) (g' := g) (d' := d) (t' := t) (ch := []) un hok bare (fun b z => absurd z (by simp)), r, q⟩
end

noncomputable def tCall (sp : Sp) (dvs : List V) (E : XK) (t : TA) : TE := fun σ H Q => t σ H fun vs H1 => sp (vs ++ dvs) H1 Q E

noncomputable def Binds (K : PySem.W.Frag) (fd : FuncData) (ps : List Str) (ds : List Value) : Prop :=
  ∀ (s : Shared) (us : List Value), K.In s.heap → (us ++ ds).length = ps.length → BindsTo s fd ⟨us, []⟩ (ps.zip (us ++ ds))
theorem Binds.all {K : PySem.W.Frag} {fd : FuncData} {ps : List Str} (h : ∀ us : List Value, us.length = ps.length → bindArgs fd ⟨us, []⟩ = pure (ps.zip us)) : Binds K fd ps [] := fun s us _ hl => by
  rw [List.append_nil] at hl ⊢
  exact .of_eq (h us hl)

noncomputable def Passes (CX : CXT) (X : Cx) (E : XK) : Prop := ∀ (pins : List (Addr × Obj)) (σ : St) (H : Hp) (s : Shared) (e : Value) (s' : Shared), Inv X pins σ H s → CX X.stack H s E e s' → X.xe e s'

section
variable {X : Cx} {CX : CXT} {k : Nat} {f C : Addr} {fd : FuncData} {ps : List Str} {sp : Sp} {dvs : List V} {ds : List Value} {E : XK} {x m : Str} {p pos apos : Pos} {e o : Expr} {es : List Expr} {ta : TE} {t : TA}

theorem run_fn {pins : List (Addr × Obj)} {σ : St} {H : Hp} {s : Shared} {Q : VK} {us : List Value} {vs : List V} (F : FnOk X.prog X.w X.K X.mg X.base CX k f fd ps sp) (hr : Room k X.A) (hb : Binds X.K fd ps ds) (hd : Vals dvs ds) (hx : Passes CX X E)
    (I : Inv X pins σ H s) (r : Vals vs us) (h : sp (vs ++ dvs) H Q E) : wpAny (model X.prog X.w) X.A (call (.ref f) us) (EP X pins σ Q) X.xe s := by
  have r2 : Vals (vs ++ dvs) (us ++ ds) := r.append hd
  have hl : (us ++ ds).length = ps.length := by rw [← r2.length]; exact F.len _ _ _ _ h
  refine wpAny_call (codeAny_mono (F.run X.A X.stack s H ⟨us, []⟩ (us ++ ds) (vs ++ dvs) Q E hr I.env0 (hb s us I.kIn hl) r2 h) fun r s' hq => ?_)
  cases r with
  | error e => exact hx pins σ H s e s' I hq
  | ok fl =>
    cases fl with
    | ret u => exact I.after hq
    | next => exact False.elim hq
    | brk => exact False.elim hq
    | cont => exact False.elim hq

theorem pe_call (F : FnOk X.prog X.w X.K X.mg X.base CX k f fd ps sp) (hr : Room k X.A) (hg : Gl X x) (hm : X.mg x = some (.ref f)) (hk : PySem.W.keepIn X.K (.ref f) = true) (hb : Binds X.K fd ps ds) (hd : Vals dvs ds) (hx : Passes CX X E)
    (ha : PA X (e :: es) t) (hdb : (x == ("__debug__" : Str)) = false := by decide) (he : starEach (e :: es) X.env = (false, eval e X.env) :: starEach es X.env := by rfl) (hpl : (backTo pos (starEach es X.env)).any (·.1) = false := by rfl) :
    PE X (.Call (.Name x p) (e :: es) [] pos) (tCall sp dvs E t) := by
  intro pins s σ H Q I h
  refine wpAny_Call_Name_kw (ld_glob I hg hm ?_ hdb)
  refine PySem.W.callWith_K (h₀ := X.base) I.ok.mod.kin hk (thn (ha pos pins s σ H _ I h) fun us s1 ⟨vs, H1, I1, r, q⟩ => ⟨I1.kIn, ?_⟩) he hpl
  exact run_fn F hr hb hd hx I1 r q



end

section
variable {X : Cx} {CX : CXT} {k : Nat} {f C : Addr} {fd : FuncData} {ps ks : List Str} {sp : Sp} {E : XK} {x m : Str} {p pos apos kpos : Pos} {e o : Expr} {es : List Expr} {kws : List Keyword} {te ta : TE} {t tk : TA} {nm : Option Str}

variable {g : List Value → List Value → List Value} {gV : List V → List V → List V}
end

structure FnScope (N P : List Str) (sc : Scope) : Prop where
  kind : sc.kind = .function
  co : sc.isCoroutine = false
  gen : sc.isGenerator = false
  nd : N.Nodup
  pre : N.take P.length = P
  par : ∀ x ∈ P, sc.names.lookup x = some .local ∨ sc.names.lookup x = some .cell
  nofree : ∀ y ∈ sc.names, y.2 ≠ .free

theorem bindL_out {kindOf : Str → Option NameKind} {x : Str} : ∀ {binds : List (Str × Value)} {m : Str → Option Value}, (∀ v, (x, v) ∉ binds) → bindL kindOf binds m x = m x
  | [], _, _ => rfl
  | (n, v) :: r, m, h => by
    unfold bindL
    rw [bindL_out fun w hw => h w (List.mem_cons_of_mem _ hw)]
    split
    · have : x ≠ n := by rintro rfl; exact h v List.mem_cons_self
      simp [this]
    · rfl
theorem bindC_out {kindOf : Str → Option NameKind} {x : Str} : ∀ {binds : List (Str × Value)} {m : Str → Option Value}, (∀ v, (x, v) ∉ binds) → bindC kindOf binds m x = m x
  | [], _, _ => rfl
  | (n, v) :: r, m, h => by
    unfold bindC
    rw [bindC_out fun w hw => h w (List.mem_cons_of_mem _ hw)]
    split
    · rfl
    · have : x ≠ n := by rintro rfl; exact h v List.mem_cons_self
      simp [this]
theorem bindL_get {kindOf : Str → Option NameKind} {x : Str} {v : Value} : ∀ {P : List Str} {vs : List Value} {i : Nat} {m : Str → Option Value}, P.Nodup → P[i]? = some x → vs[i]? = some v → kindOf x = some .local →
    bindL kindOf (P.zip vs) m x = some v
  | [], _, _, _, _, h, _, _ => by simp at h
  | _ :: _, [], _, _, _, _, h, _ => by simp at h
  | p :: P, w :: vs, 0, m, nd, h1, h2, hk => by
    simp at h1 h2; subst h1; subst h2
    show bindL kindOf ((p, w) :: P.zip vs) m p = _
    unfold bindL
    rw [bindL_out fun v hv => (List.nodup_cons.mp nd).1 (List.of_mem_zip hv).1, if_pos hk]
    simp
  | p :: P, w :: vs, i + 1, m, nd, h1, h2, hk => by
    show bindL kindOf ((p, w) :: P.zip vs) m x = _
    unfold bindL
    exact bindL_get (i := i) (List.nodup_cons.mp nd).2 (by simpa using h1) (by simpa using h2) hk
theorem bindC_get {kindOf : Str → Option NameKind} {x : Str} {v : Value} : ∀ {P : List Str} {vs : List Value} {i : Nat} {m : Str → Option Value}, P.Nodup → P[i]? = some x → vs[i]? = some v → kindOf x ≠ some .local →
    bindC kindOf (P.zip vs) m x = some v
  | [], _, _, _, _, h, _, _ => by simp at h
  | _ :: _, [], _, _, _, _, h, _ => by simp at h
  | p :: P, w :: vs, 0, m, nd, h1, h2, hk => by
    simp at h1 h2; subst h1; subst h2
    show bindC kindOf ((p, w) :: P.zip vs) m p = _
    unfold bindC
    rw [bindC_out fun v hv => (List.nodup_cons.mp nd).1 (List.of_mem_zip hv).1, if_neg hk]
    simp
  | p :: P, w :: vs, i + 1, m, nd, h1, h2, hk => by
    show bindC kindOf ((p, w) :: P.zip vs) m x = _
    unfold bindC
    exact bindC_get (i := i) (List.nodup_cons.mp nd).2 (by simpa using h1) (by simpa using h2) hk

noncomputable def start (N : List Str) (vs : List V) : St := vs.map some ++ List.replicate (N.length - vs.length) none

noncomputable def cxOf (CX : CXT) (P : Program) (w : World) (K : PySem.W.Frag) (mg : Str → Option Value) (base : Heap) (N : List Str) (qual : Str) (scope : Scope) (f : Addr) (cd : Value) (A : Around) (outer : List Env) (s : Shared) (H : Hp) (E : XK) : Cx where
  prog := P
  w := w
  K := K
  mg := mg
  base := base
  A := A.deeper (envOfC qual scope s.heap.objs.size f cd)
  N := N
  s₀ := s
  H₀ := H
  env := envOfC qual scope s.heap.objs.size f cd
  outer := outer
  stack := envOfC qual scope s.heap.objs.size f cd :: outer
  ex := []
  calm := true
  fn := fun _ => true
  pn := []
  xe := fun e s' => wpAny (model P w) (A.deeper (envOfC qual scope s.heap.objs.size f cd)) (leaving (envOfC qual scope s.heap.objs.size f cd) e) (fun _ s'' => CX outer H s E e s'') (fun e' s'' => CX outer H s E e' s'') s'

theorem cell_has {sc : Scope} {n : Nat} {x : Str} (h : sc.names.lookup x = some .cell) : ∃ c, (cellsFrom n sc.names []).lookup x = some c := by
  have q := PySem.W.cellsFrom_some sc.names n [] (.inl h)
  exact Option.isSome_iff_exists.mp q

theorem inv_start {CX : CXT} {P : Program} {w : World} {K : PySem.W.Frag} {mg : Str → Option Value} {base : Heap} {N ps : List Str} {qual : Str} {scope : Scope} {f : Addr} {cd : Value} {A : Around} {outer : List Env} {s s1 : Shared} {H : Hp} {E : XK} {us : List Value} {vs : List V}
    (S : FnScope N ps scope) (hd : A.handled = none) (e0 : Env0 P w K mg base A outer s H) (hl : vs.length = ps.length) (r : Vals vs us)
    (x : InCallC s s.heap.objs.size (bindL (envOfC qual scope s.heap.objs.size f cd).kindOf (ps.zip us) fun _ => none) (cellsFrom (s.heap.objs.size + 1) scope.names []) (bindC (envOfC qual scope s.heap.objs.size f cd).kindOf (ps.zip us) fun _ => none) s1) :
    Inv (cxOf CX P w K mg base N qual scope f cd A outer s H E) [] (start N vs) H s1 := by
  have hpl : ps.length ≤ N.length := by have := congrArg List.length S.pre; rw [List.length_take] at this; omega
  obtain ⟨h1, tk, rfl, hk⟩ := x.done
  have noA : ∀ b : Addr, b ∉ (cxOf CX P w K mg base N qual scope f cd A outer s H E).ex := fun b z => absurd (show b ∈ ([] : List Addr) from z) (by simp)
  refine ⟨⟨e0.mod, S.kind, rfl, rfl, Nat.le_refl _, fun y z c h1 h2 => ?_, fun y hy => ?_, fun y c _ h => ?_, fun _ => hd, Around.frames_deeper e0.frames, .inr ⟨rfl, rfl⟩, fun b z => absurd z (noA b), e0.bs, e0.bsz, fun b _ _ => noA b, fun b z => absurd z (noA b), e0.funs, e0.frf⟩,
    rfl, e0.bare, Un.kept hk, ⟨_, x.toInCall.ns, fun i y v h1 h2 h3 => ?_⟩, fun y c h => ⟨_, x.cell y c h⟩, e0.hok.fresh (Nat.le_refl _), fun y c h => ?_, fun p hp => absurd (show p ∈ ([] : List (Addr × Obj)) from hp) (by simp), e0.hok.kept hk, ?_⟩
  · exact name_of_addr x.apart (PySem.mem_of_lookup h1) (PySem.mem_of_lookup h2)
  · have hy : scope.names.lookup y = some .cell ∨ scope.names.lookup y = some .free := hy
    rcases hy with hy | hy
    · exact cell_has hy
    · exact absurd rfl (S.nofree _ (PySem.mem_of_lookup hy))
  · exact Nat.le_of_lt (x.above y c (PySem.mem_of_lookup h))
  · have hi : i < vs.length := by
      unfold start at h2
      by_cases hi : i < vs.length
      · exact hi
      · rw [List.getElem?_append_right (by simpa using hi)] at h2
        rw [List.getElem?_replicate] at h2
        split at h2 <;> cases h2
    have ha : vs[i]? = some v := by
      unfold start at h2
      rw [List.getElem?_append_left (by simpa using hi), List.getElem?_map] at h2
      cases e : vs[i]? with
      | none => rw [e] at h2; cases h2
      | some a => rw [e] at h2; cases h2; rfl
    obtain ⟨u, hu, rv⟩ := r.get ha
    have hp : ps[i]? = some y := by
      rw [← S.pre, List.getElem?_take_of_lt (by omega)]; exact h1
    have ndP : ps.Nodup := by rw [← S.pre]; exact S.nd.sublist (List.take_sublist _ _)
    refine ⟨u, rv, ?_⟩
    rcases S.par y (List.mem_of_getElem? hp) with k | k
    · exact .inl ⟨k, bindL_get ndP hp hu k⟩
    · obtain ⟨c, e⟩ := cell_has (n := s.heap.objs.size + 1) k
      refine .inr ⟨.inl k, c, e, ?_⟩
      have q := x.cell y c e
      rw [bindC_get ndP hp hu (by show scope.names.lookup y ≠ _; rw [k]; decide)] at q
      exact q
  · exact e0.hok.fresh (Nat.le_of_lt (x.above y c (PySem.mem_of_lookup h)))
  · unfold start
    show _ = N.length
    rw [List.length_append, List.length_map, List.length_replicate]
    omega

theorem fn_of {CX : CXT} {P : Program} {w : World} {K : PySem.W.Frag} {mg : Str → Option Value} {base : Heap} {k : Nat} {f : Addr} {name qual : Str} {params : Arguments} {body : List Stmt} {scope : Scope} {dV kV doc pm cdv ct oc : Value} {an od : Option Addr}
    {osl : Array (Option Value)} {N ps : List Str} {sp : Sp} (lk : K.lookup f = some ⟨oc, od, .func (PySem.W.fnOf name qual params body scope dV kV doc pm an cdv ct), osl⟩) (hcd : PySem.W.codeIn K cdv qual = true) (S : FnScope N ps scope)
    (len : ∀ vs H Q E, sp vs H Q E → vs.length = ps.length)
    (hbody : ∀ (A : Around) (outer : List Env) (s : Shared) (H : Hp) (vs : List V) (Q : VK) (E : XK), Room k (A.deeper (envOfC qual scope s.heap.objs.size f cdv)) → sp vs H Q E →
      ∃ t, PSs (cxOf CX P w K mg base N qual scope f cdv A outer s H E) body t ∧ t { nx := fun _ H' => Q .non H', rt := Q } (start N vs) H) :
    FnOk P w K mg base CX (k + 1) f (PySem.W.fnOf name qual params body scope dV kV doc pm an cdv ct) ps sp := by
  refine ⟨len, fun A outer s H args us vs Q E hr e0 hb r hsp => ?_⟩
  have hl := len _ _ _ _ hsp
  have KX : K.In s.heap := e0.mod.kin.keeps fun b o e => (e0.bs b o e).1
  have lim : s.heap.NoLimit := e0.mod.nolimit.keeps fun b o e => (e0.bs b o e).1
  have hkind : ∀ y ∈ ps.zip us, scope.names.lookup y.1 = some .local ∨ (scope.names.lookup y.1 = some .cell ∧ ((cellsFrom (s.heap.objs.size + 1) scope.names []).lookup y.1).isSome = true) := fun ⟨n, v⟩ hy => by
    rcases S.par n (List.of_mem_zip hy).1 with q | q
    · exact .inl q
    · exact .inr ⟨q, PySem.W.cellsFrom_some _ _ _ (.inl q)⟩
  refine codeAny_call_function hr.depth (KX _ _ lk) rfl S.co S.gen rfl (PySem.W.codeRec_of KX hcd) (hb _ _ _ _ ?_)
  refine wpAny_newFunctionEnv_cells S.kind hkind fun env he s1 x => ?_
  subst he
  refine ⟨lim.keeps x.toInCall.keep, codeAny_func ?_⟩
  obtain ⟨t, ht, hq⟩ := hbody A outer s H vs Q E (hr.deeper _) hsp
  have I : Inv (cxOf CX P w K mg base N qual scope f cdv A outer s H E) [] (start N vs) H s1 := inv_start S hr.hd e0 hl r x
  refine wpAny_mono (ht [] s1 (start N vs) H _ I hq) (fun fl s' hs => ?_) fun e s' hs => hs
  have fin : ∀ {σ' : St} {H' : Hp} {v : V} {u : Value}, Inv (cxOf CX P w K mg base N qual scope f cdv A outer s H E) [] σ' H' s' → RelV v u → Q v H' → CE outer P w H s Q u s' :=
    fun {σ' H' v u} J rv q => ⟨v, H', J.os, J.bare, J.base, J.hok, rv, q⟩
  cases fl with
  | ret u =>
    obtain ⟨v, σ', H', J, rv, q⟩ := hs
    exact fin J rv q
  | next =>
    obtain ⟨σ', H', J, q⟩ := hs
    exact fin (v := V.non) (u := Value.none) J rfl q
  | brk =>
    obtain ⟨_, _, _, q⟩ := hs
    exact False.elim q
  | cont =>
    obtain ⟨_, _, _, q⟩ := hs
    exact False.elim q
end L2

namespace L2
open PySem PySem.Spec PyProof.Rows
section
variable {X : Cx} {x : Str} {p pos : Pos} {e : Expr} {es : List Expr} {t : TA} {id T : String} {r : List V → Hp → VK → Prop}

noncomputable def tCB (r : List V → Hp → VK → Prop) (t : TA) : TE := fun σ H Q => t σ H fun vs H1 => r vs H1 Q
theorem pe_callB (hc : CallR X (.builtin id) r) (hg : Gl X x) (hm : X.mg x = none) (hv : bootBuiltins x = some (.builtin id)) (ha : PA X (e :: es) t) (hn : x ≠ "__name__" := by decide) (hdb : (x == ("__debug__" : Str)) = false := by decide)
    (he : starEach (e :: es) X.env = (false, eval e X.env) :: starEach es X.env := by rfl) (hpl : (backTo pos (starEach es X.env)).any (·.1) = false := by rfl) : PE X (.Call (.Name x p) (e :: es) [] pos) (tCB r t) := by
  intro pins s σ H Q I h
  refine wpAny_Call_Name_kw (ld_blt I hg hm hv ?_ hn hdb)
  exact PyProof.Rows.callWith_builtin1 (thn (ha pos pins s σ H _ I h) fun us s1 ⟨vs, H1, I1, r1, q1⟩ => hc pins s1 σ H1 vs us Q I1 r1 q1) he hpl
theorem pe_callTy (hc : CallR X (.type T) r) (hg : Gl X x) (hm : X.mg x = none) (hv : bootBuiltins x = some (.type T)) (ha : PA X (e :: es) t) (hn : x ≠ "__name__" := by decide) (hdb : (x == ("__debug__" : Str)) = false := by decide)
    (he : starEach (e :: es) X.env = (false, eval e X.env) :: starEach es X.env := by rfl) (hpl : (backTo pos (starEach es X.env)).any (·.1) = false := by rfl) : PE X (.Call (.Name x p) (e :: es) [] pos) (tCB r t) := by
  intro pins s σ H Q I h
  refine wpAny_Call_Name_kw (ld_blt I hg hm hv ?_ hn hdb)
  exact PyProof.Rows.callWith_type1 (thn (ha pos pins s σ H _ I h) fun us s1 ⟨vs, H1, I1, r1, q1⟩ => hc pins s1 σ H1 vs us Q I1 r1 q1) he hpl
end
end L2

namespace HT
open PySem PyProof.Rows



section
open PySem.SeqAt
open PySem.AutoSeq1 (wpAny_loadPart')
open PySem.MeetsSeq PySem.MeetsSeq2 PySem.MeetsSeq3

end

section
variable {prog : Program} {w : World} {A : Around} {E : Value → Shared → Prop} {s : Shared}


theorem cat_tup {t b : Addr} {vs ws : List Value} {Q : Value → Shared → Prop} (ht : IsTup s.heap t vs.toArray) (hb : IsTup s.heap b ws.toArray) (hv : vs ≠ [])
    (h1 : ws = [] → Q (.ref t) s) (h2 : ws ≠ [] → Q (.ref s.heap.objs.size) { s with heap := s.heap.push { cls := .type "tuple", data := .seq (vs ++ ws).toArray } })
    (hsz : vs.length + ws.length ≤ sizeLine) : wpAny (model prog w) A (binaryOp .Add (.ref t) (.ref b)) Q E s := by
  obtain ⟨⟨cls, dd, data, sl⟩, ho, hc, n, hd⟩ := id ht
  obtain ⟨⟨cls2, dd2, data2, sl2⟩, ho2, hc2, n2, hd2⟩ := id hb
  simp only at hc hd hc2 hd2
  subst hc hd hc2 hd2
  have e : vs.toArray ++ ws.toArray = (vs ++ ws).toArray := by simp
  by_cases hw : ws = []
  · exact concat_meets ⟨_, ho, rfl⟩ ⟨_, ho2, rfl⟩ noFill_tuple_add seq_tuple_add PySem.F.slot_tuple_add PySem.F.entry_tuple_add (PySem.F.args_tuple_add_2 _ _)
      (tuple_addW1 t b vs.toArray ws.toArray n n2 dd dd2 sl sl2 (by simpa using hv) (by simp [hw])) ⟨ho, ho2, h1 hw⟩
  · refine concat_meets ⟨_, ho, rfl⟩ ⟨_, ho2, rfl⟩ noFill_tuple_add seq_tuple_add PySem.F.slot_tuple_add PySem.F.entry_tuple_add (PySem.F.args_tuple_add_2 _ _)
      (tuple_addW2 t b vs.toArray ws.toArray n n2 dd dd2 sl sl2 (by simpa using hv) (by simpa using hw) (by rw [List.size_toArray, List.size_toArray]; exact hsz)) ⟨ho, ho2, ?_⟩
    rw [e]
    exact h2 hw

noncomputable def sIx (n d : Nat) : Option Int → Nat
  | none => d
  | some v => if v < 0 then (v + (n : Int)).toNat else min v.toNat n
theorem sIx_le (n d : Nat) (hd : d ≤ n) (o : Option Int) : sIx n d o ≤ n := by
  cases o with
  | none => exact hd
  | some v =>
    show (if v < 0 then (v + (n : Int)).toNat else min v.toNat n) ≤ n
    by_cases hv : v < 0
    · rw [if_pos hv]; omega
    · rw [if_neg hv]; exact Nat.min_le_right _ _
theorem clip_eq (v : Int) (n d : Nat) : (if v < 0 then max (v + (n : Int)) 0 else min v (n : Int)) = ((sIx n d (some v) : Nat) : Int) := by
  show (if v < 0 then max (v + (n : Int)) 0 else min v (n : Int)) = (((if v < 0 then (v + (n : Int)).toNat else min v.toNat n) : Nat) : Int)
  by_cases hv : v < 0
  · simp only [if_pos hv]; omega
  · simp only [if_neg hv]; omega
theorem adjust_gen (lo hi : Option Int) (n : Nat) : Builtin.Slice.sliceAdjust lo hi 1 (n : Int) = (((sIx n 0 lo : Nat) : Int), ((sIx n n hi : Nat) : Int)) := by
  have h1 : ¬ ((1 : Int) < 0) := by omega
  unfold Builtin.Slice.sliceAdjust
  simp only [h1, if_false]
  refine Prod.ext ?_ ?_
  · cases lo with
    | none => rfl
    | some v => exact clip_eq v n 0
  · cases hi with
    | none => rfl
    | some v => exact clip_eq v n n
theorem places_gen (i j : Nat) : Builtin.Slice.slicePlaces (i : Int) (j : Int) 1 = j - i := by
  unfold Builtin.Slice.slicePlaces
  have h1 : (1 : Int) > 0 := by omega
  simp only [h1, if_true, Int.ediv_one]
  split <;> omega
theorem slicePart_ {v : Value} {o : Option Int} {Q : Option Int → Shared → Prop} (p : IsPart v o) (h : Q o s) : wpAny (model prog w) A (Builtin.Slice.slicePartIndex v) Q E s := by
  cases p with
  | none => exact slicePart_none h
  | int i t => exact slicePart_int h
theorem sliceApplied_gen {sl : Addr} {vl vu : Value} {lo hi : Option Int} {n : Nat} {Q : Int × Int × Nat → Shared → Prop} (hs : s.heap.IsSliceOf sl vl vu .none) (pl : IsPart vl lo) (pu : IsPart vu hi)
    (h : Q (((sIx n 0 lo : Nat) : Int), 1, sIx n n hi - sIx n 0 lo) s) : wpAny (model prog w) A (Builtin.Slice.sliceApplied (.ref sl) (pure (n : Int))) Q E s := by
  obtain ⟨os, hos, hcs, hds⟩ := id hs
  unfold Builtin.Slice.sliceApplied Builtin.Slice.sliceFields
  refine wpAny_bind (wpAny_bind (wpAny_field hos hds (x := vl) rfl (wpAny_bind (wpAny_field hos hds (x := vu) rfl (wpAny_bind (wpAny_field hos hds (x := .none) rfl (wpAny_pure ?_)))))))
  refine wpAny_bind (slicePart_none ?_)
  show wpAny _ _ (if ((1 : Int) == 0) = true then _ else _) _ _ s
  rw [if_neg (by decide)]
  refine wpAny_bind (slicePart_ pl (wpAny_bind (slicePart_ pu (wpAny_bind (wpAny_pure ?_)))))
  show wpAny _ _ (match Builtin.Slice.sliceAdjust lo hi 1 (n : Int) with | (lo, hi) => pure (lo, (1 : Int), Builtin.Slice.slicePlaces lo hi 1)) _ _ s
  rw [adjust_gen lo hi n]
  show wpAny _ _ (pure (((sIx n 0 lo : Nat) : Int), (1 : Int), Builtin.Slice.slicePlaces ((sIx n 0 lo : Nat) : Int) ((sIx n n hi : Nat) : Int) 1)) _ _ s
  rw [places_gen]
  exact wpAny_pure h
theorem pick_gen (xs : Array Value) (i k : Nat) : ((List.range k).filterMap fun (m : Nat) => xs[((i : Int) + (m : Int) * 1).toNat]?).toArray = ((xs.toList.drop i).take k).toArray := by
  have e : (fun (m : Nat) => xs[((i : Int) + (m : Int) * 1).toNat]?) = fun m => xs[i + m]? := by
    funext m
    have : ((i : Int) + (m : Int) * 1).toNat = i + m := by omega
    rw [this]
  rw [e]
  have := pick_run xs i k
  rw [List.filterMap_map] at this
  have e2 : ((fun x => xs[x]?) ∘ fun x => i + x) = fun m => xs[i + m]? := rfl
  rw [e2] at this
  rw [this]

theorem getItem_tuple_cut {t sl : Addr} {items : Array Value} {vl vu : Value} {lo hi : Option Int} {Q : Value → Shared → Prop} (ht : IsTup s.heap t items) (hs : s.heap.IsSliceOf sl vl vu .none) (pl : IsPart vl lo) (pu : IsPart vu hi)
    (hw : ¬ (sIx items.size 0 lo = 0 ∧ sIx items.size items.size hi = items.size))
    (h : Q (.ref s.heap.objs.size) { s with heap := s.heap.push { cls := .type "tuple", data := .seq ((items.toList.drop (sIx items.size 0 lo)).take (sIx items.size items.size hi - sIx items.size 0 lo)).toArray } })
    (hsz : items.size ≤ sizeLine) : wpAny (model prog w) A (getItem (.ref t) (.ref sl)) Q E s := by
  have htake : sizeOk (.seq ((items.toList.drop (sIx items.size 0 lo)).take (sIx items.size items.size hi - sIx items.size 0 lo)).toArray) := by
    show ((items.toList.drop (sIx items.size 0 lo)).take (sIx items.size items.size hi - sIx items.size 0 lo)).toArray.size ≤ sizeLine
    rw [List.size_toArray, List.length_take, List.length_drop, Array.length_toList]
    omega
  have hj : sIx items.size items.size hi ≤ items.size := sIx_le _ _ (Nat.le_refl _) hi
  obtain ⟨os, hos, hcs, hds⟩ := id hs
  have hTs : s.TypeIs (.ref sl) "slice" := ⟨os, hos, hcs⟩
  unfold getItem
  try with_reducible refine wpAny_holding ?_
  first | refine wpAny_bind (wpAny_pure ?_) | skip
  refine wpAny_bind (wpAny_sequenceKey ht.typeIs (by decide) ?_)
  refine wpAny_bind (wpAny_callSpecial?_slot (name := Str.ofString "__getitem__") ht.typeIs PyProof.Rows.slot_tuple_getitem
    (wpAny_call_entry PyProof.Rows.slot_tuple_getitem ht.typeIs entry_tuple_getitem ?_ (args_tuple_getitem _ _)))
  show wpAny _ _ (Builtin.Tuple.tupleItemsOf (.ref t) >>= _) _ _ s
  refine wpAny_bind (tupleItemsOf_ ht ?_)
  refine wpAny_bind (wpAny_typeOf hTs ?_)
  rw [if_pos (by decide)]
  refine wpAny_bind (sliceApplied_gen hs pl pu ?_)
  have hno : ¬ ((((sIx items.size 0 lo : Nat) : Int) == 0 && (1 : Int) == 1 && (sIx items.size items.size hi - sIx items.size 0 lo) == items.size) = true) := by
    intro q
    rw [Bool.and_eq_true, Bool.and_eq_true] at q
    have q1 : ((sIx items.size 0 lo : Nat) : Int) = 0 := eq_of_beq q.1.1
    have q2 : sIx items.size items.size hi - sIx items.size 0 lo = items.size := eq_of_beq q.2
    exact hw ⟨by omega, by omega⟩
  show wpAny _ _ (if (((sIx items.size 0 lo : Nat) : Int) == 0 && (1 : Int) == 1 && (sIx items.size items.size hi - sIx items.size 0 lo) == items.size) = true then _ else _) _ _ s
  rw [if_neg hno, pick_gen]
  first
    | exact wpAny_bind (m := Builtin.Tuple.tupleExact _) (wpAny_newObj_type (wpAny_pure ⟨_, rfl, wpAny_pure h⟩) htake)
    | exact wpAny_bind (m := Builtin.Tuple.tupleExact _) (wpAny_newObj_type (wpAny_bind (wpAny_pure (wpAny_pure ⟨_, rfl, wpAny_pure h⟩))) htake)
    | exact wpAny_bind (wpAny_bind (m := Builtin.Tuple.tupleExact _) (wpAny_newObj_type (wpAny_pure (wpAny_pure ⟨_, rfl, wpAny_pure h⟩)) htake))
    | exact wpAny_bind (wpAny_bind (m := Builtin.Tuple.tupleExact _) (wpAny_newObj_type (wpAny_pure ⟨_, rfl, wpAny_pure h⟩) htake))
end
end HT

namespace L2
open PySem PySem.Spec PyProof.Rows

noncomputable abbrev TO := St → Hp → (Option Int → Hp → Prop) → Prop
noncomputable def PO (X : Cx) (e : Option Expr) (t : TO) : Prop :=
  ∀ (pins : List (Addr × Obj)) (s : Shared) (σ : St) (H : Hp) (Q : Option Int → Hp → Prop), Inv X pins σ H s → t σ H Q →
    wpAny (model X.prog X.w) X.A (evalPart e X.env) (fun u s' => ∃ o H', Inv X pins σ H' s' ∧ IsPart u o ∧ Q o H') X.xe s
noncomputable def tNoPart : TO := fun _ H Q => Q none H
noncomputable def tPart (t : TE) : TO := fun σ H Q => t σ H fun x H1 => ∃ i, x = .int i ∧ Q (some i) H1


section
variable {X : Cx} {e : Expr} {te : TE} {lo hi : Option Expr} {tl th : TO} {pos p2 : Pos}

theorem po_none : PO X none tNoPart := by
  intro pins s σ H Q I h
  rw [evalPart_none]
  exact wpAny_pure ⟨none, H, I, .none, h⟩
theorem po_some (h : PE X e te) : PO X (some e) (tPart te) := by
  intro pins s σ H Q I hw
  rw [evalPart_some]
  refine thn (h pins s σ H _ I hw) fun u s1 zz => ?_
  obtain ⟨x, H1, I1, r1, q1⟩ := zz
  obtain ⟨i, rfl, q⟩ := q1
  obtain ⟨t, rfl⟩ := r1
  exact ⟨some i, H1, I1, .int i t, q⟩

noncomputable def SlR (X : Cx) (r : V → Option Int → Option Int → Hp → VK → Prop) : Prop :=
  ∀ (pins : List (Addr × Obj)) (s : Shared) (σ : St) (H : Hp) (x : V) (v vl vu : Value) (lo hi : Option Int) (sl : Addr) (Q : VK), Inv X pins σ H s → RelV x v → s.heap.IsSliceOf sl vl vu .none → IsPart vl lo → IsPart vu hi → r x lo hi H Q →
    ∃ T id, typeLookup (.type T) "__getitem__" = pure (some (.builtin id)) ∧ s.TypeIs v T ∧ wpAny (model X.prog X.w) X.A (getItem v (.ref sl)) (EP X pins σ Q) X.xe s
noncomputable def tSl (r : V → Option Int → Option Int → Hp → VK → Prop) (te : TE) (tl th : TO) : TE := fun σ H Q => te σ H fun x H1 => tl σ H1 fun l H2 => th σ H2 fun u H3 => r x l u H3 Q
theorem pe_slice {r : V → Option Int → Option Int → Hp → VK → Prop} (hr : SlR X r) (he : PE X e te) (hl : PO X lo tl) (hu : PO X hi th) : PE X (.Subscript e (.Slice lo hi none p2) pos) (tSl r te tl th) := by
  intro pins s σ H Q I h
  refine Subscript_ (thn (he pins s σ H _ I h) fun v s1 zz => ?_)
  obtain ⟨x, H1, I1, r1, q1⟩ := zz
  refine wpAny_Slice (thn (hl pins s1 σ H1 _ I1 q1) fun vl s2 ⟨l, H2, I2, pl, q2⟩ => thn (hu pins s2 σ H2 _ I2 q2) fun vu s3 zz => ?_)
  obtain ⟨u, H3, I3, pu, q3⟩ := zz
  rw [evalPart_none]
  refine wpAny_pure ?_
  have I4 : Inv X pins σ H3 { s3 with heap := s3.heap.push { cls := .type "slice", data := .fields #[vl, vu, .none] } } := I3.kept (t' := s3.toks) fun b ob q => Heap.get?_push_of_some _ q
  obtain ⟨T, id, hT, ht, hg⟩ := hr pins { s3 with heap := s3.heap.push { cls := .type "slice", data := .fields #[vl, vu, .none] } } σ H3 x v vl vu l u s3.heap.objs.size Q I4 r1 (Heap.IsSliceOf.new ..) pl pu q3
  show wpAny (model X.prog X.w) X.A (subscriptTail e (.Slice lo hi none p2) v (.ref s3.heap.objs.size)) (EP X pins σ Q) X.xe { s3 with heap := s3.heap.push { cls := .type "slice", data := .fields #[vl, vu, .none] } }
  exact tail_any (ops := [.ref s3.heap.objs.size, v]) ht hT hg (by with_unfolding_all rfl)

noncomputable def cutV (xs : List V) (lo hi : Option Int) : List V := (xs.drop (HT.sIx xs.length 0 lo)).take (HT.sIx xs.length xs.length hi - HT.sIx xs.length 0 lo)
theorem cutV_length (xs : List V) (lo hi : Option Int) : (cutV xs lo hi).length ≤ xs.length := by
  unfold cutV
  rw [List.length_take, List.length_drop]
  omega
noncomputable def rSlT (K : PySem.W.Frag) : V → Option Int → Option Int → Hp → VK → Prop := fun x lo hi H Q => ∃ a xs, x = .ref a ∧ SqT K H a xs ∧
  ¬ (HT.sIx xs.length 0 lo = 0 ∧ HT.sIx xs.length xs.length hi = xs.length) ∧ ∀ p, H p = none → Q (.ref p) (upd H p (.tup (cutV xs lo hi)))
theorem sl_tup : SlR X (rSlT X.K) := by
  intro pins s σ H x v vl vu lo hi sl Q I rx hs pl pu h
  obtain ⟨a, xs, rfl, hx, hw, q⟩ := h
  cases rx
  obtain ⟨its, r, ht, hz⟩ := I.tuple hx
  have hlen : its.toArray.size = xs.length := by rw [List.size_toArray]; exact r.length.symm
  refine ⟨"tuple", _, PyProof.Rows.slot_tuple_getitem.lookup, ht.typeIs, ?_⟩
  refine HT.getItem_tuple_cut ht hs pl pu (by rw [hlen]; exact hw) ?_ (by rw [hlen]; exact hz)
  rw [hlen]
  refine ⟨.ref s.heap.objs.size, _, I.laid (t' := s.toks) (o := .tup (cutV xs lo hi)) (fun b ob q => Heap.get?_push_of_some _ q) (Nat.le_refl _) ?_, rfl, q _ (I.hok.fresh (Nat.le_refl _))⟩
  exact ⟨Nat.le_trans (cutV_length xs lo hi) hz, _, (r.drop (HT.sIx xs.length 0 lo)).take (HT.sIx xs.length xs.length hi - HT.sIx xs.length 0 lo), IsTup.new _ _⟩

noncomputable def rCatT (K : PySem.W.Frag) : R2 := fun x y H Q => ∃ a b xs ys, x = .ref a ∧ y = .ref b ∧ SqT K H a xs ∧ SqT K H b ys ∧ xs ≠ [] ∧ xs.length + ys.length ≤ sizeLine ∧
  (ys = [] → Q (.ref a) H) ∧ (ys ≠ [] → ∀ p, H p = none → Q (.ref p) (upd H p (.tup (xs ++ ys))))
theorem Vals.nil_iff {xs : List V} {us : List Value} (r : Vals xs us) : us = [] ↔ xs = [] := by
  cases r with
  | nil => simp
  | cons _ _ => simp
theorem op_catT : OpR X (binaryOp .Add) (rCatT X.K) := by
  intro pins s σ H x y v u Q I rx ry h
  obtain ⟨a, b, xs, ys, rfl, rfl, ha, hb, hx, hz, q1, q2⟩ := h
  cases rx
  cases ry
  obtain ⟨its, r1, p1, _⟩ := I.tuple ha
  obtain ⟨its2, r2, p2, _⟩ := I.tuple hb
  refine HT.cat_tup p1 p2 (fun z => hx (r1.nil_iff.mp z)) (fun z => ⟨.ref a, H, I, rfl, q1 (r2.nil_iff.mp z)⟩) (fun z => ?_) (by rw [← r1.length, ← r2.length]; exact hz)
  refine ⟨.ref s.heap.objs.size, _, I.laid (t' := s.toks) (o := .tup (xs ++ ys)) (fun b ob q => Heap.get?_push_of_some _ q) (Nat.le_refl _) ?_, rfl, q2 (fun w => z (r2.nil_iff.mpr w)) _ (I.hok.fresh (Nat.le_refl _))⟩
  exact ⟨by rw [List.length_append]; exact hz, _, r1.append r2, IsTup.new _ _⟩
end
end L2

namespace L2
open PySem PySem.Spec PyProof.Rows

noncomputable def ixN (n : Nat) (i : Int) : Option Nat := if 0 ≤ i then (if i < n then some i.toNat else none) else if -(n : Int) ≤ i then some (i + n).toNat else none
noncomputable def atI {α : Type} (xs : List α) (i : Int) : Option α := (ixN xs.length i).bind fun j => xs[j]?
theorem ixN_seq {n : Nat} {i : Int} {j : Nat} (h : ixN n i = some j) : seqIndex? i n = some j ∧ j < n ∧ -(n : Int) ≤ i ∧ i < n := by
  unfold ixN at h
  by_cases h0 : 0 ≤ i
  · rw [if_pos h0] at h
    by_cases h1 : i < n
    · rw [if_pos h1] at h
      have e : i.toNat = j := Option.some.inj h
      exact ⟨by rw [seqIndex_of h0 h1, e], by omega, by omega, h1⟩
    · rw [if_neg h1] at h; cases h
  · rw [if_neg h0] at h
    by_cases h1 : -(n : Int) ≤ i
    · rw [if_pos h1] at h
      have e : (i + n).toNat = j := Option.some.inj h
      exact ⟨by rw [seqIndex_neg (by omega) h1, e], by omega, h1, by omega⟩
    · rw [if_neg h1] at h; cases h
theorem atI_get {α : Type} {xs : List α} {i : Int} {v : α} (h : atI xs i = some v) : ∃ j, seqIndex? i xs.length = some j ∧ xs[j]? = some v ∧ j < xs.length ∧ -(xs.length : Int) ≤ i ∧ i < xs.length := by
  unfold atI at h
  cases e : ixN xs.length i with
  | none => rw [e] at h; cases h
  | some j =>
    rw [e] at h
    obtain ⟨h1, h2, h3, h4⟩ := ixN_seq e
    exact ⟨j, h1, h, h2, h3, h4⟩
theorem atI_nat {α : Type} {xs : List α} {j : Nat} {v : α} (h : xs[j]? = some v) : atI xs (j : Int) = some v := by
  have hj : j < xs.length := (List.getElem?_eq_some_iff.mp h).1
  have e : ixN xs.length (j : Int) = some j := by
    unfold ixN
    rw [if_pos (by omega), if_pos (by omega)]; simp
  unfold atI; rw [e]; exact h

noncomputable def PlainIx (b : Expr) : Prop := ∀ o i, subscripted b false o i = operate [o, i] (getItem o i)
noncomputable def IxR (X : Cx) (r : R2) : Prop :=
  ∀ (value slice : Expr) (pins : List (Addr × Obj)) (s : Shared) (σ : St) (H : Hp) (x y : V) (v u : Value) (Q : VK), Inv X pins σ H s → RelV x v → RelV y u → r x y H Q →
    subscripted slice false v u = operate [v, u] (getItem v u) → wpAny (model X.prog X.w) X.A (subscriptTail value slice v u) (EP X pins σ Q) X.xe s
noncomputable def MtR (X : Cx) (id : String) (r : V → List V → Hp → VK → Prop) : Prop :=
  ∀ (pins : List (Addr × Obj)) (s : Shared) (σ : St) (H : Hp) (x : V) (xs : List V) (v : Value) (us : List Value) (Q : VK), Inv X pins σ H s → RelV x v → Vals xs us → r x xs H Q →
    wpAny (model X.prog X.w) X.A (call (.builtin id) (v :: us)) (EP X pins σ Q) X.xe s
section
variable {X : Cx} {a b : Expr} {ta tb : TE} {pos : Pos}
theorem pe_ix {r : R2} (hr : IxR X r) (ha : PE X a ta) (hb : PE X b tb) (hs : PlainIx b) : PE X (.Subscript a b pos) (tOp r ta tb) := by
  intro pins s σ H Q I h
  exact Subscript_ (binT ha hb I h fun v u s2 x y H2 I2 rx ry q => hr a b pins s2 σ H2 x y v u Q I2 rx ry q (hs _ _))

noncomputable def rIxL (K : PySem.W.Frag) : R2 := fun x y H Q => ∃ p xs i v, x = .ref p ∧ y = .int i ∧ SqL K H p xs ∧ atI xs i = some v ∧ Q v H
noncomputable def rIxT (K : PySem.W.Frag) : R2 := fun x y H Q => ∃ p xs i v, x = .ref p ∧ y = .int i ∧ SqT K H p xs ∧ atI xs i = some v ∧ Q v H
theorem ix_list : IxR X (rIxL X.K) := by
  intro value slice pins s σ H x y v u Q I rx ry h hs
  obtain ⟨p, xs, i, z, rfl, rfl, hq, he, q⟩ := h
  cases rx
  obtain ⟨t, rfl⟩ := ry
  obtain ⟨its, r, pl, hz⟩ := I.list hq
  obtain ⟨j, h1, h2, h3, h4, h5⟩ := atI_get he
  obtain ⟨w, ew, rw'⟩ := r.get h2
  have hl := r.length
  have hn := line63
  have fin : EP X pins σ Q w s := ⟨z, H, I, rw', q⟩
  by_cases h0 : 0 ≤ i
  · have hj : i.toNat = j := by
      rw [seqIndex_of h0 h5] at h1
      exact Option.some.inj h1
    exact item_listR pl.isList h0 (by omega) (by rw [hj]; simpa using ew) fin hs
  · have hj : (i + (its.toArray.size : Int)).toNat = j := by
      rw [seqIndex_neg (by omega) h4] at h1
      rw [List.size_toArray, ← hl]
      exact Option.some.inj h1
    exact subscriptTail_builtinR (x := w) pl.isList.typeIs slot_list_getitem.lookup
      (wpAny_getItem_list_neg (Q := fun r s' => r = w ∧ EP X pins σ Q r s') pl.isList (by omega) (by rw [List.size_toArray] <;> omega) (by omega) (by rw [hj]; simpa using ew) ⟨rfl, fin⟩) hs
theorem ix_tup : IxR X (rIxT X.K) := by
  intro value slice pins s σ H x y v u Q I rx ry h hs
  obtain ⟨p, xs, i, z, rfl, rfl, hq, he, q⟩ := h
  cases rx
  obtain ⟨t, rfl⟩ := ry
  obtain ⟨its, r, pl, hz⟩ := I.tuple hq
  obtain ⟨j, h1, h2, h3, h4, h5⟩ := atI_get he
  obtain ⟨w, ew, rw'⟩ := r.get h2
  have hl := r.length
  have hn := line63
  have fin : EP X pins σ Q w s := ⟨z, H, I, rw', q⟩
  exact subscriptTail_builtinR (x := w) pl.typeIs slot_tuple_getitem.lookup
    (getItem_tuple (j := j) (Q := fun r s' => r = w ∧ EP X pins σ Q r s') pl (by omega) (by omega) (by rw [List.size_toArray, ← hl]; exact h1) (by simpa using ew) ⟨rfl, fin⟩) hs

theorem mapSeq_set (its : List Value) (n j : Nat) (u : Value) : Obj.mapSeq (·.setIfInBounds j u) { cls := .type "list", data := .seq its.toArray n } = { cls := .type "list", data := .seq (its.set j u).toArray n } := by
  simp [Obj.mapSeq]
theorem Inv.lst {pins : List (Addr × Obj)} {σ : St} {H : Hp} {s : Shared} {p : Addr} {xs : List V} (I : Inv X pins σ H s) (h : H p = some (.lst xs)) :
    ∃ (its : List Value) (n : Nat), Vals xs its ∧ s.heap.get? p = some { cls := .type "list", data := .seq its.toArray n } ∧ xs.length ≤ sizeLine := by
  obtain ⟨z, its, n, r, e⟩ := I.hok p _ h
  exact ⟨its, n, r, e, z⟩
theorem Inv.lstUpd {pins : List (Addr × Obj)} {σ : St} {H : Hp} {s : Shared} {p : Addr} {xs ys : List V} {its its' : List Value} {n n' : Nat} {f : Obj → Obj} (I : Inv X pins σ H s) (h : H p = some (.lst xs))
    (ho : s.heap.get? p = some { cls := .type "list", data := .seq its.toArray n }) (hf : f { cls := .type "list", data := .seq its.toArray n } = { cls := .type "list", data := .seq its'.toArray n' }) (r : Vals ys its') (hz : ys.length ≤ sizeLine) (t : Nat) :
    Inv X pins σ (upd H p (.lst ys)) { s with heap := s.heap.update p f, toks := t } := by
  have e : (s.heap.update p f).get? p = some { cls := .type "list", data := .seq its'.toArray n' } := by
    rw [Heap.get?_update_self f ho (by rw [hf] <;> rfl), hf]
  refine I.write (x := p) (e := p) (by rw [h]; trivial) (.inl rfl) (fun b u hb q => (Heap.get?_update_other _ _ (Ne.symm hb)).trans q) ⟨_, e⟩ ?_
  exact ⟨hz, its', n', r, e⟩
noncomputable def rSetL : V → V → V → Hp → (Hp → Prop) → Prop := fun o i v H Q => ∃ p xs k j, o = .ref p ∧ i = .int k ∧ H p = some (.lst xs) ∧ ixN xs.length k = some j ∧ Q (upd H p (.lst (xs.set j v)))
theorem set_list : PSet X rSetL := by
  intro pins s σ H o i v ov iv u Q I ro ri rv h
  obtain ⟨p, xs, k, j, rfl, rfl, hp, hj, q⟩ := h
  cases ro
  obtain ⟨t, rfl⟩ := ri
  obtain ⟨its, n, r, ho, hz⟩ := I.lst hp
  obtain ⟨h1, h2, h3, h4⟩ := ixN_seq hj
  have hl := r.length
  have hn := line63
  have I' : Inv X pins σ (upd H p (.lst (xs.set j v))) { s with heap := s.heap.update p (Obj.mapSeq (·.setIfInBounds j u)) } :=
    I.lstUpd hp ho (mapSeq_set its n j u) (r.set rv j) (by rw [List.length_set]; exact hz) s.toks
  by_cases h0 : 0 ≤ k
  · have hk : k.toNat = j := by
      rw [seqIndex_of h0 h4] at h1
      exact Option.some.inj h1
    exact PySem.W.ki_setAt ho h0 (by omega) (by rw [List.size_toArray, ← hl]; exact h4) (by rw [hk]; exact ⟨_, I', q⟩)
  · have hk : (k + (its.toArray.size : Int)).toNat = j := by
      rw [seqIndex_neg (by omega) h3] at h1
      rw [List.size_toArray, ← hl]
      exact Option.some.inj h1
    exact PySem.W.ki_setBack ho (by omega) (by rw [List.size_toArray, ← hl]; exact h3) (by omega) (by rw [hk]; exact ⟨_, I', q⟩)

theorem slice_bounds (lo hi : Option Int) (n : Nat) : (sliceBounds lo hi none n).1 = ((HT.sIx n 0 lo : Nat) : Int) ∧ (sliceBounds lo hi none n).2.1 = ((HT.sIx n n hi : Nat) : Int) ∧ (sliceBounds lo hi none n).2.2 = 1 := by
  refine ⟨?_, ?_, rfl⟩
  · cases lo with
    | none => simp [sliceBounds, HT.sIx]
    | some i =>
      simp only [sliceBounds, HT.sIx, Option.getD_none, show (1 : Int) > 0 by decide, if_true]
      by_cases h : i < 0
      · simp only [h, if_true] <;> omega
      · simp only [h, if_false] <;> omega
  · cases hi with
    | none => simp [sliceBounds, HT.sIx]
    | some i =>
      simp only [sliceBounds, HT.sIx, Option.getD_none, show (1 : Int) > 0 by decide, if_true]
      by_cases h : i < 0
      · simp only [h, if_true] <;> omega
      · simp only [h, if_false] <;> omega
theorem slicePick_cut (its : List Value) (lo hi : Option Int) : slicePick its.toArray lo hi none = ((its.drop (HT.sIx its.length 0 lo)).take (HT.sIx its.length its.length hi - HT.sIx its.length 0 lo)).toArray := by
  obtain ⟨h1, h2, h3⟩ := slice_bounds lo hi its.toArray.size
  unfold slicePick
  rw [h1, h2, h3]
  simp only [sliceRange_one, pick_run, List.size_toArray] <;> rfl
noncomputable def rSlL (K : PySem.W.Frag) : V → Option Int → Option Int → Hp → VK → Prop := fun x lo hi H Q => ∃ a xs, x = .ref a ∧ SqL K H a xs ∧ ∀ p, H p = none → Q (.ref p) (upd H p (.lst (cutV xs lo hi)))
theorem sl_list : SlR X (rSlL X.K) := by
  intro pins s σ H x v vl vu lo hi sl Q I rx hs pl pu h
  obtain ⟨a, xs, rfl, hx, q⟩ := h
  cases rx
  obtain ⟨its, r, ht, hz⟩ := I.list hx
  have hlen := r.length
  refine ⟨"list", _, slot_list_getitem.lookup, ht.isList.typeIs, ?_⟩
  refine wpAny_getItem_list_slice ht.isList hs pl pu .none (by simp) ?_ (by rw [List.size_toArray] <;> omega)
  rw [slicePick_cut, ← hlen]
  refine ⟨.ref s.heap.objs.size, _, I.laid (t' := s.toks) (o := .lst (cutV xs lo hi)) (fun b ob q => Heap.get?_push_of_some _ q) (Nat.le_refl _) ?_, rfl, q _ (I.hok.fresh (Nat.le_refl _))⟩
  exact ⟨Nat.le_trans (cutV_length xs lo hi) hz, _, 0, (r.drop (HT.sIx xs.length 0 lo)).take (HT.sIx xs.length xs.length hi - HT.sIx xs.length 0 lo), Heap.get?_push_size _ rfl⟩

noncomputable def flatV : V → Bool
  | .non => true
  | .bl _ => true
  | .int _ => true
  | .str _ => true
  | _ => false
noncomputable def eqV : V → V → Bool
  | .non, .non => true
  | .bl a, .bl b => a == b
  | .bl a, .int b => (if a then 1 else 0) == b
  | .int a, .bl b => a == (if b then 1 else 0)
  | .int a, .int b => a == b
  | .str a, .str b => a == b
  | _, _ => false
theorem eqAt_V {A : Around} {s : Shared} {y x : V} {u v : Value} (ry : RelV y u) (rx : RelV x v) (fy : flatV y = true) (fx : flatV x = true) : SeqAt.EqAt A s u v (eqV y x) := by
  cases y with
  | non =>
    cases ry
    cases x with
    | non => cases rx; exact SeqAt.EqAt.same _
    | bl b => cases rx; exact SeqAt.EqAt.none_bool b
    | int b => obtain ⟨t, rfl⟩ := rx; exact SeqAt.EqAt.none_int b t
    | str b => obtain ⟨t, rfl⟩ := rx; exact SeqAt.EqAt.none_str b t
    | _ => exact absurd (show false = true from fx) Bool.false_ne_true
  | bl a =>
    cases ry
    cases x with
    | non => cases rx; exact SeqAt.EqAt.bool_none a
    | bl b => cases rx; exact SeqAt.EqAt.bool_bool a b
    | int b => obtain ⟨t, rfl⟩ := rx; exact SeqAt.EqAt.bool_int a b t
    | str b => obtain ⟨t, rfl⟩ := rx; exact SeqAt.EqAt.bool_str a b t
    | _ => exact absurd (show false = true from fx) Bool.false_ne_true
  | int a =>
    obtain ⟨t', rfl⟩ := ry
    cases x with
    | non => cases rx; exact SeqAt.EqAt.int_none a t'
    | bl b => cases rx; exact SeqAt.EqAt.int_bool a t' b
    | int b => obtain ⟨t, rfl⟩ := rx; exact SeqAt.EqAt.int_int a t' b t
    | str b => obtain ⟨t, rfl⟩ := rx; exact SeqAt.EqAt.int_str a t' b t
    | _ => exact absurd (show false = true from fx) Bool.false_ne_true
  | str a =>
    obtain ⟨t', rfl⟩ := ry
    cases x with
    | non => cases rx; exact SeqAt.EqAt.str_none a t'
    | bl b => cases rx; exact SeqAt.EqAt.str_bool a t' b
    | int b => obtain ⟨t, rfl⟩ := rx; exact SeqAt.EqAt.str_int a t' b t
    | str b => obtain ⟨t, rfl⟩ := rx; exact SeqAt.EqAt.str_str a t' b t
    | _ => exact absurd (show false = true from fx) Bool.false_ne_true
  | _ => exact absurd (show false = true from fy) Bool.false_ne_true
noncomputable def eqU (x : V) (u : Value) : Bool := match u with
  | .none => eqV .non x
  | .bool b => eqV (.bl b) x
  | .int i _ => eqV (.int i) x
  | .str z _ => eqV (.str z) x
  | _ => false
theorem eqU_of {x y : V} {u : Value} (r : RelV y u) (f : flatV y = true) : eqU x u = eqV y x := by
  cases y with
  | non => cases r; rfl
  | bl b => cases r; rfl
  | int i => obtain ⟨t, rfl⟩ := r; rfl
  | str z => obtain ⟨t, rfl⟩ := r; rfl
  | _ => exact absurd (show false = true from f) Bool.false_ne_true
theorem any_eqU {x : V} : ∀ {xs : List V} {us : List Value}, Vals xs us → xs.all flatV = true → us.any (eqU x) = xs.any fun y => eqV y x
  | _, _, .nil, _ => rfl
  | y :: xs, u :: us, .cons r t, f => by
    rw [List.all_cons, Bool.and_eq_true] at f
    rw [List.any_cons, List.any_cons, eqU_of r f.1, any_eqU t f.2]
theorem mem_eqAt {A : Around} {s : Shared} {x : V} {v : Value} (rx : RelV x v) (fx : flatV x = true) : ∀ {xs : List V} {us : List Value}, Vals xs us → xs.all flatV = true → ∀ u ∈ us, SeqAt.EqAt A s u v (eqU x u)
  | _, _, .nil, _ => fun u hu => by cases hu
  | y :: xs, u :: us, .cons r t, f => fun u' hu => by
    rw [List.all_cons, Bool.and_eq_true] at f
    rcases List.mem_cons.mp hu with rfl | hu
    · rw [eqU_of r f.1]; exact eqAt_V r rx f.1 fx
    · exact mem_eqAt rx fx t f.2 u' hu
noncomputable def inV (x : V) (xs : List V) : Bool := xs.any fun y => eqV y x
noncomputable def rIn (K : PySem.W.Frag) (neg : Bool) : R2 := fun x y H Q => ∃ p xs, y = .ref p ∧ (SqL K H p xs ∨ SqT K H p xs) ∧ flatV x = true ∧ xs.all flatV = true ∧ Q (.bl (if neg then !inV x xs else inV x xs)) H
theorem op_in_seq : OpR X (compareOp .In) (rIn X.K false) := by
  intro pins s σ H x y v u Q I rx ry h
  obtain ⟨p, xs, rfl, hq, fx, fs, q⟩ := h
  cases ry
  rcases hq with hq | hq
  · obtain ⟨its, r, pl, hz⟩ := I.list hq
    refine SeqAt.in_listAt (eqU x) pl.isList (fun w hw => mem_eqAt rx fx r fs w (by simpa using hw)) ⟨.bl _, H, I, rfl, ?_⟩
    rw [show its.toArray.any (eqU x) = its.any (eqU x) by simp, any_eqU r fs]
    exact q
  · obtain ⟨its, r, pl, hz⟩ := I.tuple hq
    refine SeqAt.in_tupleAt (eqU x) pl (fun w hw => mem_eqAt rx fx r fs w (by simpa using hw)) ⟨.bl _, H, I, rfl, ?_⟩
    rw [show its.toArray.any (eqU x) = its.any (eqU x) by simp, any_eqU r fs]
    exact q
theorem op_notIn_seq : OpR X (compareOp .NotIn) (rIn X.K true) := by
  intro pins s σ H x y v u Q I rx ry h
  obtain ⟨p, xs, rfl, hq, fx, fs, q⟩ := h
  cases ry
  rcases hq with hq | hq
  · obtain ⟨its, r, pl, hz⟩ := I.list hq
    refine SeqAt.notIn_listAt (eqU x) pl.isList (fun w hw => mem_eqAt rx fx r fs w (by simpa using hw)) ⟨.bl _, H, I, rfl, ?_⟩
    rw [show its.toArray.any (eqU x) = its.any (eqU x) by simp, any_eqU r fs]
    exact q
  · obtain ⟨its, r, pl, hz⟩ := I.tuple hq
    refine SeqAt.notIn_tupleAt (eqU x) pl (fun w hw => mem_eqAt rx fx r fs w (by simpa using hw)) ⟨.bl _, H, I, rfl, ?_⟩
    rw [show its.toArray.any (eqU x) = its.any (eqU x) by simp, any_eqU r fs]
    exact q

theorem call_len_seq : CallR X (.builtin "len") (fun xs H Q => ∃ p ys, xs = [.ref p] ∧ (SqL X.K H p ys ∨ SqT X.K H p ys) ∧ Q (.int ys.length) H) := by
  intro pins s σ H xs us Q I r h
  obtain ⟨p, ys, rfl, hq, q⟩ := h
  obtain ⟨u, rfl, rx⟩ := vals1 r
  cases rx
  have hn := line63
  rcases hq with hq | hq
  · obtain ⟨its, r', pl, hz⟩ := I.list hq
    have hlen := r'.length
    exact Calls.call_len_list pl.isList (by simp only [List.size_toArray] <;> omega) ⟨.int ys.length, H, I.tok _, ⟨s.toks + 1, by rw [List.size_toArray, hlen]⟩, q⟩
  · obtain ⟨its, r', pl, hz⟩ := I.tuple hq
    have hlen := r'.length
    exact len_tuple pl (by simp only [List.size_toArray] <;> omega) ⟨.int ys.length, H, I.tok _, ⟨s.toks + 1, by rw [List.size_toArray, hlen]⟩, q⟩
theorem call_list_of : CallR X (.type "list") (fun xs H Q => ∃ p ys, xs = [.ref p] ∧ (SqL X.K H p ys ∨ SqT X.K H p ys) ∧ ∀ l, H l = none → Q (.ref l) (upd H l (.lst ys))) := by
  intro pins s σ H xs us Q I r h
  obtain ⟨p, ys, rfl, hq, q⟩ := h
  obtain ⟨u, rfl, rx⟩ := vals1 r
  cases rx
  have fin : ∀ (its : List Value), Vals ys its → ys.length ≤ sizeLine → ∀ (h' : Heap) (c' : Nat), (∀ b o', s.heap.get? b = some o' → h'.get? b = some o') →
      h'.get? s.heap.objs.size = some { cls := .type "list", dict := none, data := .seq its.toArray c', slots := #[] } → EP X pins σ Q (.ref s.heap.objs.size) { s with heap := h' } := fun its r' hz h' c' kp e =>
    ⟨.ref s.heap.objs.size, _, I.laid (t' := s.toks) kp (Nat.le_refl _) (show ObjOk X.prog X.w _ h' _ (.lst ys) from ⟨hz, its, c', r', e⟩), rfl, q _ (I.hok.fresh (Nat.le_refl _))⟩
  rcases hq with hq | hq
  · obtain ⟨its, r', pl, hz⟩ := I.list hq
    have hlen := r'.length
    obtain ⟨o, ho, hc, n, hd⟩ := pl.isList
    exact call_list_seq p (.inl rfl) ho hc hd (fun h' c' kp e => fin its r' hz h' c' kp e) (by simp only [List.size_toArray] <;> omega)
  · obtain ⟨its, r', pl, hz⟩ := I.tuple hq
    have hlen := r'.length
    obtain ⟨o, ho, hc, n, hd⟩ := pl
    exact call_list_seq p (.inr rfl) ho hc hd (fun h' c' kp e => fin its r' hz h' c' kp e) (by simp only [List.size_toArray] <;> omega)
theorem call_tuple_of : CallR X (.type "tuple") (fun xs H Q => ∃ p ys, xs = [.ref p] ∧ ((SqL X.K H p ys ∧ ∀ l, H l = none → Q (.ref l) (upd H l (.tup ys))) ∨ (SqT X.K H p ys ∧ Q (.ref p) H))) := by
  intro pins s σ H xs us Q I r h
  obtain ⟨p, ys, rfl, h⟩ := h
  obtain ⟨u, rfl, rx⟩ := vals1 r
  cases rx
  rcases h with ⟨hq, q⟩ | ⟨hq, q⟩
  · obtain ⟨its, r', pl, hz⟩ := I.list hq
    have hlen := r'.length
    refine call_tuple_list pl.isList (fun h' kp => ?_) (by simp only [List.size_toArray] <;> omega)
    have I1 : Inv X pins σ H { s with heap := h' } := I.kept (t' := s.toks) kp
    have I2 : Inv X pins σ (upd H h'.objs.size (.tup ys)) { s with heap := h'.push { cls := .type "tuple", data := .seq its.toArray } } :=
      I1.laid (t' := s.toks) (fun b o e => Heap.get?_push_of_some _ e) (Nat.le_refl _) (show ObjOk X.prog X.w _ _ _ (.tup ys) from ⟨hz, its, r', IsTup.new _ _⟩)
    exact ⟨.ref h'.objs.size, _, I2, rfl, q _ (I1.hok.fresh (Nat.le_refl _))⟩
  · obtain ⟨its, r', pl, hz⟩ := I.tuple hq
    exact call_tuple_same pl ⟨.ref p, H, I, rfl, q⟩

noncomputable def tyV (K : PySem.W.Frag) (T : String) (x : V) (H : Hp) : Prop := match x with
  | .str _ => T = "str"
  | .int _ => T = "int"
  | .ref p => (T = "list" ∧ ∃ xs, SqL K H p xs) ∨ (T = "tuple" ∧ ∃ o, K.lookup p = some o ∧ o.cls = .type "tuple" ∧ o.dict = none) ∨
      (T = "dict" ∧ ((∃ kvs, H p = some (.dK kvs)) ∨ ∃ kvs, H p = some (.dT kvs))) ∨ (T = "set" ∧ ∃ S n, H p = some (.set S n))
  | _ => False
theorem tyV_is {pins : List (Addr × Obj)} {σ : St} {H : Hp} {s : Shared} {T : String} {x : V} {v : Value} (I : Inv X pins σ H s) (r : RelV x v) (ty : tyV X.K T x H) :
    s.TypeIs v T ∧ ∀ a, v = .ref a → ∃ ob, s.heap.get? a = some ob ∧ ob.dict = none := by
  cases x with
  | str z =>
    obtain ⟨t, rfl⟩ := r
    cases (show T = "str" from ty)
    exact ⟨typeIs_str s z t, fun _ e => nomatch e⟩
  | int i =>
    obtain ⟨t, rfl⟩ := r
    cases (show T = "int" from ty)
    exact ⟨typeIs_int s i t, fun _ e => nomatch e⟩
  | ref p =>
    cases r
    rcases ty with ⟨rfl, xs, hq⟩ | ⟨rfl, o, hk, hc, hd⟩ | ⟨rfl, hk⟩ | ⟨rfl, S, n, hk⟩
    · obtain ⟨its, _, pl, _⟩ := I.list hq
      refine ⟨pl.isList.typeIs, fun a e => ?_⟩
      cases e
      obtain ⟨o, n, e, c, hd, _⟩ := pl
      exact ⟨o, e, hd⟩
    · refine ⟨⟨o, I.kIn p o hk, hc⟩, fun a e => ?_⟩
      cases e
      exact ⟨o, I.kIn _ o hk, hd⟩
    · have z : ∃ o, s.heap.get? p = some o ∧ o.ExactDict := by
        rcases hk with ⟨kvs, hk⟩ | ⟨kvs, hk⟩
        · obtain ⟨_, _, _, _, o, _, _, e, ex, _⟩ := I.hok p _ hk
          exact ⟨o, e, ex⟩
        · obtain ⟨_, _, _, _, o, _, _, e, ex, _⟩ := I.hok p _ hk
          exact ⟨o, e, ex⟩
      obtain ⟨o, e, ex⟩ := z
      refine ⟨⟨o, e, ex.1⟩, fun a e2 => ?_⟩
      cases e2
      exact ⟨o, e, ex.2.1⟩
    · obtain ⟨o, _, _, _, e, ex, _⟩ := I.hok p _ hk
      refine ⟨⟨o, e, ex.1⟩, fun a e2 => ?_⟩
      cases e2
      exact ⟨o, e, ex.2.1⟩
  | _ => exact False.elim ty
noncomputable def tBM (K : PySem.W.Frag) (T : String) (r : V → List V → Hp → VK → Prop) (to : TE) (t : TA) : TE := fun σ H Q => to σ H fun x H1 => tyV K T x H1 ∧ t σ H1 fun xs H2 => r x xs H2 Q
variable {o e : Expr} {es : List Expr} {to : TE} {t : TA} {name : Str} {apos cpos : Pos} {T id : String} {r : V → List V → Hp → VK → Prop}
theorem pe_bm (pa : PlainAttrs T) (slot : Slot T name id) (hty : typeOf (.builtin id) = pure (.type "method_descriptor")) (hm : MtR X id r) (ho : PE X o to) (ha : PA X (e :: es) t)
    (hbase : attributeBase o name X.env (eval o X.env) = eval o X.env := by rfl)
    (hfew : ((backTo cpos (starEach (e :: es) X.env)).all (fun x => !x.1) && (backToKw cpos (keywordEach [] X.env)).all (fun x => x.1.isSome)
      && decide ((e :: es).length + ([] : List Keyword).length + (if ([] : List Keyword).isEmpty then 0 else 1) < 30)) = true := by rfl)
    (hline : (apos.endLine == cpos.line) = true := by rfl) (hs : starEach (e :: es) X.env = (false, eval e X.env) :: starEach es X.env := by rfl) (hplain : (backTo cpos (starEach es X.env)).any (·.1) = false := by rfl) :
    PE X (.Call (.Attribute o name apos) (e :: es) [] cpos) (tBM X.K T r to t) := by
  intro pins s σ H Q I h
  refine wpAny_Call_method_late hbase hfew hline rfl (thn (ho pins s σ H _ I h) fun v s1 zz => ?_)
  obtain ⟨x, H1, I1, r1, ty, q1⟩ := zz
  obtain ⟨h1, h2⟩ := tyV_is I1 r1 ty
  refine ⟨T, id, pa, slot, hty, h1, h2, ?_⟩
  have hA := ha cpos pins s1 σ H1 _ I1 q1
  rw [hs] at hA ⊢
  refine Calls.callWith_builtin (by show (false || (backTo cpos (starEach es X.env)).any (·.1)) = false; rw [hplain] <;> rfl) (Calls.evalArgs_plain ?_)
  exact thn hA fun us s2 ⟨vs, H2, I2, r2, q2⟩ => hm pins s2 σ H2 x vs v us Q I2 r1 r2 q2
/- xs.append(e), list.index on a module's tuple .. are MtR facts of 06m -/
end
end L2

namespace L2
open PySem PySem.Spec PyProof.Rows

noncomputable def MtM (X : Cx) (id : String) (r : V → List V → Hp → VK → Prop) : Prop :=
  ∀ (pins : List (Addr × Obj)) (s : Shared) (σ : St) (H : Hp) (x : V) (xs : List V) (v : Value) (us : List Value) (Q : VK), Inv X pins σ H s → RelV x v → Vals xs us → r x xs H Q →
    wpAny (model X.prog X.w) X.A (call (.builtin id) (v :: us)) (EP X pins σ Q) X.xe s

theorem Vals.one : ∀ {x : V} {us : List Value}, Vals [x] us → ∃ u, us = [u] ∧ RelV x u
  | _, _, .cons r .nil => ⟨_, rfl, r⟩
theorem Vals.eraseIdx : ∀ {xs : List V} {us : List Value} (i : Nat), Vals xs us → Vals (xs.eraseIdx i) (us.eraseIdx i)
  | _, _, _, .nil => .nil
  | _, _, 0, .cons _ t => t
  | _, _, i + 1, .cons r t => .cons r (Vals.eraseIdx i t)
theorem Vals.rep {xs : List V} {us : List Value} (h : Vals xs us) : ∀ k : Nat, Vals (List.replicate k xs).flatten (List.replicate k us).flatten
  | 0 => .nil
  | k + 1 => by
    rw [List.replicate_succ, List.replicate_succ, List.flatten_cons, List.flatten_cons]
    exact Vals.append h (Vals.rep h k)
theorem len_erase {α : Type} : ∀ (l : List α) (i : Nat), (l.eraseIdx i).length ≤ l.length
  | [], _ => Nat.le_refl _
  | _ :: _, 0 => Nat.le_succ _
  | _ :: r, i + 1 => Nat.succ_le_succ (len_erase r i)
theorem foldl_rep (its : List Value) : ∀ (k : Nat) (acc : List Value),
    List.foldl (fun x1 x2 => x1 ++ x2) acc.toArray (List.replicate k its.toArray) = (acc ++ (List.replicate k its).flatten).toArray
  | 0, acc => by simp
  | k + 1, acc => by
    have e : acc.toArray ++ its.toArray = (acc ++ its).toArray := by simp
    have e2 : (acc ++ its) ++ (List.replicate k its).flatten = acc ++ (List.replicate (k + 1) its).flatten := by
      rw [List.replicate_succ, List.flatten_cons, List.append_assoc]
    rw [← e2, ← foldl_rep its k (acc ++ its), ← e, List.replicate_succ, List.foldl_cons]

section
variable {X : Cx} {pins : List (Addr × Obj)} {σ : St} {H : Hp} {s : Shared} {l b : Addr} {xs ys zs : List V}

theorem Inv.lset {its its' : List Value} {n : Nat} {f : Array Value → Array Value} {t' : Nat} (I : Inv X pins σ H s) (hH : H l = some (.lst xs))
    (e : s.heap.get? l = some { cls := .type "list", data := .seq its.toArray n }) (hf : f its.toArray = its'.toArray) (hv : Vals ys its') (hz : ys.length ≤ sizeLine) :
    Inv X pins σ (upd H l (.lst ys)) { s with heap := s.heap.update l (Obj.mapSeq f), toks := t' } := by
  have q := PySem.IsL.update e f
  rw [hf] at q
  refine I.write (x := l) (e := l) (by rw [hH]; exact trivial) (.inl rfl) (fun b' u hb hu => (Heap.get?_update_other s.heap (Obj.mapSeq f) (Ne.symm hb)).trans hu) ⟨_, q⟩ ?_
  exact ⟨hz, its', _, hv, q⟩
theorem Inv.lnew {its : List Value} {t' : Nat} (I : Inv X pins σ H s) (hv : Vals ys its) (hz : ys.length ≤ sizeLine) :
    Inv X pins σ (upd H s.heap.objs.size (.lst ys)) { s with heap := s.heap.push { cls := .type "list", data := .seq its.toArray }, toks := t' } :=
  I.laid (fun _ _ q => Heap.get?_push_of_some _ q) (Nat.le_refl _) ⟨hz, its, 0, hv, Heap.get?_push_size _ rfl⟩
theorem Inv.fresh (I : Inv X pins σ H s) : H s.heap.objs.size = none := I.hok.fresh (Nat.le_refl _)
theorem Inv.lstM (I : Inv X pins σ H s) (hH : H l = some (.lst xs)) : xs.length ≤ sizeLine ∧ ∃ (its : List Value) (n : Nat), Vals xs its ∧ xs.length = its.length ∧ s.heap.get? l = some { cls := .type "list", data := .seq its.toArray n } := by
  obtain ⟨z, its, n, r, e⟩ := I.hok l _ hH
  exact ⟨z, its, n, r, r.length, e⟩

theorem notLongL {n : Nat} (h : n ≤ sizeLine) : Builtin.List.listTooLong n = false := by
  unfold Builtin.List.listTooLong
  exact decide_eq_false (by omega)
end

section
variable {X : Cx}

noncomputable def rAppend : V → List V → Hp → VK → Prop := fun x vs H Q => ∃ l xs y, x = .ref l ∧ vs = [y] ∧ H l = some (.lst xs) ∧ xs.length < sizeLine ∧ Q .non (upd H l (.lst (xs ++ [y])))
theorem mt_append : MtM X "list.append" rAppend := by
  intro pins s σ H x vs v us Q I rx rv h
  obtain ⟨l, xs, y, rfl, rfl, hH, hz, q⟩ := h
  cases rx
  obtain ⟨u, rfl, ru⟩ := rv.one
  obtain ⟨z, its, n, r, hl, e⟩ := I.lstM hH
  refine call_meets F.slot_list_append ⟨_, e, rfl⟩ F.entry_list_append (F.args_list_append_2 _ _) (PySem.list_append l its.toArray n u (by rw [List.size_toArray]; omega)) ⟨e, ?_⟩
  refine ⟨.non, _, I.lset (its' := its ++ [u]) hH e (by simp) (r.append (.cons ru .nil)) ?_, rfl, q⟩
  rw [List.length_append, List.length_singleton]
  omega

noncomputable def rExtend : V → List V → Hp → VK → Prop := fun x vs H Q => ∃ l b xs zs, x = .ref l ∧ vs = [.ref b] ∧ H l = some (.lst xs) ∧ H b = some (.lst zs) ∧ xs.length + zs.length ≤ sizeLine ∧ Q .non (upd H l (.lst (xs ++ zs)))
theorem mt_extend : MtM X "list.extend" rExtend := by
  intro pins s σ H x vs v us Q I rx rv h
  obtain ⟨l, b, xs, zs, rfl, rfl, hH, hB, hz, q⟩ := h
  cases rx
  obtain ⟨u, rfl, ru⟩ := rv.one
  cases ru
  obtain ⟨z, its, n, r, hl, e⟩ := I.lstM hH
  obtain ⟨z2, its2, n2, r2, hl2, e2⟩ := I.lstM hB
  have hsz : its.toArray.size + its2.toArray.size ≤ sizeLine := by rw [List.size_toArray, List.size_toArray]; omega
  have hlong : ¬ (!its.toArray.isEmpty && Builtin.List.listTooLong (its.toArray.size + its2.toArray.size)) = true := by
    rw [notLongL hsz, Bool.and_false]
    exact Bool.false_ne_true
  refine call_meets F.slot_list_extend ⟨_, e, rfl⟩ F.entry_list_extend (F.args_list_extend_2 _ _)
    (AutoSeq1.list_extend_list_list_0 l its.toArray n b its2.toArray n2 hlong (by rw [List.size_toArray]; omega) (by omega)) ⟨e, e2, ?_⟩
  refine ⟨.non, _, I.lset (its' := its ++ its2) hH e (by simp) (r.append r2) ?_, rfl, q⟩
  rw [List.length_append]
  omega





noncomputable def rCat : R2 := fun x y H Q => ∃ l b xs zs, x = .ref l ∧ y = .ref b ∧ H l = some (.lst xs) ∧ H b = some (.lst zs) ∧ xs.length + zs.length ≤ sizeLine ∧ ∀ p, H p = none → Q (.ref p) (upd H p (.lst (xs ++ zs)))
theorem op_cat : OpR X (binaryOp .Add) rCat := by
  intro pins s σ H x y v u Q I rx ry h
  obtain ⟨l, b, xs, zs, rfl, rfl, hH, hB, hz, q⟩ := h
  cases rx
  cases ry
  obtain ⟨z, its, n, r, hl, e⟩ := I.lstM hH
  obtain ⟨z2, its2, n2, r2, hl2, e2⟩ := I.lstM hB
  refine PySem.P.add_list e e2 ?_ (by rw [List.size_toArray, List.size_toArray]; omega)
  have ea : its.toArray ++ its2.toArray = (its ++ its2).toArray := by simp
  rw [ea]
  exact ⟨.ref _, _, I.lnew (t' := s.toks) (r.append r2) (by rw [List.length_append]; omega), rfl, q _ I.fresh⟩
theorem len_rep {α : Type} (xs : List α) (k : Nat) : (List.replicate k xs).flatten.length = k * xs.length := by
  induction k with
  | zero => simp
  | succ k ih => rw [List.replicate_succ, List.flatten_cons, List.length_append, ih, Nat.succ_mul, Nat.add_comm]

end

section
variable {prog : Program} {w : World} {A : Around} {E : Value → Shared → Prop} {s : Shared}
set_option maxRecDepth 100000 in
end

section
variable {X : Cx}
end
end L2

namespace L2
open PySem PySem.Spec PyProof.Rows

section
variable {κ : Type} [DecidableEq κ]
noncomputable def valV (kvs : List (κ × V)) (k : κ) : Option V := (kvs.find? fun kv => decide (kv.1 = k)).map (·.2)
noncomputable def putK (kvs : List (κ × V)) (k : κ) (v : V) : List (κ × V) :=
  if (kvs.any fun kv => decide (kv.1 = k)) = true then kvs.map (fun kv => if kv.1 = k then (kv.1, v) else kv) else kvs ++ [(k, v)]

theorem valV_pos {p : κ × V} {r : List (κ × V)} {k : κ} (e : p.1 = k) : valV (p :: r) k = some p.2 := by simp [valV, List.find?_cons, e]
theorem valV_neg {p : κ × V} {r : List (κ × V)} {k : κ} (e : ¬ p.1 = k) : valV (p :: r) k = valV r k := by simp [valV, List.find?_cons, e]
theorem valV_any (k : κ) : ∀ kvs : List (κ × V), (kvs.any fun kv => decide (kv.1 = k)) = (valV kvs k).isSome
  | [] => rfl
  | p :: r => by
    rw [List.any_cons]
    by_cases e : p.1 = k
    · simp only [valV_pos e, decide_eq_true e, Bool.true_or, Option.isSome_some]
    · rw [valV_neg e, decide_eq_false e, Bool.false_or]; exact valV_any k r
theorem length_putK (kvs : List (κ × V)) (k : κ) (v : V) : (putK kvs k v).length ≤ kvs.length + 1 := by
  unfold putK
  split
  · rw [List.length_map]; omega
  · rw [List.length_append, List.length_cons, List.length_nil]; omega

theorem RelO.isSome_eq {o : Option V} {u : Option Value} (r : RelO o u) : o.isSome = u.isSome := by
  cases o with
  | none => cases u with
    | none => rfl
    | some _ => exact (show False from r).elim
  | some _ => cases u with
    | none => exact (show False from r).elim
    | some _ => rfl

theorem KV.val {kvs : List (κ × V)} {vs : List (κ × Value)} (r : KV kvs vs) (k : κ) : RelO (valV kvs k) (valueAt vs k) := by
  unfold KV at r
  induction r with
  | nil => exact True.intro
  | @cons p q ps qs h t ih =>
    obtain ⟨h1, h2⟩ := h
    by_cases e : p.1 = k
    · have e' : q.1 = k := h1.symm.trans e
      have b : valueAt (q :: qs) k = some q.2 := by simp [valueAt, List.find?_cons, e']
      rw [valV_pos e, b]; exact h2
    · have e' : ¬ q.1 = k := fun z => e (h1.trans z)
      have b : valueAt (q :: qs) k = valueAt qs k := by simp [valueAt, List.find?_cons, e']
      rw [valV_neg e, b]; exact ih
theorem KV.any {kvs : List (κ × V)} {vs : List (κ × Value)} (r : KV kvs vs) (k : κ) : (kvs.any fun kv => decide (kv.1 = k)) = vs.any fun kv => decide (kv.1 = k) := by
  unfold KV at r
  induction r with
  | nil => rfl
  | cons h t ih => rw [List.any_cons, List.any_cons, ih, h.1]
theorem KV.repl {kvs : List (κ × V)} {vs : List (κ × Value)} (r : KV kvs vs) (k : κ) {y : V} {u : Value} (ry : RelV y u) :
    KV (kvs.map fun kv => if kv.1 = k then (kv.1, y) else kv) (vs.map fun kv => if kv.1 = k then (kv.1, u) else kv) := by
  unfold KV at r ⊢
  induction r with
  | nil => exact .nil
  | @cons p q ps qs h t ih =>
    rw [List.map_cons, List.map_cons]
    refine .cons ?_ ih
    obtain ⟨h1, h2⟩ := h
    by_cases e : p.1 = k
    · rw [if_pos e, if_pos (h1.symm.trans e)]; exact ⟨h1, ry⟩
    · rw [if_neg e, if_neg (fun z => e (h1.trans z))]; exact ⟨h1, h2⟩
theorem KV.put {kvs : List (κ × V)} {vs : List (κ × Value)} (r : KV kvs vs) (k : κ) {y : V} {u : Value} (ry : RelV y u) : KV (putK kvs k y) (stored vs k u) := by
  unfold putK stored
  rw [r.any k]
  by_cases e : (vs.any fun kv => decide (kv.1 = k)) = true
  · rw [if_pos e, if_pos e]; exact r.repl k ry
  · rw [if_neg e, if_neg e]; exact Paired.snoc r ⟨rfl, ry⟩
theorem KV.length {kvs : List (κ × V)} {vs : List (κ × Value)} (r : KV kvs vs) : kvs.length = vs.length := Paired.length r
end


theorem kV_is {P : Program} {w : World} {k : Key} {u : Value} (r : RelV (kV k) u) : (mixKind P w).is k u = true := by
  cases k with
  | inl i => obtain ⟨t, e⟩ := (show ∃ t, u = Value.int i t from r); subst e; exact mixKind_int P w i t
  | inr x => obtain ⟨t, e⟩ := (show ∃ t, u = Value.str x t from r); subst e; exact mixKind_str P w x t
theorem items_are {P : Program} {w : World} : ∀ {ks : List Key} {us : List Value}, Vals (ks.map kV) us → ItemsAre (mixKind P w) ks us
  | [], _, r => by rw [List.map_nil] at r; cases r; exact .nil
  | k :: ks, _, r => by
    rw [List.map_cons] at r
    cases r with
    | cons h t => exact .cons (kV_is h) (items_are t)

noncomputable abbrev KT (H : Hp) : List (List Key × V) → List (List Key × Addr × Value) → Prop := Paired fun p q => p.1 = q.1 ∧ H q.2.1 = some (.tup (p.1.map kV)) ∧ RelV p.2 q.2.2
theorem KT.val {H : Hp} {kvs : List (List Key × V)} {xs : List (List Key × Addr × Value)} (r : KT H kvs xs) (k : List Key) : RelO (valV kvs k) ((atKey xs k).map (·.2)) := by
  induction r with
  | nil => exact True.intro
  | @cons p q ps qs h t ih =>
    obtain ⟨h1, _, h2⟩ := h
    by_cases e : p.1 = k
    · have e' : q.1 = k := h1.symm.trans e
      have b : atKey (q :: qs) k = some q.2 := by simp [atKey, List.find?_cons, e']
      rw [valV_pos e, b]; exact h2
    · have e' : ¬ q.1 = k := fun z => e (h1.trans z)
      have b : atKey (q :: qs) k = atKey qs k := by simp [atKey, List.find?_cons, e']
      rw [valV_neg e, b]; exact ih
theorem KT.repl {H : Hp} {kvs : List (List Key × V)} {xs : List (List Key × Addr × Value)} (r : KT H kvs xs) (k : List Key) {y : V} {u : Value} (ry : RelV y u) :
    KT H (kvs.map fun kv => if kv.1 = k then (kv.1, y) else kv) (xs.map (putAt k u)) := by
  induction r with
  | nil => exact .nil
  | @cons p q ps qs h t ih =>
    rw [List.map_cons, List.map_cons]
    refine .cons ?_ ih
    obtain ⟨h1, h2, h3⟩ := h
    unfold putAt
    by_cases e : p.1 = k
    · rw [if_pos e, if_pos (h1.symm.trans e)]; exact ⟨h1, h2, ry⟩
    · rw [if_neg e, if_neg (fun z => e (h1.trans z))]; exact ⟨h1, h2, h3⟩
theorem KT.put {H : Hp} {kvs : List (List Key × V)} {xs : List (List Key × Addr × Value)} (r : KT H kvs xs) (k : List Key) {b : Addr} {y : V} {u : Value} (hb : H b = some (.tup (k.map kV))) (ry : RelV y u) :
    KT H (putK kvs k y) (storedH xs k b u) := by
  have e : (kvs.any fun kv => decide (kv.1 = k)) = (atKey xs k).isSome := by
    rw [valV_any, (r.val k).isSome_eq, Option.isSome_map]
  unfold putK storedH
  rw [e]
  by_cases q : (atKey xs k).isSome = true
  · rw [if_pos q, if_pos q]; exact r.repl k ry
  · rw [if_neg q, if_neg q]; exact Paired.snoc r ⟨rfl, hb, ry⟩
theorem KT.keeps {H H' : Hp} {kvs : List (List Key × V)} {xs : List (List Key × Addr × Value)} (r : KT H kvs xs) (ht : ∀ b ys, H b = some (.tup ys) → H' b = some (.tup ys)) : KT H' kvs xs :=
  Paired.mapP r fun _ _ z => ⟨z.1, ht _ _ z.2.1, z.2.2⟩

section
variable {P : Program} {w : World} {H : Hp} {h : Heap} {a : Addr}
theorem rd_of {u : HO} (ok : HOk P w H h) (e : Rd H a u) : ObjOk P w H h a u := e.ok ok
theorem dk_rd {kvs : List (Key × V)} (ok : HOk P w H h) (e : Rd H a (.dK kvs)) : kvs.length ≤ sizeLine ∧ (a == sysModules) = false ∧ ∃ vs, KV kvs vs ∧ h.DictOf (mixKind P w) a vs :=
  show ObjOk P w H h a (.dK kvs) from rd_of ok e
theorem dk_of {kvs : List (Key × V)} (ok : HOk P w H h) (e : H a = some (.dK kvs)) : kvs.length ≤ sizeLine ∧ (a == sysModules) = false ∧ ∃ vs, KV kvs vs ∧ h.DictOf (mixKind P w) a vs := dk_rd ok (.inl e)
theorem key_of {ks : List Key} (ok : HOk P w H h) (e : H a = some (.tup (ks.map kV))) : (tupleKind (mixKind P w)).is h ks a := by
  obtain ⟨_, its, r, o, h1, h2, n, h3⟩ := (show ObjOk P w H h a (.tup (ks.map kV)) from ok a _ e)
  exact ⟨o, its.toArray, n, h1, h2, h3, by simpa using items_are r⟩
theorem dt_rd {kvs : List (List Key × V)} (ok : HOk P w H h) (e : Rd H a (.dT kvs)) : kvs.length ≤ sizeLine ∧ (a == sysModules) = false ∧
    ∃ xs, KT H kvs xs ∧ h.DictOfH (tupleKind (mixKind P w)) a xs := by
  obtain ⟨z, y, xs, r, o, es, ep, h1, h2, h3, h4, h5⟩ := (show ObjOk P w H h a (.dT kvs) from rd_of ok e)
  refine ⟨z, y, xs, r, o, es, ep, h1, h2, h3, h4, fun x hx => ?_, h5⟩
  have all : ∀ {l : List (List Key × V)} {m : List (List Key × Addr × Value)}, KT H l m → ∀ x ∈ m, (tupleKind (mixKind P w)).is h x.1 x.2.1 := by
    intro l m q
    induction q with
    | nil => intro x hx; exact nomatch hx
    | @cons p q ps qs hq t ih =>
      intro x hx
      rcases List.mem_cons.mp hx with e | hx
      · subst e
        exact key_of ok (by rw [← hq.1]; exact hq.2.1)
      · exact ih x hx
  exact all r x hx
theorem dt_of {kvs : List (List Key × V)} (ok : HOk P w H h) (e : H a = some (.dT kvs)) : kvs.length ≤ sizeLine ∧ (a == sysModules) = false ∧
    ∃ xs, KT H kvs xs ∧ h.DictOfH (tupleKind (mixKind P w)) a xs := dt_rd ok (.inl e)
end

noncomputable def DGet (H : Hp) (a : Addr) (y : V) (r : Option V) : Prop :=
  (∃ kvs k, Rd H a (.dK kvs) ∧ y = kV k ∧ r = valV kvs k) ∨ ∃ kvs k b, Rd H a (.dT kvs) ∧ y = .ref b ∧ H b = some (.tup (k.map kV)) ∧ r = valV kvs k
noncomputable def DPut (H : Hp) (a : Addr) (y v : V) (H' : Hp) : Prop :=
  (∃ kvs k, H a = some (.dK kvs) ∧ y = kV k ∧ kvs.length < sizeLine ∧ H' = upd H a (.dK (putK kvs k v))) ∨
  ∃ kvs k b, H a = some (.dT kvs) ∧ y = .ref b ∧ H b = some (.tup (k.map kV)) ∧ kvs.length < sizeLine ∧ H' = upd H a (.dT (putK kvs k v))
theorem DGet.k {H : Hp} {a : Addr} {kvs : List (Key × V)} {k : Key} (e : H a = some (.dK kvs)) : DGet H a (kV k) (valV kvs k) := .inl ⟨kvs, k, .inl e, rfl, rfl⟩
theorem DPut.k {H : Hp} {a : Addr} {kvs : List (Key × V)} {k : Key} {v : V} (e : H a = some (.dK kvs)) (hl : kvs.length < sizeLine) : DPut H a (kV k) v (upd H a (.dK (putK kvs k v))) := .inl ⟨kvs, k, e, rfl, hl, rfl⟩


section
variable {X : Cx} {pins : List (Addr × Obj)} {σ : St} {H : Hp} {s : Shared} {a : Addr} {y v : V} {u r : Value} {o : Option V} {A : Around} {E : Value → Shared → Prop}

theorem Inv.big (I : Inv X pins σ H s) : sysModules < s.heap.objs.size := by
  have h : mainGlobals < s.heap.objs.size := (I.mod.glob.keeps I.bk).lt
  exact Nat.lt_trans (by decide) h

theorem d_getItem {Q : Value → Shared → Prop} (hu : A.units + 1 < cLine) (I : Inv X pins σ H s) (g : DGet H a y (some v)) (ry : RelV y u) (h : ∀ w' s', Inv X pins σ H s' → RelV v w' → Q w' s') :
    wpAny (model X.prog X.w) A (getItem (.ref a) u) Q E s := by
  rcases g with ⟨kvs, k, e, ey, l⟩ | ⟨kvs, k, b, e, ey, eb, l⟩
  · subst ey
    obtain ⟨z, hd, vs, rel, dd⟩ := dk_rd I.hok e
    obtain ⟨w', hw, rw'⟩ := RelO.some_of (v := v) (o := valueAt vs k) (by rw [l]; exact rel.val k)
    exact wpAny_getItem_of (kV_is ry) dd.mapOf hw (h w' _ (I.tok _) rw')
  · subst ey
    cases (show u = Value.ref b from ry)
    obtain ⟨z, hd, xs, rel, dd⟩ := dt_rd I.hok e
    obtain ⟨w', hw, rw'⟩ := RelO.some_of (v := v) (o := (atKey xs k).map (·.2)) (by rw [l]; exact rel.val k)
    obtain ⟨p, hp, hp2⟩ := Option.map_eq_some_iff.mp hw
    refine wpAny_getItem_heap (tupleKind_room_in1 hu) (key_of I.hok eb) dd hp ?_
    rw [hp2]
    exact h w' _ (I.tok _) rw'
theorem d_in {Q : Value → Shared → Prop} (hu : A.units + 1 < cLine) (I : Inv X pins σ H s) (g : DGet H a y o) (ry : RelV y u) (h : ∀ s', Inv X pins σ H s' → Q (.bool o.isSome) s') :
    wpAny (model X.prog X.w) A (compareOp .In u (.ref a)) Q E s := by
  rcases g with ⟨kvs, k, e, ey, l⟩ | ⟨kvs, k, b, e, ey, eb, l⟩
  · subst ey
    obtain ⟨z, hd, vs, rel, dd⟩ := dk_rd I.hok e
    refine wpAny_in_of (kV_is ry) hd dd.mapOf ?_
    rw [← (rel.val k).isSome_eq, ← l]
    exact h _ (I.tok _)
  · subst ey
    cases (show u = Value.ref b from ry)
    obtain ⟨z, hd, xs, rel, dd⟩ := dt_rd I.hok e
    refine wpAny_in_heap (tupleKind_room_in1 hu) (key_of I.hok eb) hd dd ?_
    have q := (rel.val k).isSome_eq
    rw [Option.isSome_map] at q
    rw [← q, ← l]
    exact h _ (I.tok _)
theorem d_notIn {Q : Value → Shared → Prop} (hu : A.units + 1 < cLine) (I : Inv X pins σ H s) (g : DGet H a y o) (ry : RelV y u) (h : ∀ s', Inv X pins σ H s' → Q (.bool (!o.isSome)) s') :
    wpAny (model X.prog X.w) A (compareOp .NotIn u (.ref a)) Q E s := by
  rcases g with ⟨kvs, k, e, ey, l⟩ | ⟨kvs, k, b, e, ey, eb, l⟩
  · subst ey
    obtain ⟨z, hd, vs, rel, dd⟩ := dk_rd I.hok e
    refine wpAny_notIn_of (kV_is ry) hd dd.mapOf ?_
    rw [← (rel.val k).isSome_eq, ← l]
    exact h _ (I.tok _)
  · subst ey
    cases (show u = Value.ref b from ry)
    obtain ⟨z, hd, xs, rel, dd⟩ := dt_rd I.hok e
    refine wpAny_notIn_heap (tupleKind_room_in1 hu) (key_of I.hok eb) hd dd ?_
    have q := (rel.val k).isSome_eq
    rw [Option.isSome_map] at q
    rw [← q, ← l]
    exact h _ (I.tok _)
theorem d_write {h' : Heap} {t' : Nat} {ob : HO} (I : Inv X pins σ H s) (mu : Mut (H a)) (hs : Heap.SameBut a s.heap h') (he : ∃ q, h'.get? a = some q) (new : ObjOk X.prog X.w (upd H a ob) h' a ob) :
    Inv X pins σ (upd H a ob) { s with heap := h', toks := t' } :=
  I.write (x := a) (e := a) mu (.inl rfl) (fun b q hb z => (hs.2 b hb).trans z) he new
theorem dk_new {P : Program} {w : World} {H' : Hp} {h' : Heap} {kvs : List (Key × V)} {vs : List (Key × Value)} (z : kvs.length ≤ sizeLine) (hd : (a == sysModules) = false) (rel : KV kvs vs) (dd : h'.DictOf (mixKind P w) a vs) :
    ObjOk P w H' h' a (.dK kvs) := ⟨z, hd, vs, rel, dd⟩
theorem d_setItem {H' : Hp} {Q : Unit → Shared → Prop} (hu : A.units + 1 < cLine) (I : Inv X pins σ H s) (g : DPut H a y v H') (ry : RelV y u) (rv : RelV v r) (h : ∀ s', Inv X pins σ H' s' → Q () s') :
    wpAny (model X.prog X.w) A (setItem (.ref a) u r) Q E s := by
  rcases g with ⟨kvs, k, e, ey, l, eH⟩ | ⟨kvs, k, b, e, ey, eb, l, eH⟩
  · subst ey eH
    obtain ⟨z, hd, vs, rel, dd⟩ := dk_of I.hok e
    have hz : vs.length ≤ sizeLine := by rw [← rel.length]; exact z
    have hl : (putK kvs k v).length ≤ sizeLine := by have := length_putK kvs k v; omega
    refine wpAny_setItem_pairs (hsz := hz) (kV_is ry) dd fun h' dd' hs => h _ ?_
    have he : ∃ q, h'.get? a = some q := let ⟨q, _, _, hq, _⟩ := dd'; ⟨q, hq⟩
    exact d_write I (by rw [e]; exact True.intro) hs he (dk_new hl hd (rel.put k rv) dd')
  · subst ey eH
    cases (show u = Value.ref b from ry)
    obtain ⟨z, hd, xs, rel, dd⟩ := dt_of I.hok e
    have hz : xs.length ≤ sizeLine := by rw [← Paired.length rel]; exact z
    have hl : (putK kvs k v).length ≤ sizeLine := by have := length_putK kvs k v; omega
    refine wpAny_setItem_heap (hsz := hz) (tupleKind_room_in1 hu) (key_of I.hok eb) dd fun h' dd' hs => h _ ?_
    obtain ⟨q, es, ep, hq, h2, h3, h4, _, h5⟩ := dd'
    refine d_write I (by rw [e]; exact True.intro) hs ⟨q, hq⟩ ⟨hl, hd, _, (rel.put k eb rv).keeps fun c ys ec => ?_, q, es, ep, hq, h2, h3, h4, h5⟩
    rw [upd_ne (ne_of ec e (fun z => nomatch z))]
    exact ec
end

section
variable {X : Cx} {pins : List (Addr × Obj)} {σ : St} {H : Hp} {s : Shared} {a : Addr} {kvs : List (Key × V)} {k : Key} {u : Value} {A : Around} {E : Value → Shared → Prop}
end


noncomputable def NoSl (i : Expr) : Prop := ∀ ov iv, subscripted i false ov iv = operate [ov, iv] (getItem ov iv)
theorem subD_of {prog : Program} {w : World} {A : Around} {E : Value → Shared → Prop} {s : Shared} {env : Env} {value slice : Expr} {pos : Pos} {T id : String} {Q : Value → Shared → Prop}
    (hl : typeLookup (.type T) "__getitem__" = pure (some (.builtin id))) (hs : NoSl slice)
    (h : wpAny (model prog w) A (eval value env) (fun o s₁ => wpAny (model prog w) A (eval slice env) (fun i s₂ => s₂.TypeIs o T ∧ wpAny (model prog w) A (getItem o i) Q E s₂) E s₁) E s) :
    wpAny (model prog w) A (eval (.Subscript value slice pos) env) Q E s := by
  refine Subscript_ (wpAny_mono h (fun o s₁ h₁ => wpAny_mono h₁ (fun i s₂ h₂ => ?_) fun _ _ x => x) fun _ _ x => x)
  obtain ⟨hT, h₂⟩ := h₂
  unfold subscriptTail
  refine wpAny_bind ?_
  rw [getitemInPython_of_ne hT.not_modules]
  refine wpAny_bind (wpAny_specialOf hT hl ?_)
  have fin : wpAny (model prog w) A (subscripted slice false o i) (fun r s₃ => wpAny (model prog w) A (letTemporaryGo value o r >>= fun _ => pure r) Q E s₃) E s₂ := by
    rw [hs o i]
    exact wpAny_operating (wpAny_mono h₂ (fun r s₃ h₃ => wpAny_bind (wpAny_letTemporaryGo (wpAny_pure h₃))) fun _ _ x => x)
  first
    | exact wpAny_pure (wpAny_bind fin)
    | exact wpAny_bind (wpAny_pure (wpAny_bind fin))
    | exact wpAny_bind fin

theorem dict_typeIs {X : Cx} {pins : List (Addr × Obj)} {σ : St} {H : Hp} {s : Shared} {a : Addr} {y : V} {o : Option V} (I : Inv X pins σ H s) (g : DGet H a y o) : s.TypeIs (.ref a) "dict" := by
  rcases g with ⟨kvs, k, e, _, _⟩ | ⟨kvs, k, b, e, _, _, _⟩
  · obtain ⟨_, _, vs, _, dd⟩ := dk_rd I.hok e
    exact dd.typeIs
  · obtain ⟨_, _, xs, _, dd⟩ := dt_rd I.hok e
    exact dd.typeIs

noncomputable def tDGet (td ty : TE) : TE := fun σ H Q => td σ H fun x H1 => ty σ H1 fun y H2 => ∃ a v, x = .ref a ∧ DGet H2 a y (some v) ∧ Q v H2
noncomputable def tDIn (ty td : TE) : TE := fun σ H Q => ty σ H fun y H1 => td σ H1 fun x H2 => ∃ a o, x = .ref a ∧ DGet H2 a y o ∧ Q (.bl o.isSome) H2
noncomputable def tDNotIn (ty td : TE) : TE := fun σ H Q => ty σ H fun y H1 => td σ H1 fun x H2 => ∃ a o, x = .ref a ∧ DGet H2 a y o ∧ Q (.bl (!o.isSome)) H2
noncomputable def sDPut (td ty tv : TE) : TS := fun D σ H => tv σ H fun v H1 => td σ H1 fun x H2 => ty σ H2 fun y H3 => ∃ a H4, x = .ref a ∧ DPut H3 a y v H4 ∧ D.nx σ H4

section
variable {X : Cx} {o i e value : Expr} {pos pos' tpos : Pos} {td ty tv : TE}
theorem pe_dget (hu : X.A.units + 1 < cLine) (ho : PE X o td) (hi : PE X i ty) (hs : NoSl i) : PE X (.Subscript o i pos) (tDGet td ty) := by
  intro pins s σ H Q I h
  refine subD_of PySem.F.slot_dict_getitem.lookup hs (thn (ho pins s σ H _ I h) fun u s1 ⟨x, H1, I1, rx, q1⟩ => thn (hi pins s1 σ H1 _ I1 q1) fun iv s2 zz => ?_)
  obtain ⟨y, H2, I2, ry, a, v, ex, g, q2⟩ := zz
  subst ex
  obtain rfl : u = Value.ref a := rx
  exact ⟨dict_typeIs I2 g, d_getItem hu I2 g ry fun w' s3 I3 rw' => ⟨v, H2, I3, rw', q2⟩⟩
theorem pc_din (hu : X.A.units + 1 < cLine) (hi : PE X i ty) (ho : PE X o td) : PC X .In i o (tDIn ty td) := by
  intro pins s σ H Q I h
  refine thn (hi pins s σ H _ I h) fun iv s1 ⟨y, H1, I1, ry, q1⟩ => thn (ho pins s1 σ H1 _ I1 q1) fun u s2 zz => ?_
  obtain ⟨x, H2, I2, rx, a, ov, ex, g, q2⟩ := zz
  subst ex
  obtain rfl : u = Value.ref a := rx
  exact d_in hu I2 g ry fun s3 I3 => ⟨.bl ov.isSome, H2, I3, rfl, q2⟩
theorem pc_dnotin (hu : X.A.units + 1 < cLine) (hi : PE X i ty) (ho : PE X o td) : PC X .NotIn i o (tDNotIn ty td) := by
  intro pins s σ H Q I h
  refine thn (hi pins s σ H _ I h) fun iv s1 ⟨y, H1, I1, ry, q1⟩ => thn (ho pins s1 σ H1 _ I1 q1) fun u s2 zz => ?_
  obtain ⟨x, H2, I2, rx, a, ov, ex, g, q2⟩ := zz
  subst ex
  obtain rfl : u = Value.ref a := rx
  exact d_notIn hu I2 g ry fun s3 I3 => ⟨.bl (!ov.isSome), H2, I3, rfl, q2⟩
theorem ps_dput (hu : X.A.units + 1 < cLine) (ho : PE X o td) (hi : PE X i ty) (hv : PE X value tv) (hs : swapsWith value (some (.Subscript o i pos')) pos.line X.env = pure false) :
    PS X (.Assign [.Subscript o i pos'] value pos) (sDPut td ty tv) := by
  intro pins s σ H D I h
  refine wpAny_Assign_Subscript (thn (hv pins s σ H _ I h) fun r s1 ⟨v, H1, I1, rv, q1⟩ => thn (ho pins s1 σ H1 _ I1 q1) fun u s2 ⟨x, H2, I2, rx, q2⟩ => thn (hi pins s2 σ H2 _ I2 q2) fun iv s3 ⟨y, H3, I3, ry, a, H4, ex, g, q3⟩ => ?_) hs
  subst ex
  obtain rfl : u = Value.ref a := rx
  exact d_setItem hu I3 g ry rv fun s4 I4 => ⟨σ, H4, I4, q3⟩
end


theorem dk_empty {P : Program} {w : World} {H : Hp} (h : Heap) (hb : sysModules < h.objs.size) : ObjOk P w H (h.push { cls := .type "dict", data := .dict #[] }) h.objs.size (.dK []) :=
  ⟨Nat.zero_le _, beq_eq_false_iff_ne.mpr (Ne.symm (Nat.ne_of_lt hb)), [], .nil, Heap.DictOf.new h⟩
noncomputable def tDNewK : TE := fun _ H Q => ∀ p, H p = none → Q (.ref p) (upd H p (.dK []))
section
variable {X : Cx} {pos : Pos}
theorem pe_dnewK : PE X (.Dict [] [] pos) tDNewK := fun pins s σ H Q I h =>
  wpAny_Dict_empty ⟨.ref s.heap.objs.size, _, I.laid (a := s.heap.objs.size) (o := .dK []) (t' := s.toks) (fun _ _ q => Heap.get?_push_of_some _ q) (Nat.le_refl _) (dk_empty s.heap I.big), rfl, h _ (I.hok.fresh (Nat.le_refl _))⟩
end

noncomputable def tPairs : List (TE × TE) → St → Hp → (List (V × V) → Hp → Prop) → Prop
  | [], _, H, Q => Q [] H
  | (tk, tv) :: r, σ, H, Q => tk σ H fun x H1 => tv σ H1 fun y H2 => tPairs r σ H2 fun ps H3 => Q ((x, y) :: ps) H3
noncomputable abbrev VV : List (V × V) → List (Value × Value) → Prop := Paired fun p q => RelV p.1 q.1 ∧ RelV p.2 q.2
noncomputable def PPs (X : Cx) (pos : Pos) (keys : List (Option Expr)) (values : List Expr) (trs : List (TE × TE)) : Prop :=
  ∀ (pins : List (Addr × Obj)) (s : Shared) (σ : St) (H : Hp) (Q : List (V × V) → Hp → Prop), Inv X pins σ H s → tPairs trs σ H Q →
    wpAny (model X.prog X.w) X.A (evalPairs (pairTrees keys values X.env pos)) (fun vs s' => ∃ ps H', Inv X pins σ H' s' ∧ VV ps vs ∧ Q ps H') X.xe s
theorem pps_nil {X : Cx} {pos : Pos} : PPs X pos [] [] [] := fun pins s σ H Q I h => pairTrees_nil_walk ⟨[], H, I, .nil, h⟩
theorem pps_cons {X : Cx} {pos : Pos} {k v : Expr} {ks : List (Option Expr)} {vs : List Expr} {tk tv : TE} {trs : List (TE × TE)} (hk : PE X k tk) (hv : PE X v tv) (hr : PPs X pos ks vs trs) :
    PPs X pos (some k :: ks) (v :: vs) ((tk, tv) :: trs) := fun pins s σ H Q I h =>
  pairTrees_cons_walk (thn (hk pins s σ H _ I h) fun u s1 ⟨x, H1, I1, rx, q1⟩ => thn (hv pins s1 σ H1 _ I1 q1) fun w2 s2 ⟨y, H2, I2, ry, q2⟩ =>
    thn (hr pins s2 σ H2 _ I2 q2) fun ws s3 ⟨ps, H3, I3, rel, q3⟩ => ⟨(x, y) :: ps, H3, I3, .cons ⟨rx, ry⟩ rel, q3⟩)

noncomputable def mergeK (kvs more : List (Key × V)) : List (Key × V) := more.foldl (fun acc kv => putK acc kv.1 kv.2) kvs
theorem KV.merge : ∀ {more : List (Key × V)} {rs : List (Key × Value)} {kvs : List (Key × V)} {vs : List (Key × Value)}, KV more rs → KV kvs vs → KV (mergeK kvs more) (merged vs rs) := by
  intro more rs kvs vs r
  unfold KV at r
  induction r generalizing kvs vs with
  | nil => intro q; exact q
  | @cons p q ps qs h t ih =>
    intro r0
    have e : KV (putK kvs p.1 p.2) (stored vs q.1 q.2) := by
      have := r0.put p.1 h.2
      rw [← h.1]; exact this
    exact ih e
theorem length_mergeK : ∀ (more kvs : List (Key × V)), (mergeK kvs more).length ≤ kvs.length + more.length
  | [], kvs => by show kvs.length ≤ kvs.length + 0; omega
  | p :: r, kvs => by
    have h1 := length_mergeK r (putK kvs p.1 p.2)
    have h2 := length_putK kvs p.1 p.2
    show (mergeK (putK kvs p.1 p.2) r).length ≤ _
    rw [List.length_cons]; omega
theorem carries_of {P : Program} {w : World} : ∀ {kvs : List (Key × V)} {ws : List (Value × Value)}, VV (kvs.map fun kv => (kV kv.1, kv.2)) ws → ∃ rs, Carries (mixKind P w) ws rs ∧ KV kvs rs
  | [], _, r => by rw [List.map_nil] at r; cases r; exact ⟨[], True.intro, .nil⟩
  | p :: kvs, _, r => by
    rw [List.map_cons] at r
    cases r with
    | @cons a b as bs h t =>
      obtain ⟨rs, c, q⟩ := carries_of (P := P) (w := w) t
      obtain ⟨b1, b2⟩ := b
      exact ⟨(p.1, b2) :: rs, ⟨kV_is h.1, rfl, c⟩, .cons ⟨rfl, h.2⟩ q⟩
noncomputable def tDisp (trs : List (TE × TE)) : TE := fun σ H Q => ∀ p, H p = none → tPairs trs σ (upd H p (.dK [])) fun ps H2 => H2 p = some (.dK []) ∧ ∃ kvs : List (Key × V), ps = kvs.map (fun kv => (kV kv.1, kv.2)) ∧ kvs.length ≤ 15 ∧ Q (.ref p) (upd H2 p (.dK (mergeK [] kvs)))
theorem pe_disp {X : Cx} {pos : Pos} {keys : List (Option Expr)} {values : List Expr} {trs : List (TE × TE)} (h : PPs X pos keys values trs) (hall : keys.all (·.isSome) = true) (hl : keys.length = values.length) (h0 : keys ≠ [])
    (h15 : keys.length ≤ 15) : PE X (.Dict keys values pos) (tDisp trs) := by
  intro pins s σ H Q I q
  have hn := I.hok.fresh (Nat.le_refl s.heap.objs.size)
  have I1 := I.laid (a := s.heap.objs.size) (o := .dK []) (h' := s.heap.push { cls := .type "dict", data := .dict #[] }) (t' := s.toks) (fun _ _ q => Heap.get?_push_of_some _ q) (Nat.le_refl _) (dk_empty s.heap I.big)
  refine wpAny_Dict_walk (knd := mixKind X.prog X.w) hall hl h0 h15 (thn (h pins _ σ _ _ I1 (q _ hn)) fun ws s2 zz => ?_)
  obtain ⟨ps, H2, I2, rel, e, kvs, ep, lk, q2⟩ := zz
  subst ep
  obtain ⟨rs, c, rk⟩ := carries_of (P := X.prog) (w := X.w) rel
  obtain ⟨z, hd, vs0, r0, dd⟩ := dk_of I2.hok e
  cases r0
  refine ⟨rs, c, dd, fun h' dd' hs => ⟨.ref s.heap.objs.size, _, ?_, rfl, q2⟩⟩
  have hz : (mergeK [] kvs).length ≤ sizeLine := by
    have h1 := length_mergeK kvs []
    rw [List.length_nil] at h1
    rw [sizeLine_eq]; omega
  have he : ∃ q, h'.get? s.heap.objs.size = some q := let ⟨q, _, _, hq, _⟩ := dd'; ⟨q, hq⟩
  exact d_write I2 (by rw [e]; exact True.intro) hs he (dk_new hz hd (rk.merge .nil) dd')




section
variable {X : Cx} {pins : List (Addr × Obj)} {σ : St} {H : Hp} {s : Shared} {a : Addr} {y d : V} {u r : Value} {o : Option V} {A : Around} {E : Value → Shared → Prop}
end

section
variable {X : Cx} {o e f : Expr} {apos cpos : Pos} {td ty tx : TE}
end

section
variable {X : Cx} {pins : List (Addr × Obj)} {σ : St} {H : Hp} {s : Shared} {a : Addr} {kvs : List (Key × V)} {A : Around} {E : Value → Shared → Prop}
end


section
variable {X : Cx} {pins : List (Addr × Obj)} {σ : St} {H : Hp} {s : Shared} {a : Addr} {y : V} {u : Value} {A : Around} {E : Value → Shared → Prop}
end
end L2

namespace Att
open PySem PySem.W PySem.Calls PyProof.Rows

theorem ints_of_wellAll {P : Params} {h : Heap} : ∀ (ns : List Int) (vs : List Value), WellAll P h vs (ns.map WData.int) → IntsAre vs ns := by
  intro ns
  induction ns with
  | nil =>
    intro vs w
    rw [List.map_nil] at w
    cases w
    exact .nil
  | cons n ns ih =>
    intro vs w
    rw [List.map_cons] at w
    cases w with
    | cons a b =>
      cases a
      exact .cons _ _ (ih _ b)

theorem script_of {l : OpenLaw} {n : Nat} (hn : l.most = some n) {P : Params} {h : Heap} {args : List WData} {vals : List Value}
    (hpre : l.row.toRowW.claim.pre args = true) (hwl : WellAll P h vals args) :
    ∃ a vs ns, vals = [Value.ref a] ∧ args = [WData.list (ns.map WData.int)] ∧ h.get? a = some { cls := .type "list", data := .seq vs.toArray } ∧ IntsAre vs ns ∧ ns.length ≤ n := by
  have hsh : WShape.hasAll [] args [.list .int] = true := (pre_splitW hpre).1
  have hc : l.pre.holds [] { args := args } = true := (pre_splitW hpre).2
  obtain ⟨d, r, rfl, h1, h2⟩ := hasAllW_cons hsh
  obtain rfl := hasAllW_nil h2
  obtain ⟨xs, rfl, h3⟩ := hasW_list h1
  obtain ⟨ns, rfl⟩ := items_int h3
  have hlen : ns.length ≤ n := by
    unfold OpenLaw.pre at hc
    have h4 : (WTm.not (.lt (.lit (.int (n : Int))) (.len (.arg 0)))).holds [] { args := [.list (ns.map .int)] } = true := by
      have h4 := (holds_andW hc).1
      rw [hn] at h4
      exact h4
    have h5 := condW_of h4 (w_not (w_lt w_lit (w_len_list (w_arg rfl))))
    rw [List.length_map] at h5
    refine Nat.le_of_not_lt fun q => ?_
    have q' : (n : Int) < ((ns.length : Nat) : Int) := by omega
    first
      | (rw [decide_eq_true q'] at h5; exact absurd h5 (by decide))
      | (simp at h5; omega)
  cases hwl with
  | cons w1 w2 =>
    cases w2
    cases w1 with
    | list ho hall => exact ⟨_, _, ns, rfl, rfl, ho, ints_of_wellAll ns _ hall, hlen⟩

theorem post_true (l : OpenLaw) (args : List WData) : l.row.toRowW.claim.post args (.bool true) args = true :=
  postW_of (r := l.row.toRowW) (X := (true == true))
    (show WShape.has [] (.bool true) .bool = true by first | rfl | decide | simp [WShape.has, WShape.arms, WShape.armsAll])
    (show (WTm.eq .res (.lit (.bool true))).value [] { args := args, res := some (.bool true), after := args } = some (.bool (true == true)) from w_eq_bool (w_res rfl) w_lit) rfl


theorem attach_call {l : OpenLaw} {n : Nat} {q : Program} {loose : List Str} {XP : (Str → Option Value) → Heap → Prop} {YP : World → Heap → Prop} {d : DefRec}
    (hn : l.most = some n) (hdf : d.params.defaults = [])
    (call : ∀ (w : World) (s₀ s₁ : Shared) (mg mb : Str → Option Value) (fa : Addr) (o : Obj) (pm cd doc : Value) (a : Addr) (vs : List Value) (ns : List Int),
      Ground q loose [] XP w s₀ mg mb s₁.heap → YP w s₁.heap →
      s₁.heap.get? fa = some o → o.data = .func (docDef d.name d.params d.body d.scope pm cd doc) → s₁.heap.CodeRec cd d.name → mg d.name = some (.ref fa) →
      s₁.heap.get? a = some { cls := .type "list", data := .seq vs.toArray } → IntsAre vs ns → ns.length ≤ n → s₁.gens = #[] →
      codeAny (model l.prog w) callerA (.call (.ref fa) ⟨[.ref a], []⟩) (fun r s' => r = .ok (.ret (.bool true)) ∧ OldK s₁.heap s'.heap ∧ s'.os = s₁.os ∧ AllBare s'.gens) s₁) :
    WalkO q loose XP YP l.row.toRowW d [] (fun f vs => PySem.call f vs) := by
  intro w s₀ s₁ mg mb G Y fa o pm cd doc dV kV ho hd hcd hD hmg hg args vals as hpre hlay hrd hwl hlo
  obtain rfl : dV = .none := Dflts.none hD hdf
  obtain rfl : kV = .none := Dflts.noKw hD
  obtain ⟨a, vs, ns, rfl, rfl, hobj, hints, hlen⟩ := script_of hn hpre hwl
  refine enter_call (codeAny_mono (call w s₀ s₁ mg mb fa o pm cd doc a vs ns G Y ho (fd_plain hd) hcd hmg hobj hints hlen hg) fun r s' hq => ?_)
  obtain ⟨rfl, h2, h3, h4⟩ := hq
  exact ⟨.inl ⟨.bool true, .bool true, [], rfl, fun _ => rfl, .bool true, post_true l _, fun _ => ⟨List.Pairwise.nil, fun _ hm => (nomatch hm)⟩⟩, h2, h3, h4⟩


section
variable {prog : Program} {w : World} {A : Around} {E : Value → Shared → Prop} {s : Shared} {K : Frag}






end
end Att

namespace L2
open PySem PySem.Spec PyProof.Rows

theorem vals_ints : ∀ {vs : List Value} {ns : List Int}, IntsAre vs ns → Vals (ns.map V.int) vs
  | _, _, .nil => .nil
  | _, _, .cons n t h => .cons ⟨t, rfl⟩ (vals_ints h)

noncomputable def Only (H : Hp) : Prop := ∀ b, H b = none ∨ ∃ o xs, H b = some (.frz o (.lst xs))

theorem law_call {P : Program} {w : World} {K : PySem.W.Frag} {mg mb : Str → Option Value} {CX : CXT} {k : Nat} {fa a : Addr} {fd : FuncData} {x : Str} {sp : Sp} {s₁ : Shared} {vs : List Value} {ns : List Int}
    (KX : K.In s₁.heap) (hns : s₁.heap.Ns mainGlobals mg) (hb : s₁.heap.Ns builtinsNs mb) (hbb : ∀ x : Str, x ≠ "__name__" → mb x = bootBuiltins x) (hlim : s₁.heap.NoLimit) (hg : s₁.gens = #[])
    (ha : s₁.heap.get? a = some { cls := .type "list", data := .seq vs.toArray }) (hi : IntsAre vs ns) (hl : ns.length ≤ sizeLine) (hr : Room k callerA)
    (F : ∀ base : Heap, K.In base → base.Ns mainGlobals mg → FnOk P w K mg base CX k fa fd [x] sp) (hbind : ∀ (s : Shared) (u : Value), BindsTo s fd ⟨[u], []⟩ [(x, u)])
    (hsp : ∀ H : Hp, Only H → SqL K H a (ns.map V.int) → sp [.ref a] H (fun v _ => v = .bl true) fun _ _ _ => False)
    (hCX : ∀ H e s', CX [] H s₁ (fun _ _ _ => False) e s' → False) :
    codeAny (model P w) callerA (.call (.ref fa) ⟨[.ref a], []⟩) (fun r s' => r = .ok (.ret (.bool true)) ∧ OldK s₁.heap s'.heap ∧ s'.os = s₁.os ∧ AllBare s'.gens) s₁ := by
  have rv := vals_ints hi
  have lenV := hi.length
  -- from an abstract heap in which nothing but the script may be tracked
  have core : ∀ H : Hp, Only H → SqL K H a (ns.map V.int) → HOk P w H s₁.heap → (∀ b, H b ≠ none → b = a) → (H a ≠ none → K.lookup a = none) →
      codeAny (model P w) callerA (.call (.ref fa) ⟨[.ref a], []⟩) (fun r s' => r = .ok (.ret (.bool true)) ∧ OldK s₁.heap s'.heap ∧ s'.os = s₁.os ∧ AllBare s'.gens) s₁ := by
    intro H hO hS hok hA hK
    have base_of : ∀ {b : Addr} {o : Obj}, s₁.heap.get? b = some o → H b = none → (hidT s₁.heap H).get? b = some o := fun e n => hidT_get e n
    have noA : ∀ {b : Addr} {o : Obj} {es : Array DictEntry} {ep : Nat}, s₁.heap.get? b = some o → o.data = .dict es ep → H b = none := fun {b o es ep} e d => by
      cases q : H b with
      | none => rfl
      | some u =>
        have e' : b = a := hA b (by rw [q]; simp)
        subst e'
        rw [ha] at e; cases e
        have d' : Data.seq vs.toArray _ = Data.dict es ep := d
        cases d'
    have nsK : ∀ {b : Addr} {m : Str → Option Value}, s₁.heap.Ns b m → (hidT s₁.heap H).Ns b m := fun {b m} ⟨o, es, ep, e, d, r⟩ => ⟨o, es, ep, base_of e (noA e d), d, r⟩
    have hKb : K.In (hidT s₁.heap H) := fun b o e => base_of (KX b o e) (by
      cases q : H b with
      | none => rfl
      | some u =>
        have e' : b = a := hA b (by rw [q]; simp)
        subst e'
        rw [hK (by rw [q]; simp)] at e; cases e)
    have hM : Mod K mg (hidT s₁.heap H) := ⟨hKb, nsK hns, ⟨mb, nsK hb, hbb⟩, let ⟨mc, h1, h2⟩ := hlim; ⟨mc, nsK h1, h2⟩⟩
    have e0 : Env0 P w K mg (hidT s₁.heap H) callerA [] s₁ H := ⟨rfl, hM, fun b o e => of_hidT e, Nat.le_of_eq (hidT_size _ _), trivial, fun b hb => absurd (show b ∈ ([] : List Addr) from hb) (by simp), hok, .of_eq hg⟩
    refine codeAny_mono ((F _ hKb (nsK hns)).run callerA [] s₁ H ⟨[.ref a], []⟩ [.ref a] [.ref a] _ _ hr e0 (hbind s₁ (.ref a)) (.cons rfl .nil) (hsp H hO hS)) fun r s' h => ?_
    cases r with
    | error e => exact (hCX H e s' h).elim
    | ok fl =>
      cases fl with
      | next => exact False.elim h
      | brk => exact False.elim h
      | cont => exact False.elim h
      | ret u =>
        obtain ⟨v, H', os, bare, un, hok', r', q⟩ := h
        have q' : v = .bl true := q
        subst q'
        obtain rfl : u = Value.bool true := r'
        refine ⟨rfl, OldK.of_keep fun b o e => ?_, os, bare⟩
        cases q : H b with
        | none => exact un.keep b o e q (by intro z; exact absurd (show b ∈ ([] : List Addr) from z) (by simp)) (by simp)
        | some u =>
          rcases hO b with z | ⟨ob, xs, z⟩
          · rw [q] at z; cases z
          · have z2 := un.frzs b ob _ z
            obtain ⟨e1, _⟩ := hok b _ z
            obtain ⟨e2, _⟩ := hok' b _ z2
            rw [e] at e1; cases e1
            exact e2
  cases hk : K.lookup a with
  | some o =>
    -- the script is one of the module's own objects
    have e := KX a o hk
    rw [ha] at e
    cases e
    refine core (fun _ => none) (fun _ => .inl rfl) (.inr ⟨_, vs.toArray, _, hk, rfl, rfl, rfl, by rw [List.size_toArray, lenV]; exact hl, by simpa using rv⟩) (fun b u z => by have z' : (none : Option HO) = some u := z; cases z') (fun b z => absurd rfl z) fun z => absurd rfl z
  | none =>
    refine core (fun b => if b = a then some (.frz { cls := .type "list", data := .seq vs.toArray } (.lst (ns.map V.int))) else none) (fun b => ?_) (.inl (.inr ⟨{ cls := .type "list", data := .seq vs.toArray }, if_pos rfl⟩)) (fun b u z => ?_) (fun b z => ?_) fun _ => hk
    · by_cases hb : b = a
      · exact .inr ⟨_, _, if_pos hb⟩
      · exact .inl (if_neg hb)
    · by_cases hb : b = a
      · have z' := (if_pos hb).symm.trans z
        cases z'
        subst hb
        exact ⟨ha, by rw [List.length_map]; exact hl, vs, _, rv, ha⟩
      · have z' := (if_neg hb).symm.trans z
        cases z'
    · by_cases hb : b = a
      · exact hb
      · exact absurd (if_neg hb) z
end L2

namespace L2
open PySem PySem.Spec PyProof.Rows


theorem walk_of {l : PySem.W.OpenLaw} {n k : Nat} {q : Program} {loose : List Str} {XP : (Str → Option Value) → Heap → Prop} {YP : World → Heap → Prop} {d : DefRec} {K : Params → PySem.W.Frag} {CX : World → CXT} {sp : World → Sp} {x : Str}
    (hn : l.most = some n) (hn2 : n ≤ sizeLine) (hdf : d.params.defaults = []) (hr : Room k callerA)
    (hY : ∀ (w : World) (h : Heap), YP w h → (K w.params).In h)
    (F : ∀ (w : World) (mg : Str → Option Value) (fa : Addr) (h : Heap), (K w.params).In h → h.Ns mainGlobals mg → mg d.name = some (.ref fa) →
      ∃ fd : FuncData, (∀ (s : Shared) (u : Value), BindsTo s fd ⟨[u], []⟩ [(x, u)]) ∧
        ∀ base : Heap, (K w.params).In base → base.Ns mainGlobals mg → FnOk l.prog w (K w.params) mg base (CX w) k fa fd [x] (sp w))
    (hsp : ∀ (w : World) (H : Hp) (a : Addr) (ns : List Int), ns.length ≤ n → Only H → SqL (K w.params) H a (ns.map V.int) → sp w [.ref a] H (fun v _ => v = .bl true) fun _ _ _ => False)
    (hCX : ∀ (w : World) (H : Hp) (s : Shared) (e : Value) (s' : Shared), CX w [] H s (fun _ _ _ => False) e s' → False) :
    PySem.W.WalkO q loose XP YP l.row.toRowW d [] (fun f vs => PySem.call f vs) := by
  refine Att.attach_call hn hdf fun w s₀ s₁ mg mb fa o pm cd doc a vs ns G Y ho hd hcd hmg hobj hints hlen hg => ?_
  have KX := hY w _ Y
  obtain ⟨fd, hb, hF⟩ := F w mg fa _ KX G.T.g hmg
  exact law_call KX G.T.g G.T.b G.T.builtins G.T.nolimit hg hobj hints (Nat.le_trans hlen hn2) hr hF hb (fun H hO hS => hsp w H a ns hlen hO hS) fun H e s' => hCX w H s₁ e s'
end L2

/- THE LAST THEOREM (shape; LID, My.* are yours):
   My.Adr: a structure of the addresses that your layer names (classes, functions); My.Txt K t: a structure (Prop) of the equations over K;
   My.txt_mk : {K} {implicit addresses ..} (e1 : nsIn K mainGlobals "law" = some (some (.ref f))) (e2 : K.lookup f = some ⟨oc, od, .func (fnOf "law" "law" params body scope dV kV doc pm an cdv ct), sl⟩) (e3 : codeIn K cdv "law" = true) .. : ∃ t, My.Txt K t

set_option maxRecDepth 100000 in
set_option maxHeartbeats 0 in
theorem PySem.Challenge.cw_LID_holds : PySem.Challenge.rw_LID.Holds := by
  w_on; o_law; k_head; (case hw => w_witness2)
  k_fill
  refine L2.walk_of (l := PySem.Challenge.rw_LID) (n := 63) (k := 40) (x := "script") (CX := fun w => ..) (sp := fun _ => My.sp_law) rfl (by decide) rfl ⟨rfl, by decide, by decide⟩ (fun w h Y => PySem.W.kIn_of Y) ?F ?S ?C
  case F =>
    intro w mg fa h KX G hmg
    have T : ∃ t, My.Txt (L2.KOf KX) t := by
      dsimp only [L2.KOf]                          -- K must stand as «<heap const> w.params» for k_is
      refine' My.txt_mk ?e1 ?e2 ?e3 ..
      (case e1 => PySem.W.k_is)                    -- in the order: a name -> its address -> its object -> its parts
      (case e2 => PySem.W.k_is)
      ..
    obtain ⟨t, T⟩ := T
    have e0 := hmg.symm.trans (PySem.W.mg_of KX G T.law)
    cases e0                                       -- fa is the law's own address
    exact ⟨_, fun s u => .of_eq rfl, fun base kb nb => My.law_fn T kb nb⟩     -- if «.of_eq rfl» comes too early: refine' ⟨_, ?b, fun base kb nb => My.law_fn T kb nb⟩; exact fun s u => .of_eq rfl
  case S => exact fun w H a ns hl hO hS => ..
  case C => exact ..
(the tactic k_is has no namespace: write k_is) -/

namespace L2
open PySem PySem.Spec PyProof.Rows

noncomputable def defArgs (s : Stmt) : Arguments := match s with
  | .FunctionDef _ a _ _ _ _ _ _ _ _ => a
  | _ => { posonlyargs := [], args := [], vararg := none, kwonlyargs := [], kw_defaults := [], kwarg := none, defaults := [] }
noncomputable def defBody (s : Stmt) : List Stmt := match s with
  | .FunctionDef _ _ b _ _ _ _ _ _ _ => b
  | _ => []
noncomputable def defScope (s : Stmt) : Scope := match s with
  | .FunctionDef _ _ _ _ _ _ sc _ _ _ => sc
  | _ => { kind := .function, names := [], isGenerator := false, isCoroutine := false }

noncomputable abbrev CX0 : CXT := fun _ _ _ _ _ _ => False
noncomputable abbrev E0 : XK := fun _ _ _ => False
theorem pass0 {X : Cx} : Passes CX0 X E0 := fun _ _ _ _ _ _ _ h => h.elim

structure Fun (K : PySem.W.Frag) (x qual : Str) (st : Stmt) (f : Addr) (fd : FuncData) : Prop where
  ex : ∃ (oc : Value) (od : Option Addr) (kV doc pm : Value) (an : Option Addr) (cdv ct : Value) (osl : Array (Option Value)),
    fd = PySem.W.fnOf x qual (defArgs st) (defBody st) (defScope st) .none kV doc pm an cdv ct ∧ K.lookup f = some ⟨oc, od, .func fd, osl⟩ ∧ PySem.W.codeIn K cdv qual = true
  kp : PySem.W.keepIn K (.ref f) = true
section
variable {P : Program} {w : World} {K : PySem.W.Frag} {mg : Str → Option Value} {base : Heap}
theorem Fun.ok {x qual : Str} {st : Stmt} {f : Addr} {fd : FuncData} {N ps : List Str} {k : Nat} {sp : Sp} (F : Fun K x qual st f fd) (S : FnScope N ps (defScope st)) (len : ∀ vs H Q E, sp vs H Q E → vs.length = ps.length)
    (hbody : ∀ (cdv : Value) (A : Around) (outer : List Env) (s : Shared) (H : Hp) (vs : List V) (Q : VK) (E : XK), Room k (A.deeper (envOfC qual (defScope st) s.heap.objs.size f cdv)) → sp vs H Q E →
      ∃ t, PSs (cxOf CX0 P w K mg base N qual (defScope st) f cdv A outer s H E).nox (defBody st) t ∧ t { nx := fun _ H' => Q .non H', rt := Q } (start N vs) H) : FnOk P w K mg base CX0 (k + 1) f fd ps sp := by
  obtain ⟨oc, od, kV, doc, pm, an, cdv, ct, osl, rfl, lk, hcd⟩ := F.ex
  refine fn_of lk hcd S len fun A outer s H vs Q E hr hsp => ?_
  obtain ⟨t, h, q⟩ := hbody cdv A outer s H vs Q E hr hsp
  exact ⟨t, h.nox, q⟩
theorem Fun.binds {x qual : Str} {st : Stmt} {f : Addr} {fd : FuncData} {ps : List Str} (F : Fun K x qual st f fd)
    (h : ∀ (kV doc pm : Value) (an : Option Addr) (cdv ct : Value) (us : List Value), us.length = ps.length → bindArgs (PySem.W.fnOf x qual (defArgs st) (defBody st) (defScope st) .none kV doc pm an cdv ct) ⟨us, []⟩ = pure (ps.zip us)) : Binds K fd ps [] := by
  obtain ⟨oc, od, kV, doc, pm, an, cdv, ct, osl, rfl, lk, hcd⟩ := F.ex
  exact .all (h kV doc pm an cdv ct)
theorem fun_mk {x qual : Str} {st : Stmt} {f : Addr} {oc : Value} {od an : Option Addr} {osl : Array (Option Value)} {kV doc pm cdv ct : Value} (l : K.lookup f = some ⟨oc, od, .func (PySem.W.fnOf x qual (defArgs st) (defBody st) (defScope st) .none kV doc pm an cdv ct), osl⟩)
    (c : PySem.W.codeIn K cdv qual = true) (k : PySem.W.keepIn K (.ref f) = true) : Fun K x qual st f (PySem.W.fnOf x qual (defArgs st) (defBody st) (defScope st) .none kV doc pm an cdv ct) := ⟨⟨oc, od, kV, doc, pm, an, cdv, ct, osl, rfl, l, c⟩, k⟩
end
theorem hu_of {A : Around} {k : Nat} (hr : Room k A) : A.units + 1 < cLine := Nat.lt_of_le_of_lt (Nat.add_le_add_left (by decide : 1 ≤ 64) _) hr.units

section
variable {X : Cx}
end

theorem iteF {A B : Prop} (h : B) : if false = true then A else B := by
  rw [if_neg Bool.false_ne_true]
  exact h
theorem iteT {A B : Prop} (h : A) : if true = true then A else B := by
  rw [if_pos rfl]
  exact h
theorem ite2 {c A B : Prop} [Decidable c] (h1 : c → A) (h2 : ¬ c → B) : if c then A else B := by
  by_cases h : c
  · rw [if_pos h]
    exact h1 h
  · rw [if_neg h]
    exact h2 h
theorem iteNS {c A B : Prop} [Decidable c] (hc : c) (h : B) : if (!decide c) = true then A else B := by
  rw [decide_eq_true hc]
  exact iteF h

noncomputable def Same (H H' : Hp) : Prop := ∀ b o, H b = some o → H' b = some o
theorem Same.refl (H : Hp) : Same H H := fun _ _ h => h
theorem Same.trans {H H1 H2 : Hp} (a : Same H H1) (b : Same H1 H2) : Same H H2 := fun c o h => b c o (a c o h)
theorem Same.free {H H' : Hp} (e : Same H H') {l : Addr} (h : H' l = Option.none) : H l = Option.none := by
  cases q : H l with
  | none => rfl
  | some o =>
    rw [e l o q] at h
    cases h
theorem Same.seq {K : PySem.W.Frag} {H H' : Hp} {a : Addr} {xs : List V} (e : Same H H') (h : SqL K H a xs) : SqL K H' a xs := by
  rcases h with (h | ⟨o, h⟩) | h
  · exact .inl (.inl (e _ _ h))
  · exact .inl (.inr ⟨o, e _ _ h⟩)
  · exact .inr h

section
variable {κ : Type} [DecidableEq κ]
theorem nd_snoc : ∀ {l : List κ} {k : κ}, l.Nodup → ¬ k ∈ l → (l ++ [k]).Nodup
  | [], k, _, _ => by simp
  | a :: r, k, h, hk => by
    obtain ⟨h1, h2⟩ := List.nodup_cons.mp h
    show (a :: (r ++ [k])).Nodup
    refine List.nodup_cons.mpr ⟨fun m => ?_, nd_snoc h2 fun m => hk (List.mem_cons.mpr (Or.inr m))⟩
    rcases List.mem_append.mp m with q | q
    · exact h1 q
    · exact hk (List.mem_cons.mpr (Or.inl (List.mem_singleton.mp q).symm))
end
end L2


set_option Elab.async false
set_option linter.all false
set_option maxRecDepth 100000
namespace SW
open PySem PySem.Spec PyProof.Rows L2

theorem b_int : bootBuiltins "int" = some (.type "int") := by decide +kernel
theorem b_bool : bootBuiltins "bool" = some (.type "bool") := by decide +kernel
theorem b_tuple : bootBuiltins "tuple" = some (.type "tuple") := by decide +kernel
theorem b_isinstance : bootBuiltins "isinstance" = some (.builtin "isinstance") := by decide +kernel
theorem b_len : bootBuiltins "len" = some (.builtin "len") := by decide +kernel

structure Bx (p : Prop) : Prop where
  out : p
structure Fn (P : Program) (w : World) (K : PySem.W.Frag) (mg : Str → Option Value) (base : Heap) (x : Str) (k : Nat) (ps : List Str) (sp : Sp) : Prop where
  ex : ∃ (f : Addr) (fd : FuncData), FnOk P w K mg base CX0 k f fd ps sp ∧ mg x = some (.ref f) ∧ PySem.W.keepIn K (.ref f) = true ∧ Binds K fd ps []
structure Dfn (K : PySem.W.Frag) (mg : Str → Option Value) (x : Str) (st : Stmt) (ps : List Str) : Prop where
  ex : ∃ (f : Addr) (fd : FuncData), Fun K x x st f fd ∧ mg x = some (.ref f) ∧ Binds K fd ps []
theorem Dfn.fn {P : Program} {w : World} {K : PySem.W.Frag} {mg : Str → Option Value} {base : Heap} {x : Str} {st : Stmt} {N ps : List Str} {k : Nat} {sp : Sp} (d : Dfn K mg x st ps) (S : FnScope N ps (defScope st)) (len : ∀ vs H Q E, sp vs H Q E → vs.length = ps.length)
    (hbody : ∀ (f : Addr) (cdv : Value) (A : Around) (outer : List Env) (s : Shared) (H : Hp) (vs : List V) (Q : VK) (E : XK), Room k (A.deeper (envOfC x (defScope st) s.heap.objs.size f cdv)) → sp vs H Q E →
      ∃ t, Bx (PSs (cxOf CX0 P w K mg base N x (defScope st) f cdv A outer s H E).nox (defBody st) t) ∧ t { nx := fun _ H' => Q .non H', rt := Q } (start N vs) H) : Fn P w K mg base x (k + 1) ps sp := by
  obtain ⟨f, fd, F, hm, hb⟩ := d.ex
  exact ⟨f, fd, F.ok S len (fun cdv A outer s H vs Q E hr h => let ⟨t, h1, h2⟩ := hbody f cdv A outer s H vs Q E hr h; ⟨t, h1.out, h2⟩), hm, F.kp, hb⟩
theorem fun_bx {P : Program} {w : World} {K : PySem.W.Frag} {mg : Str → Option Value} {base : Heap} {x qual : Str} {st : Stmt} {f : Addr} {fd : FuncData} {N ps : List Str} {k : Nat} {sp : Sp} (F : Fun K x qual st f fd) (S : FnScope N ps (defScope st)) (len : ∀ vs H Q E, sp vs H Q E → vs.length = ps.length)
    (hbody : ∀ (cdv : Value) (A : Around) (outer : List Env) (s : Shared) (H : Hp) (vs : List V) (Q : VK) (E : XK), Room k (A.deeper (envOfC qual (defScope st) s.heap.objs.size f cdv)) → sp vs H Q E →
      ∃ t, Bx (PSs (cxOf CX0 P w K mg base N qual (defScope st) f cdv A outer s H E).nox (defBody st) t) ∧ t { nx := fun _ H' => Q .non H', rt := Q } (start N vs) H) : FnOk P w K mg base CX0 (k + 1) f fd ps sp :=
  F.ok S len (fun cdv A outer s H vs Q E hr h => let ⟨t, h1, h2⟩ := hbody cdv A outer s H vs Q E hr h; ⟨t, h1.out, h2⟩)

noncomputable def plainE : Expr → Bool
  | .Starred _ _ => false
  | _ => true
theorem star_of {e : Expr} {es : List Expr} {env : Env} (h : plainE e = true) : starEach (e :: es) env = (false, eval e env) :: starEach es env := by
  cases e <;> first | rfl | exact absurd h Bool.false_ne_true
theorem star_any {pos : Pos} {env : Env} : ∀ {es : List Expr}, es.all plainE = true → (backTo pos (starEach es env)).any (·.1) = false
  | [], _ => rfl
  | e :: es, h => by
    rw [List.all_cons, Bool.and_eq_true] at h
    rw [star_of h.1]
    show (false || (backTo pos (starEach es env)).any (·.1)) = false
    rw [star_any h.2]
    rfl
theorem star_all {pos : Pos} {env : Env} : ∀ {es : List Expr}, es.all plainE = true → (backTo pos (starEach es env)).all (fun x => !x.1) = true
  | [], _ => rfl
  | e :: es, h => by
    rw [List.all_cons, Bool.and_eq_true] at h
    rw [star_of h.1]
    show (true && (backTo pos (starEach es env)).all (fun x => !x.1)) = true
    rw [star_all h.2]
    rfl
section
variable {X : Cx} {x : Str} {p pos : Pos} {e : Expr} {es : List Expr} {t : TA} {te : TE} {k : Nat} {ps : List Str} {sp : Sp}
theorem pac (ha : PE X e te) (hr : PA X es t) (h : plainE e = true := by rfl) : PA X (e :: es) (tCons te t) := pa_cons ha hr (star_of h)
theorem pe_fn (F : Fn X.prog X.w X.K X.mg X.base x k ps sp) (hr : Room k X.A) (ha : PA X (e :: es) t) (hg : Gl X x := by rfl) (hdb : (x == ("__debug__" : Str)) = false := by decide) (h1 : plainE e = true := by rfl) (h2 : es.all plainE = true := by rfl) :
    PE X (.Call (.Name x p) (e :: es) [] pos) (tCall sp [] E0 t) := by
  obtain ⟨f, fd, G, hm, kp, b⟩ := F.ex
  exact pe_call G hr hg hm kp b .nil pass0 ha hdb (star_of h1) (star_any h2)
theorem pe_cB {id : String} {r : List V → Hp → VK → Prop} (hc : CallR X (.builtin id) r) (hm : X.mg x = none) (hv : bootBuiltins x = some (.builtin id)) (ha : PA X (e :: es) t) (hg : Gl X x := by rfl) (hn : x ≠ "__name__" := by decide) (hdb : (x == ("__debug__" : Str)) = false := by decide)
    (h1 : plainE e = true := by rfl) (h2 : es.all plainE = true := by rfl) : PE X (.Call (.Name x p) (e :: es) [] pos) (tCB r t) := pe_callB hc hg hm hv ha hn hdb (star_of h1) (star_any h2)
theorem pe_cT {T : String} {r : List V → Hp → VK → Prop} (hc : CallR X (.type T) r) (hm : X.mg x = none) (hv : bootBuiltins x = some (.type T)) (ha : PA X (e :: es) t) (hg : Gl X x := by rfl) (hn : x ≠ "__name__" := by decide) (hdb : (x == ("__debug__" : Str)) = false := by decide)
    (h1 : plainE e = true := by rfl) (h2 : es.all plainE = true := by rfl) : PE X (.Call (.Name x p) (e :: es) [] pos) (tCB r t) := pe_callTy hc hg hm hv ha hn hdb (star_of h1) (star_any h2)
theorem pe_m {T name id : _} {r : V → List V → Hp → VK → Prop} {o : Expr} {to : TE} {apos cpos : Pos} (pa : PlainAttrs T) (slot : Slot T name id) (hty : typeOf (.builtin id) = pure (.type "method_descriptor")) (hm : MtR X id r) (ho : PE X o to) (ha : PA X (e :: es) t)
    (hbase : attributeBase o name X.env (eval o X.env) = eval o X.env := by rfl) (hl : decide ((e :: es).length + ([] : List Keyword).length + (if ([] : List Keyword).isEmpty then 0 else 1) < 30) = true := by rfl)
    (hline : (apos.endLine == cpos.line) = true := by rfl) (h1 : plainE e = true := by rfl) (h2 : es.all plainE = true := by rfl) :
    PE X (.Call (.Attribute o name apos) (e :: es) [] cpos) (tBM X.K T r to t) := by
  refine pe_bm pa slot hty hm ho ha hbase ?_ hline (star_of h1) (star_any h2)
  have hA : (e :: es).all plainE = true := by rw [List.all_cons, h1, h2]; rfl
  rw [star_all hA, hl]
  rfl
theorem pi_r1 {tg a : Expr} {ta : TA} (hm : X.mg "range" = none) (ha : PA X [a] ta) (hg : Gl X "range" := by rfl) (h1 : plainE a = true := by rfl) : PI X tg (.Call (.Name "range" p) [a] [] pos) (iRng1 ta) :=
  pi_range1 hg hm ha (star_of h1)
theorem pe_gint {i : Int} (h : ∃ t, X.mg x = some (.int i t)) (hg : Gl X x := by rfl) (hd : (x == ("__debug__" : Str)) = false := by decide) : PE X (.Name x pos) (tC (.int i)) := by
  obtain ⟨t, h⟩ := h
  exact pe_glob hg h ⟨t, rfl⟩ hd
theorem pe_ty {n : String} (hm : X.mg x = none) (hv : bootBuiltins x = some (.type n)) (hg : Gl X x := by rfl) (hn : x ≠ "__name__" := by decide) (hd : (x == ("__debug__" : Str)) = false := by decide) : PE X (.Name x pos) (tC (.ty n)) :=
  pe_bltn hg hm hv (show Value.type n = Value.type n from rfl) hn hd
end

namespace B
section
variable {X : Cx} {x f : Str} {p pos : Pos} {e a b c o : Expr} {es : List Expr} {t : TA} {te ta tb tc to ti : TE} {k : Nat} {ps : List Str} {sp : Sp} {tg : Expr}
theorem int {i j pos} : Bx (PE X (.Constant (.int i) j pos) (tC (.int i))) := ⟨pe_int⟩
theorem bl {b j pos} : Bx (PE X (.Constant (.bool b) j pos) (tC (.bl b))) := ⟨pe_bl⟩
theorem non {j pos} : Bx (PE X (.Constant .none j pos) (tC .non)) := ⟨pe_non⟩
theorem str {x j pos} : Bx (PE X (.Constant (.str x) j pos) (tC (.str x))) := ⟨pe_str⟩
theorem v (i : Nat) {x : Str} {pos : Pos} (hN : X.N[i]? = some x := by rfl) (hv : Vis X.env.scope x := by first | exact Or.inl rfl | exact Or.inr (Or.inl rfl) | exact Or.inr (Or.inr rfl)) (hd : (x == ("__debug__" : Str)) = false := by decide)
    (hcd : (x == ("__classdict__" : Str)) = false := by decide) : Bx (PE X (.Name x pos) (tVar i)) := ⟨pe_var hN hv hd hcd⟩
theorem gint {i : Int} (h : ∃ t, X.mg x = some (.int i t)) (hg : Gl X x := by rfl) (hd : (x == ("__debug__" : Str)) = false := by decide) : Bx (PE X (.Name x pos) (tC (.int i))) := ⟨pe_gint h hg hd⟩
theorem ty {n : String} (hm : X.mg x = none) (hv : bootBuiltins x = some (.type n)) (hg : Gl X x := by rfl) (hn : x ≠ "__name__" := by decide) (hd : (x == ("__debug__" : Str)) = false := by decide) : Bx (PE X (.Name x pos) (tC (.ty n))) := ⟨pe_ty hm hv hg hn hd⟩
theorem op {op : Operator} {r : R2} (ho : OpR X (binaryOp op) r) (ha : Bx (PE X a ta)) (hb : Bx (PE X b tb)) : Bx (PE X (.BinOp a op b pos) (tOp r ta tb)) := ⟨pe_op ho ha.out hb.out⟩
theorem un {op : UnaryOp} {r : V → Hp → VK → Prop} (ho : UnR X (unaryOp op) r) (ha : Bx (PE X a ta)) : Bx (PE X (.UnaryOp op a pos) (tUn r ta)) := ⟨pe_un ho ha.out⟩
theorem not (ha : Bx (PE X a ta)) : Bx (PE X (.UnaryOp .Not a pos) (tNotV ta)) := ⟨pe_not ha.out⟩
theorem cmp {op : CmpOp} {r : R2} (ho : OpR X (compareOp op) r) (ha : Bx (PE X a ta)) (hb : Bx (PE X b tb)) (hm : behindInMarks op b = false := by exact nomark _) : Bx (PE X (.Compare a [op] [b] pos) (tOp r ta tb)) := ⟨pe_cmpR ho ha.out hb.out hm⟩
theorem chain {op op' : CmpOp} {r r' : R2} (ho : OpR X (compareOp op) r) (ho' : OpR X (compareOp op') r') (ha : Bx (PE X a ta)) (hb : Bx (PE X b tb)) (hc : Bx (PE X c tc)) (hm : lastMarks [op, op'] [b, c] = false := by with_unfolding_all rfl) :
    Bx (PE X (.Compare a [op, op'] [b, c] pos) (tChain r r' ta tb tc)) := ⟨pe_chain ho ho' ha.out hb.out hc.out hm⟩
theorem one {op} (h : Bx (PE X a ta)) : Bx (PE X (.BoolOp op [a] pos) ta) := ⟨pe_one h.out⟩
theorem and {rest : List Expr} (ha : Bx (PE X a ta)) (hb : Bx (PE X (.BoolOp .And (b :: rest) pos) tb)) : Bx (PE X (.BoolOp .And (a :: b :: rest) pos) (tAndV ta tb)) := ⟨pe_and ha.out hb.out⟩
theorem or {rest : List Expr} (ha : Bx (PE X a ta)) (hb : Bx (PE X (.BoolOp .Or (b :: rest) pos) tb)) : Bx (PE X (.BoolOp .Or (a :: b :: rest) pos) (tOrV ta tb)) := ⟨pe_or ha.out hb.out⟩
theorem ifx {tA : TT} (hc : Bx (PT X c tA)) (ha : Bx (PE X a ta)) (hb : Bx (PE X b tb)) : Bx (PE X (.IfExp c a b pos) (tIf tA ta tb)) := ⟨pe_ifExp hc.out ha.out hb.out⟩
theorem nil : Bx (PA X [] tNil) := ⟨pa_nil⟩
theorem cons (ha : Bx (PE X e te)) (hr : Bx (PA X es t)) (h : plainE e = true := by rfl) : Bx (PA X (e :: es) (tCons te t)) := ⟨pac ha.out hr.out h⟩
theorem lst (h : Bx (PA X es t)) : Bx (PE X (.List es pos) (tLst t)) := ⟨pe_lst h.out⟩
theorem tup {x1} (h : Bx (PA X es t)) : Bx (PE X (.Tuple es x1 pos) (tTup t)) := ⟨pe_tup h.out⟩
theorem ix {r : R2} (hr : IxR X r) (ha : Bx (PE X a ta)) (hb : Bx (PE X b tb)) (hs : PlainIx b := by exact fun _ _ => rfl) : Bx (PE X (.Subscript a b pos) (tOp r ta tb)) := ⟨pe_ix hr ha.out hb.out hs⟩
theorem nopart : Bx (PO X none tNoPart) := ⟨po_none⟩
theorem part (h : Bx (PE X e te)) : Bx (PO X (some e) (tPart te)) := ⟨po_some h.out⟩
theorem slice {lo hi : Option Expr} {tl th : TO} {p2 : Pos} {r : V → Option Int → Option Int → Hp → VK → Prop} (hr : SlR X r) (he : Bx (PE X e te)) (hl : Bx (PO X lo tl)) (hu : Bx (PO X hi th)) : Bx (PE X (.Subscript e (.Slice lo hi none p2) pos) (tSl r te tl th)) := ⟨pe_slice hr he.out hl.out hu.out⟩
theorem fn (F : Fn X.prog X.w X.K X.mg X.base x k ps sp) (hr : Room k X.A) (ha : Bx (PA X (e :: es) t)) (hg : Gl X x := by rfl) (hdb : (x == ("__debug__" : Str)) = false := by decide) (h1 : plainE e = true := by rfl) (h2 : es.all plainE = true := by rfl) :
    Bx (PE X (.Call (.Name x p) (e :: es) [] pos) (tCall sp [] E0 t)) := ⟨pe_fn F hr ha.out hg hdb h1 h2⟩
theorem cB {id : String} {r : List V → Hp → VK → Prop} (hc : CallR X (.builtin id) r) (hm : X.mg x = none) (hv : bootBuiltins x = some (.builtin id)) (ha : Bx (PA X (e :: es) t)) (hg : Gl X x := by rfl) (hn : x ≠ "__name__" := by decide) (hdb : (x == ("__debug__" : Str)) = false := by decide)
    (h1 : plainE e = true := by rfl) (h2 : es.all plainE = true := by rfl) : Bx (PE X (.Call (.Name x p) (e :: es) [] pos) (tCB r t)) := ⟨pe_cB hc hm hv ha.out hg hn hdb h1 h2⟩
theorem cT {T : String} {r : List V → Hp → VK → Prop} (hc : CallR X (.type T) r) (hm : X.mg x = none) (hv : bootBuiltins x = some (.type T)) (ha : Bx (PA X (e :: es) t)) (hg : Gl X x := by rfl) (hn : x ≠ "__name__" := by decide) (hdb : (x == ("__debug__" : Str)) = false := by decide)
    (h1 : plainE e = true := by rfl) (h2 : es.all plainE = true := by rfl) : Bx (PE X (.Call (.Name x p) (e :: es) [] pos) (tCB r t)) := ⟨pe_cT hc hm hv ha.out hg hn hdb h1 h2⟩
theorem m {T name id : _} {r : V → List V → Hp → VK → Prop} {apos cpos : Pos} (pa : PlainAttrs T) (slot : Slot T name id) (hty : typeOf (.builtin id) = pure (.type "method_descriptor")) (hm : MtR X id r) (ho : Bx (PE X o to)) (ha : Bx (PA X (e :: es) t))
    (hbase : attributeBase o name X.env (eval o X.env) = eval o X.env := by rfl) (hl : decide ((e :: es).length + ([] : List Keyword).length + (if ([] : List Keyword).isEmpty then 0 else 1) < 30) = true := by rfl)
    (hline : (apos.endLine == cpos.line) = true := by rfl) (h1 : plainE e = true := by rfl) (h2 : es.all plainE = true := by rfl) :
    Bx (PE X (.Call (.Attribute o name apos) (e :: es) [] cpos) (tBM X.K T r to t)) := ⟨pe_m pa slot hty hm ho.out ha.out hbase hl hline h1 h2⟩
theorem tcmp {op : CmpOp} {r : R2} (ho : OpR X (compareOp op) r) (ha : Bx (PE X a ta)) (hb : Bx (PE X b tb)) (hm : behindInMarks op b = false := by exact nomark _) : Bx (PT X (.Compare a [op] [b] pos) (tTest (tOp r ta tb))) := ⟨pt_cmpR ho ha.out hb.out hm⟩
theorem tchain {op op' : CmpOp} {r r' : R2} (ho : OpR X (compareOp op) r) (ho' : OpR X (compareOp op') r') (ha : Bx (PE X a ta)) (hb : Bx (PE X b tb)) (hc : Bx (PE X c tc)) (hm : lastMarks [op, op'] [b, c] = false := by with_unfolding_all rfl) :
    Bx (PT X (.Compare a [op, op'] [b, c] pos) (tTest (tChain r r' ta tb tc))) := ⟨pt_chain ho ho' ha.out hb.out hc.out hm⟩
theorem tval (h : Bx (PE X e te)) (he : ∀ whole, isTrue e X.env whole = (do let v ← whole; standAt e.pos; holding [v] (truthy v)) := by intro _; rfl) : Bx (PT X e (tB te)) := ⟨pt_val h.out he⟩
theorem tnot {tA : TT} (ha : Bx (PT X a tA)) : Bx (PT X (.UnaryOp .Not a pos) (tNot tA)) := ⟨pt_not ha.out⟩
theorem wand1 {tA : TT} (ha : Bx (PT X a tA)) : Bx (PW X (.BoolOp .And [a] pos) tA) := ⟨pw_and1 ha.out⟩
theorem wor1 {tA : TT} (ha : Bx (PT X a tA)) : Bx (PW X (.BoolOp .Or [a] pos) tA) := ⟨pw_or1 ha.out⟩
theorem wand {tA tB' : TT} {rest : List Expr} (ha : Bx (PT X a tA)) (hb : Bx (PW X (.BoolOp .And (b :: rest) pos) tB')) : Bx (PW X (.BoolOp .And (a :: b :: rest) pos) (tAnd tA tB')) := ⟨pw_and ha.out hb.out⟩
theorem wor {tA tB' : TT} {rest : List Expr} (ha : Bx (PT X a tA)) (hb : Bx (PW X (.BoolOp .Or (b :: rest) pos) tB')) : Bx (PW X (.BoolOp .Or (a :: b :: rest) pos) (tOr tA tB')) := ⟨pw_or ha.out hb.out⟩
theorem tw {tA : TT} (h : Bx (PW X e tA)) : Bx (PT X e tA) := ⟨h.out.pt⟩
theorem gname {i : Nat} (hN : X.N.Nodup) (hi : X.N[i]? = some x := by rfl) (hx : Loc X.env.scope x := by first | exact Or.inl rfl | exact Or.inr rfl) (hf : X.fn x = true ∨ X.env.scope.names.lookup x = some .local := by first | exact .inl rfl | exact .inr rfl) : Bx (PG X (.Name x pos) (gName i)) := ⟨pg_name hN hi hx hf⟩
theorem gnil : Bx (PGs X [] gNil) := ⟨pgs_nil⟩
theorem gcons {g : TG} {u : TGs} (h1 : Bx (PG X e g)) (h2 : Bx (PGs X es u)) (hs : (assignEach (e :: es) X.env).map (·.2) = assign e X.env :: (assignEach es X.env).map (·.2) := by rfl) : Bx (PGs X (e :: es) (gCons g u)) := ⟨pgs_cons h1.out h2.out hs⟩
theorem gtup {kk n : Nat} {u : TGs} (h : Bx (PGs X es u)) (hc : X.calm = true := by rfl) (hn : (assignEach es X.env).length = n := by rfl) (hst : (assignEach es X.env).findIdx? (·.1) = none := by rfl) : Bx (PG X (.Tuple es kk pos) (gTup X.K n u)) := ⟨pg_tup hc h.out hn hst⟩
theorem gsub {s : TSet} {i : Expr} (ho : Bx (PE X o to)) (hi : Bx (PE X i ti)) (hs : PSet X s)
    (ha : ∀ v, assign (.Subscript o i pos) X.env v = (do
      let ov ← holding [v] (eval o X.env)
      let iv ← holding [v, ov] (eval i X.env)
      standAt pos
      holding [v, ov, iv] (setItem ov iv v)
      release [v, ov, iv] []) := by intro _; rfl) : Bx (PG X (.Subscript o i pos) (gSub to ti s)) := ⟨pg_sub ho.out hi.out hs ha⟩
theorem asg {g : TG} (he : Bx (PE X e te)) (hg : Bx (PG X tg g)) (hs : swapsWithSole [tg] e pos.line X.env = pure false := by rfl) (hw : swappedStores [tg] e X.env = pure none := by rfl)
    (h1 : (assignEach [tg] X.env).map (·.2) = [assign tg X.env] := by rfl) : Bx (PS X (.Assign [tg] e pos) (tAsg te g)) := ⟨ps_asg he.out hg.out hs hw h1⟩
theorem set (i : Nat) {pos' : Pos} (hN : X.N.Nodup) (he : Bx (PE X e te)) (hi : X.N[i]? = some x := by rfl) (hx : Loc X.env.scope x := by first | exact Or.inl rfl | exact Or.inr rfl) (hs : swapsWith e (some (.Name x pos')) pos.line X.env = pure false := by rfl)
    (hf : X.fn x = true ∨ X.env.scope.names.lookup x = some .local := by first | exact .inl rfl | exact .inr rfl) : Bx (PS X (.Assign [.Name x pos'] e pos) (tAsg te (gName i))) := ⟨ps_set hN hi hx he.out hs hf⟩
theorem expr (he : Bx (PE X e te)) (hs : swapsWith e none pos.line X.env = pure false := by rfl) : Bx (PS X (.Expr e pos) (tDrop te)) := ⟨ps_expr he.out hs⟩
theorem ret (he : Bx (PE X e te)) : Bx (PS X (.Return (some e) pos) (tRet te)) := ⟨ps_ret he.out⟩
theorem ifs {tcc : TT} {l r : List Stmt} {u w : TS} (hc : Bx (PT X c tcc)) (ha : Bx (PSs X l u)) (hb : Bx (PSs X r w)) : Bx (PS X (.If c l r pos) (tIfS tcc u w)) := ⟨ps_if hc.out ha.out hb.out⟩
theorem ilist {l : Expr} {tl : TE} (hl : Bx (PE X l tl)) : Bx (PI X tg l (iList X.K tl)) := ⟨pi_list hl.out⟩
theorem itup {l : Expr} {tl : TE} (hl : Bx (PE X l tl)) : Bx (PI X tg l (iTup X.K tl)) := ⟨pi_tup hl.out⟩
theorem irange {t : TA} (hm : X.mg "range" = none) (ha : Bx (PA X [a] t)) (hg : Gl X "range" := by rfl) (h1 : plainE a = true := by rfl) : Bx (PI X tg (.Call (.Name "range" p) [a] [] pos) (iRng1 t)) := ⟨pi_r1 hm ha.out hg h1⟩
theorem fors {iter : Expr} {l : List Stmt} {wi : TI} {g : TG} {u : TS} (hi : Bx (PI X tg iter wi)) (hg : Bx (PG X tg g)) (hb : Bx (PSs X l u)) (hp : PassesOwn (model X.prog X.w) X.A X.env X.xe := by exact PassesOwn.never) (hc : X.calm = true := by rfl)
    (hs : ∀ x, foldedSetIterable iter X.env x = pure x := by intro _; rfl) : Bx (PS X (.For tg iter l [] pos) (tFor wi g u)) := ⟨ps_for hp hc hi.out hg.out hb.out hs⟩
theorem snil : Bx (PSs X [] tNext) := ⟨pss_nil⟩
theorem scons {st : Stmt} {rest : List Stmt} {u w : TS} (h1 : Bx (PS X st u)) (h2 : Bx (PSs X rest w)) : Bx (PSs X (st :: rest) (tSeq u w)) := ⟨pss_cons h1.out h2.out⟩
theorem sone {st : Stmt} {u : TS} (h1 : Bx (PS X st u)) : Bx (PSs X [st] u) := ⟨pss_one h1.out⟩
end
end B
noncomputable def CDivL (_ j : Int) : Prop := 0 < j ∧ j < 18446744073709551616
theorem op_fdivL {X : Cx} : OpR X (binaryOp .FloorDiv) (rI CDivL fun i j => .int (i / j)) := opI fun i j _ _ _ _ _ hc q => by
  have h1 : (0 : Int) < j := hc.1
  have h2 : j < 18446744073709551616 := hc.2
  have h3 : j.natAbs.log2 < 64 := (Nat.log2_lt (by omega)).mpr (by omega)
  exact floordiv_int (by omega) (by rw [Int.fdiv_eq_ediv_of_nonneg i (by omega)]; exact q) (.inl (PyProof.noPylong_of_log2 (by omega)))
section
variable {D : Ends} {σ : L2.St} {H : Hp} {Q : VK} {v : V} {K : PySem.W.Frag}
theorem wAsg {te : TE} {g : TG} (h : te σ H fun x H1 => g x σ H1 D.nx) : tAsg te g D σ H := h
theorem wName {i : Nat} {Q : L2.St → Hp → Prop} (h : Q (σ.set i (some v)) H) : gName i v σ H Q := h
theorem wSub {to ti : TE} {t : TSet} {Q : L2.St → Hp → Prop} (h : to σ H fun o H1 => ti σ H1 fun i H2 => t o i v H2 fun H3 => Q σ H3) : gSub to ti t v σ H Q := h
theorem wSetL {p : Addr} {xs : List V} {i : Int} {j : Nat} {Q : Hp → Prop} (e : H p = some (.lst xs)) (hj : ixN xs.length i = some j) (h : Q (upd H p (.lst (xs.set j v)))) : rSetL (.ref p) (.int i) v H Q := ⟨p, xs, i, j, rfl, rfl, e, hj, h⟩
theorem wDrop {te : TE} (h : te σ H fun _ H1 => D.nx σ H1) : tDrop te D σ H := h
theorem wRet {te : TE} (h : te σ H D.rt) : tRet te D σ H := h
theorem wNext (h : D.nx σ H) : tNext D σ H := h
theorem wIfS {c : TT} {t u : TS} (h : c σ H fun b H1 => if b = true then t D σ H1 else u D σ H1) : tIfS c t u D σ H := h
theorem wVar {i : Nat} (e : σ[i]? = some (some v)) (h : Q v H) : tVar i σ H Q := ⟨v, e, h⟩
theorem wC (h : Q v H) : tC v σ H Q := h
theorem wOp {r : R2} {ta tb : TE} (h : ta σ H fun x H1 => tb σ H1 fun y H2 => r x y H2 Q) : tOp r ta tb σ H Q := h
theorem wUn {r : V → Hp → VK → Prop} {ta : TE} (h : ta σ H fun x H1 => r x H1 Q) : tUn r ta σ H Q := h
theorem wU {g : Int → V} {i : Int} (h : Q (g i) H) : rU g (.int i) H Q := ⟨i, rfl, h⟩
theorem wI0 {g : Int → Int → V} {i j : Int} (h : Q (g i j) H) : rI0 g (.int i) (.int j) H Q := ⟨i, j, rfl, rfl, h⟩
theorem wMod {g : Int → Int → V} {i j : Int} (c : 0 < j) (h : Q (g i j) H) : rI (fun _ j => 0 < j) g (.int i) (.int j) H Q := ⟨i, j, rfl, rfl, c, h⟩
theorem wDivL {g : Int → Int → V} {i j : Int} (c : 0 < j ∧ j < 18446744073709551616) (h : Q (g i j) H) : rI CDivL g (.int i) (.int j) H Q := ⟨i, j, rfl, rfl, c, h⟩
theorem wMul {g : Int → Int → V} {i j : Int} (c : (-18446744073709551616 < i ∧ i < 18446744073709551616) ∨ (-18446744073709551616 < j ∧ j < 18446744073709551616)) (h : Q (g i j) H) : rI CMul g (.int i) (.int j) H Q := ⟨i, j, rfl, rfl, c, h⟩
theorem wPow {g : Int → Int → V} {i j : Int} (c : 0 ≤ j ∧ j ≤ 1000000 ∧ i.natAbs < 2 ^ 64) (h : Q (g i j) H) : rI CPow g (.int i) (.int j) H Q := ⟨i, j, rfl, rfl, c, h⟩
theorem wEqI {i j : Int} (h : Q (.bl (decide (V.int i = V.int j))) H) : rEq (.int i) (.int j) H Q := ⟨rfl, h⟩
theorem wNeI {i j : Int} (h : Q (.bl (!decide (V.int i = V.int j))) H) : rNe (.int i) (.int j) H Q := ⟨rfl, h⟩
theorem wTest {te : TE} {Q : Bool → Hp → Prop} (h : te σ H fun x H' => ∃ k, x = .bl k ∧ Q k H') : tTest te σ H Q := h
theorem wB {te : TE} {Q : Bool → Hp → Prop} (h : te σ H fun x H' => ∃ k, x = .bl k ∧ Q k H') : tB te σ H Q := h
theorem wBl {b : Bool} {Q : Bool → Prop} (h : Q b) : ∃ k, V.bl b = .bl k ∧ Q k := ⟨b, rfl, h⟩
theorem wNot {t : TT} {Q : Bool → Hp → Prop} (h : t σ H fun c H1 => Q (!c) H1) : tNot t σ H Q := h
theorem wNotV {ta : TE} (h : ta σ H fun x H1 => ∃ c, x = .bl c ∧ Q (.bl (!c)) H1) : tNotV ta σ H Q := h
theorem wAndV {ta tb : TE} (h : ta σ H fun x H1 => ∃ c, x = .bl c ∧ if c = true then tb σ H1 Q else Q (.bl false) H1) : tAndV ta tb σ H Q := h
theorem wOrV {ta tb : TE} (h : ta σ H fun x H1 => ∃ c, x = .bl c ∧ if c = true then Q (.bl true) H1 else tb σ H1 Q) : tOrV ta tb σ H Q := h
theorem wIxL {p : Addr} {xs : List V} {i : Int} (e : H p = some (.lst xs)) (a : atI xs i = some v) (h : Q v H) : rIxL K (.ref p) (.int i) H Q := ⟨p, xs, i, v, rfl, rfl, SqL.of e, a, h⟩
theorem wIxT {p : Addr} {xs : List V} {i : Int} (e : H p = some (.tup xs)) (a : atI xs i = some v) (h : Q v H) : rIxT K (.ref p) (.int i) H Q := ⟨p, xs, i, v, rfl, rfl, SqT.of e, a, h⟩
theorem wNil {Q : List V → Hp → Prop} (h : Q [] H) : tNil σ H Q := h
theorem wCons {ta : TE} {tr : TA} {Q : List V → Hp → Prop} (h : ta σ H fun x H1 => tr σ H1 fun xs H2 => Q (x :: xs) H2) : tCons ta tr σ H Q := h
theorem wLst {t : TA} (h : t σ H fun xs H1 => xs.length ≤ sizeLine ∧ ∀ p, H1 p = none → Q (.ref p) (upd H1 p (.lst xs))) : tLst t σ H Q := h
theorem wTup {t : TA} (h : t σ H fun xs H1 => xs.length ≤ sizeLine ∧ ∀ p, H1 p = none → Q (.ref p) (upd H1 p (.tup xs))) : tTup t σ H Q := h
theorem wBM {T : String} {r : V → List V → Hp → VK → Prop} {to : TE} {t : TA} (h : to σ H fun x H1 => tyV K T x H1 ∧ t σ H1 fun xs H2 => r x xs H2 Q) : tBM K T r to t σ H Q := h
theorem wCall {sp : Sp} {E : XK} {t : TA} (h : t σ H fun vs H1 => sp (vs ++ []) H1 Q E) : tCall sp [] E t σ H Q := h
theorem wCB {r : List V → Hp → VK → Prop} {t : TA} (h : t σ H fun vs H1 => r vs H1 Q) : tCB r t σ H Q := h
end
end SW

namespace SW
open PySem PySem.NumText


set_option maxHeartbeats 4000000 in
section
variable {prog : Program} {w : World} {A : Around} {E : Value → Shared → Prop} {s : Shared} {Q : Value → Shared → Prop} {x : PySem.Str} {t u : Tok}
end
end SW

namespace SW
open PySem PySem.Spec PyProof.Rows L2
noncomputable def Row (H : Hp) (p : Addr) : Prop := ∃ a b c : Int, H p = some (.lst [.int a, .int b, .int c]) ∧ 0 ≤ b ∧ b < 536870909
noncomputable def KeepBut (p : Addr) (H H' : Hp) : Prop := ∀ b o, b ≠ p → H b = some o → H' b = some o
theorem KeepBut.refl (p : Addr) (H : Hp) : KeepBut p H H := fun _ _ _ h => h
theorem KeepBut.trans {p : Addr} {H H1 H2 : Hp} (a : KeepBut p H H1) (b : KeepBut p H1 H2) : KeepBut p H H2 := fun c o n h => b c o n (a c o n h)
theorem KeepBut.new {p q : Addr} {o : HO} {H : Hp} (h : H q = none) : KeepBut p H (upd H q o) := fun b u _ e => by
  rw [upd_ne (ne_of_none e h)]; exact e
theorem KeepBut.at {p : Addr} {o : HO} {H : Hp} : KeepBut p H (upd H p o) := fun b u n e => by
  rw [upd_ne n]; exact e
theorem Same.new {q : Addr} {o : HO} {H : Hp} (h : H q = none) : Same H (upd H q o) := fun b u e => by
  rw [upd_ne (ne_of_none e h)]; exact e
theorem Same.but {p : Addr} {H H' : Hp} (h : Same H H') : KeepBut p H H' := fun b o _ e => h b o e
theorem Row.same {H H' : Hp} {p : Addr} (r : Row H p) (s : Same H H') : Row H' p := by
  obtain ⟨a, b, c, h, h0, h1⟩ := r
  exact ⟨a, b, c, s _ _ h, h0, h1⟩
theorem Row.new {H : Hp} {p q : Addr} {o : HO} (r : Row H p) (h : H q = none) : Row (upd H q o) p := r.same (Same.new h)
theorem Row.ne {H : Hp} {p q : Addr} {xs : List V} (r : Row H p) (h : H q = some (.tup xs)) : q ≠ p := by
  obtain ⟨a, b, c, e, _⟩ := r
  exact ne_of h e (by intro z; cases z)
theorem Row.ne0 {H : Hp} {p q : Addr} (r : Row H p) (h : H q = none) : p ≠ q := by
  obtain ⟨a, b, c, e, _⟩ := r
  exact ne_of_none e h
noncomputable def spStream : Sp := fun vs H Q _ => ∃ c : Int, vs = [.int c] ∧ ∀ p o, H p = none → Row (upd H p o) p → Q (.ref p) (upd H p o)
noncomputable def spTake : Sp := fun vs H Q _ => ∃ (p : Addr) (m : Int), vs = [.ref p, .int m] ∧ 0 < m ∧ m < 18446744073709551616 ∧ Row H p ∧ ∀ r o, 0 ≤ r → r < m → Row (upd H p o) p → Q (.int r) (upd H p o)
theorem wStream {c : Int} {H : Hp} {Q : VK} {E : XK} (k : ∀ p o, H p = none → Row (upd H p o) p → Q (.ref p) (upd H p o)) : spStream ([.int c] ++ []) H Q E := ⟨c, rfl, k⟩
theorem wTake {p : Addr} {m : Int} {H : Hp} {Q : VK} {E : XK} (hp : Row H p) (h0 : 0 < m) (h1 : m < 18446744073709551616) (k : ∀ r H', 0 ≤ r → r < m → Row H' p → KeepBut p H H' → Q (.int r) H') : spTake ([.ref p, .int m] ++ []) H Q E :=
  ⟨p, m, rfl, h0, h1, hp, fun r o a b c => k r _ a b c KeepBut.at⟩
noncomputable def spKey : Sp := fun vs H Q _ => ∃ p : Addr, vs = [.ref p] ∧ Row H p ∧ ∀ k H', 0 ≤ k → k ≤ 1000000000 → Row H' p → KeepBut p H H' → Q (.int k) H'
theorem wKey {p : Addr} {H : Hp} {Q : VK} {E : XK} (hp : Row H p) (k : ∀ k H', 0 ≤ k → k ≤ 1000000000 → Row H' p → KeepBut p H H' → Q (.int k) H') : spKey ([.ref p] ++ []) H Q E := ⟨p, rfl, hp, k⟩
noncomputable def Mix (H : Hp) (t : Addr) : Prop := ∃ f m : Int, H t = some (.tup [.int f, .int m]) ∧ 0 ≤ f ∧ f ≤ 65535 ∧ 0 ≤ m ∧ m ≤ 65535
theorem Mix.keep {H H' : Hp} {p t : Addr} (h : Mix H t) (r : Row H p) (k : KeepBut p H H') : Mix H' t := by
  obtain ⟨f, m, e, b⟩ := h
  exact ⟨f, m, k _ _ (r.ne e) e, b⟩
theorem Mix.same {H H' : Hp} {t : Addr} (h : Mix H t) (k : Same H H') : Mix H' t := by
  obtain ⟨f, m, e, b⟩ := h
  exact ⟨f, m, k _ _ e, b⟩
noncomputable def spMixer : Sp := fun vs H Q _ => ∃ p : Addr, vs = [.ref p] ∧ Row H p ∧ ∀ t H', Mix H' t → Row H' p → KeepBut p H H' → Q (.ref t) H'
theorem wMixer {p : Addr} {H : Hp} {Q : VK} {E : XK} (hp : Row H p) (k : ∀ t H', Mix H' t → Row H' p → KeepBut p H H' → Q (.ref t) H') : spMixer ([.ref p] ++ []) H Q E := ⟨p, rfl, hp, k⟩
theorem atI_in {α : Type} {xs : List α} {i : Int} (h0 : 0 ≤ i) (h1 : i < xs.length) : ∃ v, atI xs i = some v ∧ v ∈ xs := by
  obtain ⟨j, rfl⟩ := Int.eq_ofNat_of_zero_le h0
  have hj : j < xs.length := by omega
  exact ⟨xs[j], atI_nat (by simp [hj]), List.getElem_mem hj⟩
theorem KeepBut.upd {p q : Addr} {o : HO} {H H' : Hp} (k : KeepBut p H H') (h : H q = none) : KeepBut p H (upd H' q o) := fun b u n e => by
  rw [upd_ne (ne_of_none e h)]; exact k b u n e
theorem Mix.upd {H : Hp} {q t : Addr} {o : HO} {xs : List V} (m : Mix H t) (h : H q = some (.lst xs)) : Mix (L2.upd H q o) t := by
  obtain ⟨f, z, e, b⟩ := m
  refine ⟨f, z, ?_, b⟩
  rw [upd_ne (ne_of e h (by intro z; cases z))]; exact e
theorem Row.upd {H : Hp} {p q : Addr} {o : HO} (r : Row H p) (h : p ≠ q) : Row (L2.upd H q o) p := by
  obtain ⟨a, b, c, e, z⟩ := r
  exact ⟨a, b, c, by rw [upd_ne h]; exact e, z⟩
noncomputable def Mixs (H : Hp) (xs : List V) : Prop := ∀ v ∈ xs, ∃ t, v = V.ref t ∧ Mix H t
theorem Mixs.nil {H : Hp} : Mixs H [] := fun _ h => nomatch h
theorem Mixs.more {H H' : Hp} {xs : List V} (h : Mixs H xs) (t : Addr) (m : Mix H' t) (k : ∀ t, Mix H t → Mix H' t) : Mixs H' (xs ++ [V.ref t]) := fun v hv => by
  rcases List.mem_append.mp hv with q | q
  · obtain ⟨u, e, z⟩ := h v q
    exact ⟨u, e, k u z⟩
  · exact ⟨t, List.mem_singleton.mp q, m⟩
theorem Mixs.map {H H' : Hp} {xs : List V} (h : Mixs H xs) (k : ∀ t, Mix H t → Mix H' t) : Mixs H' xs := fun v hv => by
  obtain ⟨u, e, z⟩ := h v hv
  exact ⟨u, e, k u z⟩
theorem Mixs.new {H : Hp} {xs : List V} (h : Mixs H xs) (t : Addr) (f m : Int) (ht : H t = none) (b : 0 ≤ f ∧ f ≤ 65535 ∧ 0 ≤ m ∧ m ≤ 65535) : Mixs (L2.upd H t (.tup [.int f, .int m])) (xs ++ [V.ref t]) :=
  h.more t ⟨f, m, upd_same, b⟩ fun _ z => z.same (Same.new ht)

section
variable {X : Cx}
theorem call_isi : CallR X (.builtin "isinstance") (fun xs H Q => ∃ x T t b, xs = [x, .ty T] ∧ TyOf X.K H x t ∧ PySem.W.kitOne X.K t (.type T) = some b ∧ Q (.bl b) H) := by
  intro pins s σ H xs us Q I r h
  obtain ⟨x, T, t, b, rfl, ty, e, q⟩ := h
  obtain ⟨u, v, rfl, ru, rv⟩ := vals2 r
  cases (show v = Value.type T from rv)
  exact isinst_ok I ru ty e fun tk => ⟨.bl b, H, I.tok tk, rfl, q⟩
end
section
variable {D : Ends} {σ : L2.St} {H : Hp} {Q : VK} {v : V} {K : PySem.W.Frag}
theorem wFor {wi : TI} {g : TG} {tb : TS} (h : wi σ H fun J H1 => ∃ W : Nat → Nat → L2.St → Hp → Prop, (∃ m, W 0 m σ H1) ∧ ∀ i m σ H, W i m σ H →
  (J.stop i H ∧ D.nx σ H) ∨ (J.go i H ∧ ∃ N : L2.St → Hp → Prop, (∀ σ' H', N σ' H' → ∃ m', m' < m ∧ W (i + 1) m' σ' H') ∧ ∀ x H', J.yld i H x H' → g x σ H' fun σ2 H2 => tb { D with nx := N, ct := N, bk := D.nx } σ2 H2)) : tFor wi g tb D σ H := h
theorem wIList {tl : TE} {R : It → Hp → Prop} (h : tl σ H fun x H1 => ∃ a, x = .ref a ∧ (∃ xs, SqL K H1 a xs) ∧ R (Itl K a) H1) : iList K tl σ H R := h
theorem wRng1 {ta : TA} {R : It → Hp → Prop} (h : ta σ H fun vs H1 => ∃ j : Int, vs = [.int j] ∧ -(2 ^ 62) ≤ j ∧ j < 2 ^ 62 ∧ R (Itr 0 j.toNat) H1) : iRng1 ta σ H R := h
theorem cut_ints (ns : List Int) (lo hi : Option Int) : ∃ cs : List Int, cutV (ns.map V.int) lo hi = cs.map V.int ∧ cs.length ≤ ns.length := by
  unfold cutV
  rw [← List.map_drop, ← List.map_take]
  exact ⟨_, rfl, by rw [List.length_take, List.length_drop]; omega⟩
end
theorem iteY {c A B : Prop} [Decidable c] (hc : c) (h : A) : if decide c = true then A else B := by
  rw [decide_eq_true hc]
  exact iteT h
theorem getInt {cs : List Int} {i : Nat} {y : V} (h : (cs.map V.int)[i]? = some y) : ∃ c, y = V.int c := by
  rw [List.getElem?_map] at h
  cases e : cs[i]? with
  | none => rw [e] at h; cases h
  | some z => rw [e] at h; exact ⟨z, (Option.some.inj h).symm⟩
noncomputable def spLaw (K : PySem.W.Frag) : Sp := fun vs H Q _ => ∃ (a : Addr) (ns : List Int), vs = [.ref a] ∧ SqL K H a (ns.map V.int) ∧ ns.length ≤ 63 ∧ ∀ H', Q (.bl true) H'
section
variable {H : Hp} {Q : VK}
theorem wInt1 {k : Bool} {P : Int → Prop} (h : P (if k = true then 1 else 0)) : (∃ i, [V.bl k] = [V.int i] ∧ P i) ∨ ∃ k', [V.bl k] = [V.bl k'] ∧ P (if k' = true then 1 else 0) := .inr ⟨k, rfl, h⟩
end
section
variable {D : Ends} {σ : L2.St} {H : Hp} {Q : VK}
theorem wAnd {t u : TT} {Q : Bool → Hp → Prop} (h : t σ H fun c H1 => if c = true then u σ H1 Q else Q false H1) : tAnd t u σ H Q := h
theorem wOr {t u : TT} {Q : Bool → Hp → Prop} (h : t σ H fun c H1 => if c = true then Q true H1 else u σ H1 Q) : tOr t u σ H Q := h
theorem wChain {r r' : R2} {ta tb tc : TE} (h : ta σ H fun x H1 => tb σ H1 fun y H2 => r x y H2 fun z H3 => ∃ k, z = .bl k ∧ (if k = true then tc σ H3 fun w' H4 => r' y w' H4 Q else Q (.bl false) H3)) : tChain r r' ta tb tc σ H Q := h
theorem wNeB {i j : Bool} (h : Q (.bl (!decide (V.bl i = V.bl j))) H) : rNe (.bl i) (.bl j) H Q := ⟨rfl, h⟩
theorem wEqB {i j : Bool} (h : Q (.bl (decide (V.bl i = V.bl j))) H) : rEq (.bl i) (.bl j) H Q := ⟨rfl, h⟩
end
theorem iteNo {c A B : Prop} [Decidable c] (hc : ¬ c) (h : B) : if decide c = true then A else B := by
  rw [decide_eq_false hc]
  exact iteF h
theorem iteNN {c A B : Prop} [Decidable c] (hc : ¬ c) (h : A) : if (!decide c) = true then A else B := by
  rw [decide_eq_false hc]
  exact iteT h
theorem iteB {b : Bool} {A B : Prop} (h1 : b = true → A) (h2 : b = false → B) : if b = true then A else B := by
  cases b with
  | true => exact iteT (h1 rfl)
  | false => exact iteF (h2 rfl)
noncomputable def spMark : Sp := fun vs H Q _ => ∃ (k : Int) (t : Addr) (f m : Int), vs = [.int k, .ref t] ∧ H t = some (.tup [.int f, .int m]) ∧ (0 ≤ f ∧ f ≤ 65535) ∧ Q (.int ((k * f + m) % 65536)) H
noncomputable def spPlace : Sp := fun vs H Q _ => ∃ m s : Int, vs = [.int m, .int s] ∧ 0 < s ∧ Q (.int (m % s)) H
theorem wMark {k : Int} {t : Addr} {f m : Int} {H : Hp} {Q : VK} {E : XK} (h : H t = some (.tup [.int f, .int m])) (b : 0 ≤ f ∧ f ≤ 65535) (q : Q (.int ((k * f + m) % 65536)) H) : spMark ([.int k, .ref t] ++ []) H Q E := ⟨k, t, f, m, rfl, h, b, q⟩
theorem wPlace {m s : Int} {H : Hp} {Q : VK} {E : XK} (h : 0 < s) (q : Q (.int (m % s)) H) : spPlace ([.int m, .int s] ++ []) H Q E := ⟨m, s, rfl, h, q⟩
noncomputable def compCx (X : Cx) (scope : Scope) (cl : List (Str × Addr)) (N' : List Str) (s : Shared) (H : Hp) (fp : List Addr) (pins : List (Addr × Obj)) : Cx :=
  { X with N := N', s₀ := s, H₀ := H, env := compEnvC scope cl s.heap.objs.size X.env, outer := X.stack, stack := X.stack, ex := fp, fn := fun _ => false, pn := X.pn ++ pins, xe := fun _ _ => False }
structure CompScope (X : Cx) (scope : Scope) (cl : List (Str × Addr)) (x : Str) (js : List Nat) (N' : List Str) : Prop where
  clos : closureFor scope X.env = pure cl
  kind : scope.kind = .function
  nocell : ∀ y ∈ scope.names, y.2 ≠ .cell
  names : ∀ y ∈ scope.names, y.2 = .local → scope.names.lookup y.1 = some .local
  own : scope.names.lookup x = some .local
  sub : ∀ p ∈ cl, X.env.cells.lookup p.1 = some p.2
  has : ∀ y, ((relabel scope X.env).names.lookup y = some .cell ∨ (relabel scope X.env).names.lookup y = some .free) → ∃ c, cl.lookup y = some c
  nm : N' = x :: js.map fun j => X.N.getD j Str.empty
  see : ∀ (i j : Nat), js[i]? = some j → ∃ y, X.N[j]? = some y ∧ (X.env.kindOf y = some .cell ∨ X.env.kindOf y = some .free) ∧ ((relabel scope X.env).names.lookup y = some .cell ∨ (relabel scope X.env).names.lookup y = some .free)
noncomputable def seen (σ : L2.St) (js : List Nat) : L2.St := none :: js.map fun j => σ.getD j none
section
variable {X : Cx} {scope : Scope} {cl : List (Str × Addr)} {x : Str} {js : List Nat} {N' : List Str} {pins : List (Addr × Obj)} {σ : L2.St} {H : Hp} {s : Shared} {fp : List Addr}
theorem CompScope.sub' (S : CompScope X scope cl x js N') {y : Str} {c : Addr} (h : cl.lookup y = some c) : X.env.cells.lookup y = some c := S.sub (y, c) (PySem.mem_of_lookup h)
theorem comp_ok (S : CompScope X scope cl x js N') (I : Inv X pins σ H s) (hf : ∀ b ∈ fp, FpOk X pins H b) (ho : ∀ b ∈ fp, b < s.heap.objs.size) : (compCx X scope cl N' s H fp pins).Ok where
  mod := I.ok.mod
  kind := S.kind
  glob := I.ok.glob
  blt := I.ok.blt
  above := Nat.le_refl _
  inj := fun y z c h1 h2 => I.ok.inj y z c (S.sub' h1) (S.sub' h2)
  has := fun y h => S.has y h
  cab := fun y c h => absurd h Bool.false_ne_true
  hd := I.ok.hd
  frames := I.ok.frames
  stk := .inl rfl
  exf := fun b hb => ⟨Nat.ne_of_lt (ho b hb), fun y c h => (hf b hb).2.2.2.2.1 y c (S.sub' h)⟩
  bs := I.bs
  bsz := Nat.le_trans I.ok.bsz I.sz
  noex := fun b o e hb => by
    rcases (hf b hb).2.2.2.1 with z | z
    · exact I.ok.noex b o e z
    · exact absurd (Nat.lt_of_lt_of_le (Heap.lt_size (I.ok.bs b o e).1) z) (Nat.lt_irrefl _)
  exfs := fun b hb z => by
    rcases List.mem_cons.mp (I.stkSub b z) with e | e
    · exact (hf b hb).2.1 e
    · exact (hf b hb).2.2.1 e
  funs := I.stack
  frf := I.stkFree
theorem comp_inv (S : CompScope X scope cl x js N') (I : Inv X pins σ H s) (hf : ∀ b ∈ fp, FpOk X pins H b) (ho : ∀ b ∈ fp, b < s.heap.objs.size) {s4 : Shared} {m : Str → Option Value} (hos : s4.os = s.os) (hg : s4.gens = s.gens)
    (hn : s4.heap.Ns s.heap.objs.size m) (hk : ∀ b o, s.heap.get? b = some o → s4.heap.get? b = some o) : Inv (compCx X scope cl N' s H fp pins) [] (seen σ js) H s4 where
  ok := comp_ok S I hf ho
  os := hos
  bare := by rw [hg]; exact I.bare
  base := Un.kept hk
  loc := by
    obtain ⟨mX, _, hl⟩ := I.loc
    refine ⟨m, hn, fun i y v h1 h2 h3 => ?_⟩
    cases i with
    | zero =>
      unfold seen at h2
      simp at h2
    | succ i =>
      have h1' : N'[i + 1]? = some y := h1
      rw [S.nm, List.getElem?_cons_succ, List.getElem?_map] at h1'
      unfold seen at h2
      rw [List.getElem?_cons_succ, List.getElem?_map] at h2
      cases ej : js[i]? with
      | none => rw [ej] at h2; cases h2
      | some j =>
        rw [ej] at h1' h2
        obtain ⟨z, hz, k1, k2⟩ := S.see i j ej
        have ey : z = y := by
          have : X.N.getD j Str.empty = y := Option.some.inj h1'
          rw [List.getD_eq_getElem?_getD, hz] at this
          exact this
        subst ey
        have ev : σ[j]? = some (some v) := by
          have q : σ.getD j none = some v := Option.some.inj h2
          rw [List.getD_eq_getElem?_getD] at q
          cases e : σ[j]? with
          | none => rw [e] at q; cases q
          | some w' => rw [e] at q; exact congrArg some q
        have kx : X.env.scope.names.lookup z = some .cell ∨ X.env.scope.names.lookup z = some .free := k1
        obtain ⟨u, r, l⟩ := hl j z v hz ev (.inr kx)
        refine ⟨u, r, .inr ⟨k2, ?_⟩⟩
        obtain ⟨c, hc⟩ := S.has z k2
        rcases l with ⟨kl, _⟩ | ⟨_, c', e', cell⟩
        · rcases k1 with k1 | k1 <;> rw [k1] at kl <;> cases kl
        · have : c' = c := Option.some.inj (e'.symm.trans (S.sub' hc))
          subst this
          obtain ⟨o, q1, q2⟩ := cell
          exact ⟨c', hc, o, hk _ _ q1, q2⟩
  cell := fun y c h => by
    obtain ⟨v, o, q1, q2⟩ := I.cell y c (S.sub' h)
    exact ⟨v, o, hk _ _ q1, q2⟩
  free := I.hok.fresh (Nat.le_refl _)
  freeC := fun y c h => I.freeC y c (S.sub' h)
  pin := fun p hp => by
    have hp' : p ∈ X.pn ++ pins := by
      have q : p ∈ (X.pn ++ pins) ++ [] := hp
      rw [List.append_nil] at q
      exact q
    obtain ⟨e, n, ne, nf, d⟩ := I.pin p hp'
    refine ⟨hk _ _ e, n, Nat.ne_of_lt (Heap.lt_size e), fun z => ?_, d⟩
    rcases List.mem_cons.mp (I.stkSub p.1 z) with q | q
    · exact ne q
    · exact nf q
  hok := I.hok.kept hk
  len := by
    show (seen σ js).length = N'.length
    rw [S.nm]
    unfold seen
    simp
theorem comp_back {s' : Shared} {σ' : L2.St} {H' : Hp} {h' : Heap} (I : Inv X pins σ H s) (hf : ∀ b ∈ fp, FpOk X pins H b) (J : Inv (compCx X scope cl N' s H fp pins) [] σ' H' s') (hs : Heap.SameBut s.heap.objs.size s'.heap h') :
    Inv X pins σ H' { s' with heap := h' } := by
  have ne : ∀ b o, s.heap.get? b = some o → b ≠ s.heap.objs.size := fun b o e => Nat.ne_of_lt (Heap.lt_size e)
  have u0 : Un (frs X.stack) fp H H' s.heap s'.heap := J.base
  have u : Un (frs X.stack) fp H H' s.heap h' :=
    ⟨fun b o e n h1 h2 => (hs.2 b (ne b o e)).trans (u0.keep b o e n h1 h2), fun b o e n h1 h2 => let ⟨sl, q⟩ := u0.slot b o e n h1 h2; ⟨sl, (hs.2 b (ne b o e)).trans q⟩, u0.free,
      fun b o e h2 => let ⟨o', q⟩ := u0.there b o e h2; ⟨o', (hs.2 b (ne b o e)).trans q⟩, u0.tups, u0.frzs, u0.tbls⟩
  have hfree : H' s.heap.objs.size = none := J.free
  have hok : HOk X.prog X.w H' h' := fun b ob e => by
    refine (J.hok b ob e).stay (fun c w' hc q => (hs.2 c ?_).trans q) (fun _ q => q) fun _ _ q => q
    rintro rfl
    rcases hc with rfl | hc
    · rw [hfree] at e; cases e
    · rw [hfree] at hc; cases hc
  exact I.call' (s' := { s' with heap := h' }) J.os u hok J.bare fun b hb => ⟨(hf b hb).2.2.2.1, (hf b hb).2.1, (hf b hb).2.2.2.2.1, (hf b hb).2.2.2.2.2⟩
end
theorem comp_loop {prog : Program} {w : World} {A : Around} {R : Result → Shared → Prop} {s : Shared} {elt target iter : Expr} {ifs : List Expr} {scope : Scope} {pos : Pos} {it acc : Value} {env : Env} (I : Nat → Shared → Prop)
    (turn : ∀ n s, I n s → wpAny (model prog w) A (pyNext it) (fun r s₁ => match r with
      | none => R (.ok .next) s₁
      | some v => wpAny (model prog w) A (letOwnedTupleGo target it v) (fun _ s₁' => wpAny (model prog w) A (assign target env v) (fun _ s₂ =>
          wpAny (model prog w) A (forIn ifs true fun c r => if r = true then do let ok ← isTrue c env (eval c env); pure (ForInStep.yield ok) else pure (ForInStep.yield r)) (fun ok s₃ =>
            if ok = true then wpAny (model prog w) A (eval elt env) (fun x s₄ =>
              wpAny (model prog w) A (call (.builtin "list.append") [acc, x]) (fun _ s₅ => ∃ m, m < n ∧ I m s₅) (fun _ _ => False) s₄) (fun _ _ => False) s₃
            else ∃ m, m < n ∧ I m s₃) (fun _ _ => False) s₂) (fun _ _ => False) s₁') (fun _ _ => False) s₁) (fun _ _ => False) s)
    (n : Nat) (h : I n s) : codeAny (model prog w) A (.compLoop (.ListComp elt [⟨target, iter, ifs, 0⟩] scope pos) 0 it acc env) R s := by
  refine codeAny_loop rfl I (fun n s hI => ?_) n h
  show wpAny _ A ((compTurn (.ListComp elt [⟨target, iter, ifs, 0⟩] scope pos) 0 it acc env).onRaise (fun x => do noteFrame x env; theTreesLotGoes x)) _ _ s
  refine wpAny_noted ?_
  rw [compTurn_list]
  refine wpAny_bind (wpAny_standAt (wpAny_bind (wpAny_mono (turn n s hI) (fun r s₁ h₁ => ?_) fun _ _ h' => h'.elim)))
  cases r with
  | none => exact wpAny_pure h₁
  | some v =>
    refine wpAny_bind (wpAny_mono h₁ (fun _ s₁' h₁' => ?_) fun _ _ h' => h'.elim)
    refine wpAny_bind (wpAny_mono h₁' (fun _ s₂ h₂ => wpAny_bind (wpAny_mono h₂ (fun ok s₃ h₃ => ?_) fun _ _ h' => h'.elim)) fun _ _ h' => h'.elim)
    cases ok with
    | false => exact wpAny_pure ⟨rfl, h₃⟩
    | true =>
      exact wpAny_bind (wpAny_bind (wpAny_mono h₃ (fun x s₄ h₄ => wpAny_bind (wpAny_mono h₄ (fun _ s₅ h₅ => wpAny_pure (wpAny_pure ⟨rfl, h₅⟩)) fun _ _ h' => h'.elim)) fun _ _ h' => h'.elim))
noncomputable def PTs (X : Cx) (ifs : List Expr) (t : TT) : Prop :=
  ∀ (pins : List (Addr × Obj)) (s : Shared) (σ : L2.St) (H : Hp) (Q : Bool → Hp → Prop) (E : Value → Shared → Prop), (∀ e s', X.xe e s' → E e s') → Inv X pins σ H s → t σ H Q →
    wpAny (model X.prog X.w) X.A (forIn ifs true fun c r => if r = true then do let ok ← isTrue c X.env (eval c X.env); pure (ForInStep.yield ok) else pure (ForInStep.yield r)) (TP X pins σ Q) E s
theorem pts_nil {X : Cx} : PTs X [] (fun _ H Q => Q true H) := fun _ _ _ H _ _ _ I h => wpAny_tests_nil ⟨H, I, h⟩
theorem pts_one {X : Cx} {c : Expr} {tc : TT} (hc : PT X c tc) : PTs X [c] tc := fun pins s σ H Q E hE I h => wpAny_tests_one (wpAny_mono (hc pins s σ H Q I h) (fun _ _ q => q) hE)
noncomputable def tComp (js : List Nat) (wi : TI) (tt : TT) (te : TE) : TE := fun σ H Q => wi σ H fun J H1 => ∀ D, H1 D = none → ∃ W : Nat → Nat → L2.St → Hp → Prop, (∃ m, W 0 m (seen σ js) (upd H1 D (.lst []))) ∧
  ∀ i m σ' H', W i m σ' H' → (J.stop i H' ∧ Q (.ref D) H') ∨ (J.go i H' ∧ ∀ x H2, J.yld i H' x H2 → tt (σ'.set 0 (some x)) H2 fun ok H3 =>
    if ok = true then te (σ'.set 0 (some x)) H3 fun y H4 => ∃ ys, H4 D = some (.lst ys) ∧ ys.length < sizeLine ∧ ∃ m', m' < m ∧ W (i + 1) m' (σ'.set 0 (some x)) (upd H4 D (.lst (ys ++ [y])))
    else ∃ m', m' < m ∧ W (i + 1) m' (σ'.set 0 (some x)) H3)
section
variable {X : Cx} {scope : Scope} {cl : List (Str × Addr)} {x : Str} {js : List Nat} {N' : List Str} {elt iter : Expr} {ifs : List Expr} {px pos : Pos} {wi : TI} {tt : TT} {te : TE}
theorem comp_core {RR : Value → Addr → Result → Shared → Prop} {pins : List (Addr × Obj)} {σ : L2.St} {H2 : Hp} {s2 : Shared} {Q : VK} {it : Addr} {fp : List Addr} {tn : Nat → Heap → Prop} {J : It} (S : CompScope X scope cl x js N') (nd : N'.Nodup) (hc : X.calm = true)
    (ht : ∀ s H fp pins, PTs (compCx X scope cl N' s H fp pins) ifs tt) (he : ∀ s H fp pins, PE (compCx X scope cl N' s H fp pins) elt te)
    (I2 : Inv X pins σ H2 s2) (T : Turn X.prog X.w X.K (.Name x px) J fp it tn) (st2 : tn 0 s2.heap) (f2 : ∀ b ∈ fp, FpOk X pins H2 b)
    (k : ∀ D, H2 D = none → ∃ W : Nat → Nat → L2.St → Hp → Prop, (∃ m, W 0 m (seen σ js) (upd H2 D (.lst []))) ∧
      ∀ i m σ' H', W i m σ' H' → (J.stop i H' ∧ Q (.ref D) H') ∨ (J.go i H' ∧ ∀ x H2, J.yld i H' x H2 → tt (σ'.set 0 (some x)) H2 fun ok H3 =>
        if ok = true then te (σ'.set 0 (some x)) H3 fun y H4 => ∃ ys, H4 D = some (.lst ys) ∧ ys.length < sizeLine ∧ ∃ m', m' < m ∧ W (i + 1) m' (σ'.set 0 (some x)) (upd H4 D (.lst (ys ++ [y])))
        else ∃ m', m' < m ∧ W (i + 1) m' (σ'.set 0 (some x)) H3))
    (fin : ∀ (D C : Addr) (s6 : Shared) (H6 : Hp) (m : Str → Option Value), s6.heap.Ns C m → (∀ h', Heap.SameBut C s6.heap h' → Inv X pins σ H6 { s6 with heap := h' }) → H6 C = none → FpOk X pins H6 C → Q (.ref D) H6 → RR (.ref D) C (.ok .next) s6) :
    wpAny (model X.prog X.w) X.A (newList []) (fun acc s₃ => wpAny (model X.prog X.w) X.A (newFunctionEnv scope X.env.globals cl [] X.env.qual none .none (some X.env)) (fun cenv s₄ =>
      codeAny (model X.prog X.w) X.A (.compStart (.ListComp elt [⟨.Name x px, iter, ifs, 0⟩] scope pos) 0 (.ref it) acc { cenv with scope := relabel scope X.env }) (RR acc cenv.locals) s₄) X.xe s₃) X.xe s2 := by
  have hDn : H2 s2.heap.objs.size = none := I2.hok.fresh (Nat.le_refl _)
  obtain ⟨W, ⟨m0, w0⟩, turn⟩ := k s2.heap.objs.size hDn
  refine wpAny_newObj_type (wpAny_newFunctionEnv S.nocell (by intro y hy; simp at hy) (fun h4 hns4 hsb4 => ?_) S.kind) (by show 0 ≤ sizeLine; exact Nat.zero_le _)
  have I3 : Inv X pins σ (upd H2 s2.heap.objs.size (.lst [])) { s2 with heap := s2.heap.push { cls := .type "list", dict := none, data := .seq ([] : List Value).toArray } } :=
    I2.laid (t' := s2.toks) (fun b u e => Heap.get?_push_of_some _ e) (Nat.le_refl _) ⟨Nat.zero_le _, [], 0, .nil, Heap.get?_push_size _ rfl⟩
  have ltf : ∀ b ∈ fp, b < s2.heap.objs.size := fun b hb => let ⟨o, e, _⟩ := T.obj 0 _ st2 b hb; Heap.lt_size e
  have f3 : ∀ b ∈ fp, FpOk X pins (upd H2 s2.heap.objs.size (.lst [])) b := fun b hb => ⟨by rw [upd_ne (Nat.ne_of_lt (ltf b hb))]; exact (f2 b hb).1, (f2 b hb).2⟩
  generalize hH : upd H2 s2.heap.objs.size (.lst []) = H3 at *
  generalize hS3 : ({ s2 with heap := s2.heap.push { cls := .type "list", dict := none, data := .seq ([] : List Value).toArray } } : Shared) = s3 at *
  have o3 : ∀ b ∈ fp, b < s3.heap.objs.size := fun b hb => by
    rw [← hS3]
    show b < (s2.heap.push _).objs.size
    rw [Heap.size_push]
    exact Nat.lt_succ_of_lt (ltf b hb)
  have k4 : ∀ b o, s3.heap.get? b = some o → h4.get? b = some o := fun b o e => (hsb4.2 b (Nat.ne_of_lt (Heap.lt_size e))).trans (Heap.get?_push_of_some _ e)
  have st3 : tn 0 s3.heap := T.keep 0 _ _ st2 fun b hb o e => by rw [← hS3]; exact Heap.get?_push_of_some _ e
  have st4 : tn 0 h4 := T.keep 0 _ _ st3 fun b hb o e => k4 b o e
  have I4 : Inv (compCx X scope cl N' s3 H3 fp pins) [] (seen σ js) H3 { s3 with heap := h4, toks := s3.toks + ([] : List (Str × Value)).length } := comp_inv S I3 f3 o3 rfl rfl hns4 k4
  have ok := comp_ok S I3 f3 o3
  have fp5 : ∀ {H' : Hp}, (∀ b ∈ fp, H' b = none) → ∀ b ∈ fp, FpOk (compCx X scope cl N' s3 H3 fp pins) [] H' b := fun hn b hb =>
    ⟨hn b hb, Nat.ne_of_lt (o3 b hb), ok.exfs b hb, .inl hb, fun y c h => (f3 b hb).2.2.2.2.1 y c (S.sub' h), fun p hp => (f3 b hb).2.2.2.2.2 p (by
      have q : p ∈ (X.pn ++ pins) ++ [] := hp
      rw [List.append_nil] at q
      exact q)⟩
  have loop : codeAny (model X.prog X.w) X.A (.compLoop (.ListComp elt [⟨.Name x px, iter, ifs, 0⟩] scope pos) 0 (.ref it) (.ref s2.heap.objs.size) (compEnvC scope cl s3.heap.objs.size X.env))
      (RR (.ref s2.heap.objs.size) s3.heap.objs.size) { s3 with heap := h4, toks := s3.toks + ([] : List (Str × Value)).length } := by
    refine comp_loop (fun n s' => ∃ i σ' H', Inv (compCx X scope cl N' s3 H3 fp pins) [] σ' H' s' ∧ tn i s'.heap ∧ (∀ b ∈ fp, H' b = none) ∧ W i n σ' H') ?_ m0 ⟨0, _, _, I4, st4, fun b hb => (f3 b hb).1, w0⟩
    rintro n s5 ⟨i, σ5, H5, I5, st5, fr5, w5⟩
    rcases turn i n σ5 H5 w5 with ⟨stop, q⟩ | ⟨go, step⟩
    · refine wpAny_mono (T.done (compCx X scope cl N' s3 H3 fp pins) rfl rfl rfl hc i [] s5 σ5 H5 (fun _ _ => False) I5 (fp5 fr5) st5 stop) (fun r s6 ⟨hr, I6⟩ => ?_) (fun _ _ z => z.elim)
      subst hr
      obtain ⟨m, hm, _⟩ := I6.loc
      exact fin _ _ s6 H5 m hm (fun h' hs' => comp_back I3 f3 I6 hs') I6.free (I3.fpOk (Nat.le_refl _) I6.free) q
    · refine wpAny_mono (T.item (compCx X scope cl N' s3 H3 fp pins) rfl rfl rfl hc i [] s5 σ5 H5 (fun _ _ => False) I5 (fp5 fr5) st5 go) (fun r s6 ⟨u, hr, h6⟩ => ?_) (fun _ _ z => z.elim)
      subst hr
      refine wpAny_mono h6 (fun _ s6 ⟨y, H6, I6, r6, y6, st6, fr6⟩ => ?_) (fun _ _ z => z.elim)
      have I6' := I6.pinned (fp5 fr6) (T.obj _ _ st6)
      have again : ∀ {σ7 : L2.St} {H7 : Hp} {s7 : Shared} {m' : Nat}, Inv (compCx X scope cl N' s3 H3 fp pins) ([] ++ pinsAt fp s6.heap) σ7 H7 s7 → m' < n → W (i + 1) m' σ7 H7 →
          ∃ m, m < n ∧ ∃ i σ' H', Inv (compCx X scope cl N' s3 H3 fp pins) [] σ' H' s7 ∧ tn i s7.heap ∧ (∀ b ∈ fp, H' b = none) ∧ W i m σ' H' := fun {σ7 H7 s7 m'} I7 hm w7 => by
        refine ⟨m', hm, i + 1, σ7, H7, I7.unpinned, T.keep _ _ _ st6 fun b hb o e => (I7.pin (b, o) (List.mem_append_right _ (List.mem_append_right _ (mem_pinsAt hb e)))).1, fun b hb => ?_, w7⟩
        obtain ⟨o, e, d⟩ := T.obj _ _ st6 b hb
        exact (I7.pin (b, o) (List.mem_append_right _ (List.mem_append_right _ (mem_pinsAt hb e)))).2.1
      have step' := step y H6 y6
      refine wpAny_mono (pg_name (X := compCx X scope cl N' s3 H3 fp pins) (i := 0) (x := x) (pos := px) nd (by show N'[0]? = some x; rw [S.nm]; rfl) (.inl (lookup_relabel_local S.own)) (.inr (lookup_relabel_local S.own)) _ s6 σ5 H6 y u
        (fun σ' H' => σ' = σ5.set 0 (some y) ∧ H' = H6) I6' r6 ⟨rfl, rfl⟩) (fun _ s7 ⟨σ7, H7, I7, e7, eH⟩ => ?_) (fun _ _ z => z.elim)
      subst e7
      subst eH
      refine wpAny_mono (ht s3 H3 fp pins _ s7 _ H7 _ (fun _ _ => False) (fun _ _ z => z) I7 step') (fun okk s8 ⟨H8, I8, q8⟩ => ?_) (fun _ _ z => z.elim)
      cases okk with
      | false =>
        obtain ⟨m', hm, w8⟩ := q8
        exact again I8 hm w8
      | true =>
        refine wpAny_mono (he s3 H3 fp pins _ s8 _ H8 _ I8 q8) (fun ev s9 ⟨z, H9, I9, r9, ys, hys, hlen, m', hm, w9⟩ => ?_) (fun _ _ z => z.elim)
        refine wpAny_mono (mt_append (X := compCx X scope cl N' s3 H3 fp pins) _ s9 _ H9 (.ref s2.heap.objs.size) [z] (.ref s2.heap.objs.size) [ev] (fun _ H' => H' = upd H9 s2.heap.objs.size (.lst (ys ++ [z]))) I9 rfl (.cons r9 .nil)
          ⟨_, ys, z, rfl, rfl, hys, hlen, rfl⟩) (fun _ s10 ⟨_, H10, I10, _, e10⟩ => ?_) (fun _ _ z => z.elim)
        subst e10
        exact again I10 hm w9
  exact codeAny_compStart_list loop (T.self X.A 0 _ _ _ st4 loop)
theorem pe_comp (S : CompScope X scope cl x js N') (nd : N'.Nodup) (hc : X.calm = true) (hi : PI X (.Name x px) iter wi)
    (ht : ∀ s H fp pins, PTs (compCx X scope cl N' s H fp pins) ifs tt) (he : ∀ s H fp pins, PE (compCx X scope cl N' s H fp pins) elt te)
    (hs : ∀ x, foldedSetIterable iter X.env x = pure x := by intro _; rfl) : PE X (.ListComp elt [⟨.Name x px, iter, ifs, 0⟩] scope pos) (tComp js wi tt te) := by
  intro pins s σ H Q I h
  rw [eval_ListComp]
  refine wpAny_comprehension_free (use := none) rfl hs S.clos S.kind S.names (thn (hi pins s σ H _ I h) fun v s1 h1 => thn h1 fun itv s2 h2 => ?_)
  obtain ⟨it, fp, tn, J, H2, e, I2, T, st2, f2, k⟩ := h2
  subst e
  exact comp_core (RR := fun acc C => compPost (model X.prog X.w) X.A X.xe none (EP X pins σ Q) acc C) S nd hc ht he I2 T st2 f2 k fun D C s6 H6 m hm back _ _ q => ⟨m, hm, fun h' hs' => ⟨.ref D, H6, back h' hs', rfl, q⟩⟩
noncomputable def tCompSet (i : Nat) (t : TE) : TS := fun D σ H => t σ H fun v H1 => D.nx (σ.set i (some v)) H1
theorem ps_compSet {i : Nat} {y : Str} {py spos : Pos} (S : CompScope X scope cl x js N') (nd : N'.Nodup) (hc : X.calm = true) (hi : PI X (.Name x px) iter wi)
    (ht : ∀ s H fp pins, PTs (compCx X scope cl N' s H fp pins) ifs tt) (he : ∀ s H fp pins, PE (compCx X scope cl N' s H fp pins) elt te)
    (hN : X.N.Nodup) (hy : X.N[i]? = some y) (hl : Loc X.env.scope y) (hf : X.fn y = true ∨ X.env.scope.names.lookup y = some .local)
    (hsw : swapsWith (.ListComp elt [⟨.Name x px, iter, ifs, 0⟩] scope pos) (some (.Name y py)) spos.line X.env = pure true)
    (hs : ∀ x, foldedSetIterable iter X.env x = pure x := by intro _; rfl) : PS X (.Assign [.Name y py] (.ListComp elt [⟨.Name x px, iter, ifs, 0⟩] scope pos) spos) (tCompSet i (tComp js wi tt te)) := by
  intro pins s σ H D I h
  rw [exec_Assign_Name_used _ _ _ _ hsw]
  refine wpAny_bind (wpAny_standAt (wpAny_bind ?_))
  show wpAny _ X.A (do let _ ← comprehension (.ListComp elt [⟨.Name x px, iter, ifs, 0⟩] scope pos) scope X.env _ (newList []) false (eval iter X.env) (some (assign (.Name y py) X.env))) _ _ s
  refine wpAny_bind (wpAny_mono (wpAny_comprehension_free (use := some (assign (.Name y py) X.env)) (Q := fun _ s' => SP X pins D .next s') rfl hs S.clos S.kind S.names
    (thn (hi pins s σ H _ I h) fun v s1 h1 => thn h1 fun itv s2 h2 => ?_)) (fun _ s' hq => wpAny_pure (wpAny_pure hq)) fun _ _ e => e)
  obtain ⟨it, fp, tn, J, H2, e, I2, T, st2, f2, k⟩ := h2
  subst e
  refine comp_core (Q := fun v H1 => D.nx (σ.set i (some v)) H1) (RR := fun acc C => compPost (model X.prog X.w) X.A X.xe (some (assign (.Name y py) X.env)) (fun _ s' => SP X pins D .next s') acc C) S nd hc ht he I2 T st2 f2 k fun A C s6 H6 m hm back hC fC q => ?_
  have I6 : Inv X pins σ H6 s6 := back s6.heap (Heap.SameBut.refl ..)
  obtain ⟨oC, es, ep, hoC, hdC, hr⟩ := id hm
  have I7 : Inv X (pins ++ [(C, oC)]) σ H6 s6 := I6.pins_of fun p hp => by
    rcases List.mem_append.mp hp with z | z
    · exact I6.pin p (List.mem_append_right _ z)
    · rw [List.mem_singleton.mp z]
      exact ⟨hoC, hC, fC.2.1, fC.2.2.1, fun v e => by rw [hdC] at e; cases e⟩
  show wpAny _ X.A (assign (.Name y py) X.env (.ref A)) _ _ s6
  refine thn (pg_name hN hy hl hf _ s6 σ H6 (.ref A) (.ref A) (fun σ' H' => σ' = σ.set i (some (.ref A)) ∧ H' = H6) I7 rfl ⟨rfl, rfl⟩) fun _ s8 zz => ?_
  obtain ⟨σ8, H8, I8, e8, e9⟩ := zz
  subst e8
  subst e9
  have h8 : s8.heap.get? C = some oC := (I8.pin (C, oC) (List.mem_append_right _ (List.mem_append_right _ (List.mem_singleton.mpr rfl)))).1
  refine ⟨m, ⟨oC, es, ep, h8, hdC, hr⟩, fun h' hs' => ⟨_, H8, ?_, q⟩⟩
  have I9 : Inv X pins (σ.set i (some (.ref A))) H8 s8 := I8.pins_of fun p hp => I8.pin p (List.mem_append_right _ (List.mem_append_left _ hp))
  exact I9.turned (t' := s8.toks) (fun b o hb e => (hs'.2 b hb).trans e) hC fC.2.1 fC.2.2.2.1 fC.2.2.2.2.1 fC.2.2.2.2.2
end
noncomputable def SubCl (cells : List (Str × Addr)) : List (Str × Addr) → Prop
  | [] => True
  | p :: r => cells.lookup p.1 = some p.2 ∧ SubCl cells r
theorem SubCl.all {cells : List (Str × Addr)} : ∀ {cl : List (Str × Addr)}, SubCl cells cl → ∀ p ∈ cl, cells.lookup p.1 = some p.2
  | _ :: _, h, p, hp => by
    rcases List.mem_cons.mp hp with rfl | hp
    · exact h.1
    · exact SubCl.all h.2 p hp
noncomputable def isCF (k : Option NameKind) : Bool := k == some .cell || k == some .free
theorem isCF_of {k : Option NameKind} (h : isCF k = true) : k = some .cell ∨ k = some .free := by
  unfold isCF at h
  rw [Bool.or_eq_true] at h
  exact h.imp beq_iff_eq.mp beq_iff_eq.mp
theorem CompScope.of {X : Cx} {scope : Scope} {cl : List (Str × Addr)} {x : Str} {js : List Nat} {N' : List Str} (clos : closureFor scope X.env = pure cl) (kind : scope.kind = .function) (nocell : scope.names.all (fun y => y.2 != .cell) = true)
    (names : scope.names.all (fun y => y.2 != .local || scope.names.lookup y.1 == some .local) = true) (own : scope.names.lookup x = some .local) (sub : SubCl X.env.cells cl)
    (has : (relabel scope X.env).names.all (fun p => !isCF (some p.2) || (cl.lookup p.1).isSome) = true) (nm : N' = x :: js.map fun j => X.N.getD j Str.empty)
    (see : js.all (fun j => match X.N[j]? with | some y => isCF (X.env.kindOf y) && isCF ((relabel scope X.env).names.lookup y) | none => false) = true) : CompScope X scope cl x js N' where
  clos := clos
  kind := kind
  nocell := fun y hy => by
    have := List.all_eq_true.mp nocell y hy
    exact bne_iff_ne.mp this
  names := fun y hy e => by
    have := List.all_eq_true.mp names y hy
    rw [e] at this
    exact beq_iff_eq.mp (by simpa using this)
  own := own
  sub := sub.all
  has := fun y h => by
    have go : ∀ k, (relabel scope X.env).names.lookup y = some k → isCF (some k) = true → ∃ c, cl.lookup y = some c := fun k hk hc => by
      have := List.all_eq_true.mp has (y, k) (PySem.mem_of_lookup hk)
      simp only [hc, Bool.not_true, Bool.false_or] at this
      exact Option.isSome_iff_exists.mp this
    rcases h with h | h
    · exact go _ h rfl
    · exact go _ h rfl
  nm := nm
  see := fun i j e => by
    have := List.all_eq_true.mp see j (List.mem_of_getElem? e)
    cases ey : X.N[j]? with
    | none => rw [ey] at this; cases this
    | some y =>
      rw [ey] at this
      rw [Bool.and_eq_true] at this
      exact ⟨y, rfl, isCF_of this.1, isCF_of this.2⟩
namespace B
section
variable {X : Cx} {scope : Scope} {cl : List (Str × Addr)} {x : Str} {N' : List Str} {elt iter c : Expr} {px pos : Pos} {wi : TI} {te : TE} {tc : TT}
theorem comp (js : List Nat) (N' : List Str) (S : CompScope X scope cl x js N') (nd : N'.Nodup) (hi : Bx (PI X (.Name x px) iter wi)) (he : ∀ s H fp pins, Bx (PE (compCx X scope cl N' s H fp pins) elt te)) (hc : X.calm = true := by rfl)
    (hs : ∀ x, foldedSetIterable iter X.env x = pure x := by intro _; rfl) : Bx (PE X (.ListComp elt [⟨.Name x px, iter, [], 0⟩] scope pos) (tComp js wi (fun _ H Q => Q true H) te)) :=
  ⟨pe_comp S nd hc hi.out (fun _ _ _ _ => pts_nil) (fun s H fp pins => (he s H fp pins).out) hs⟩
theorem compIf (js : List Nat) (N' : List Str) (S : CompScope X scope cl x js N') (nd : N'.Nodup) (hi : Bx (PI X (.Name x px) iter wi)) (hcc : ∀ s H fp pins, Bx (PT (compCx X scope cl N' s H fp pins) c tc)) (he : ∀ s H fp pins, Bx (PE (compCx X scope cl N' s H fp pins) elt te)) (hc : X.calm = true := by rfl)
    (hs : ∀ x, foldedSetIterable iter X.env x = pure x := by intro _; rfl) : Bx (PE X (.ListComp elt [⟨.Name x px, iter, [c], 0⟩] scope pos) (tComp js wi tc te)) :=
  ⟨pe_comp S nd hc hi.out (fun s H fp pins => pts_one (hcc s H fp pins).out) (fun s H fp pins => (he s H fp pins).out) hs⟩
theorem compSet (i : Nat) (js : List Nat) (N' : List Str) {y : Str} {py spos : Pos} (S : CompScope X scope cl x js N') (nd : N'.Nodup) (hN : X.N.Nodup) (hi : Bx (PI X (.Name x px) iter wi)) (he : ∀ s H fp pins, Bx (PE (compCx X scope cl N' s H fp pins) elt te)) (hc : X.calm = true := by rfl)
    (hy : X.N[i]? = some y := by rfl) (hl : Loc X.env.scope y := by first | exact Or.inl rfl | exact Or.inr rfl) (hf : X.fn y = true ∨ X.env.scope.names.lookup y = some .local := by first | exact .inl rfl | exact .inr rfl)
    (hsw : swapsWith (.ListComp elt [⟨.Name x px, iter, [], 0⟩] scope pos) (some (.Name y py)) spos.line X.env = pure true := by rfl)
    (hs : ∀ x, foldedSetIterable iter X.env x = pure x := by intro _; rfl) : Bx (PS X (.Assign [.Name y py] (.ListComp elt [⟨.Name x px, iter, [], 0⟩] scope pos) spos) (tCompSet i (tComp js wi (fun _ H Q => Q true H) te))) :=
  ⟨ps_compSet S nd hc hi.out (fun _ _ _ _ => pts_nil) (fun s H fp pins => (he s H fp pins).out) hN hy hl hf hsw hs⟩
end
end B
section
variable {X : Cx}
end
theorem wComp {σ : L2.St} {H : Hp} {Q : VK} {js : List Nat} {wi : TI} {tt : TT} {te : TE} (h : wi σ H fun J H1 => ∀ D, H1 D = none → ∃ W : Nat → Nat → L2.St → Hp → Prop, (∃ m, W 0 m (seen σ js) (upd H1 D (.lst []))) ∧
  ∀ i m σ' H', W i m σ' H' → (J.stop i H' ∧ Q (.ref D) H') ∨ (J.go i H' ∧ ∀ x H2, J.yld i H' x H2 → tt (σ'.set 0 (some x)) H2 fun ok H3 =>
    if ok = true then te (σ'.set 0 (some x)) H3 fun y H4 => ∃ ys, H4 D = some (.lst ys) ∧ ys.length < sizeLine ∧ ∃ m', m' < m ∧ W (i + 1) m' (σ'.set 0 (some x)) (upd H4 D (.lst (ys ++ [y])))
    else ∃ m', m' < m ∧ W (i + 1) m' (σ'.set 0 (some x)) H3)) : tComp js wi tt te σ H Q := h
theorem ix_tupK (K : PySem.W.Frag) {X : Cx} (h : X.K = K := by rfl) : IxR X (rIxT K) := by subst h; exact ix_tup
theorem call_isiK (K : PySem.W.Frag) {X : Cx} (h : X.K = K := by rfl) : CallR X (.builtin "isinstance") (fun xs H Q => ∃ x T t b, xs = [x, .ty T] ∧ TyOf K H x t ∧ PySem.W.kitOne K t (.type T) = some b ∧ Q (.bl b) H) := by subst h; exact call_isi
mutual
inductive DatV (K : PySem.W.Frag) (H : Hp) : V → PyData → Prop
  | non : DatV K H .non .none
  | bl (b : Bool) : DatV K H (.bl b) (.bool b)
  | int (i : Int) : DatV K H (.int i) (.int i)
  | str (x : PySem.Str) : DatV K H (.str x) (.str x)
  | lst {a : Addr} {xs : List V} {ds : List PyData} (h : SqL K H a xs) (r : DatVs K H xs ds) : DatV K H (.ref a) (.list ds)
  | tup {a : Addr} {xs : List V} {ds : List PyData} (h : SqT K H a xs) (r : DatVs K H xs ds) : DatV K H (.ref a) (.tuple ds)
inductive DatVs (K : PySem.W.Frag) (H : Hp) : List V → List PyData → Prop
  | nil : DatVs K H [] []
  | cons {x : V} {xs : List V} {d : PyData} {ds : List PyData} (h : DatV K H x d) (r : DatVs K H xs ds) : DatVs K H (x :: xs) (d :: ds)
end
section
variable {X : Cx} {pins : List (Addr × Obj)} {σ : L2.St} {H : Hp} {s : Shared}
mutual
theorem reads_of (I : Inv X pins σ H s) : ∀ {v : V} {d : PyData} {u : Value}, DatV X.K H v d → RelV v u → ∃ as, Reads s.heap u d as
  | _, _, u, .non, r => by
    cases (show u = Value.none from r)
    exact ⟨_, .none⟩
  | _, _, u, .bl b, r => by
    cases (show u = Value.bool b from r)
    exact ⟨_, .bool b⟩
  | _, _, u, .int i, r => by
    obtain ⟨t, e⟩ := (show ∃ t, u = Value.int i t from r)
    cases e
    exact ⟨_, .int i t⟩
  | _, _, u, .str x, r => by
    obtain ⟨t, e⟩ := (show ∃ t, u = Value.str x t from r)
    cases e
    exact ⟨_, .str x t⟩
  | _, _, u, .lst (a := a) h q, r => by
    cases (show u = Value.ref a from r)
    obtain ⟨its, rv, ⟨o, n, e, c, _, d⟩, _⟩ := I.list h
    obtain ⟨as, z⟩ := reads_all I q rv
    exact ⟨_, .list e c d (by simpa using z)⟩
  | _, _, u, .tup (a := a) h q, r => by
    cases (show u = Value.ref a from r)
    obtain ⟨its, rv, ⟨o, e, c, n, d⟩, _⟩ := I.tuple h
    obtain ⟨as, z⟩ := reads_all I q rv
    exact ⟨_, .tuple e c d (by simpa using z)⟩
theorem reads_all (I : Inv X pins σ H s) : ∀ {xs : List V} {ds : List PyData} {us : List Value}, DatVs X.K H xs ds → Vals xs us → ∃ as, ReadsAll s.heap us ds as
  | _, _, _, .nil, .nil => ⟨_, .nil⟩
  | _, _, _, .cons h r, .cons q qs => by
    obtain ⟨a1, z1⟩ := reads_of I h q
    obtain ⟨a2, z2⟩ := reads_all I r qs
    exact ⟨_, .cons z1 z2⟩
end
noncomputable def rNeD (K : PySem.W.Frag) : R2 := fun x y H Q => ∃ d e, DatV K H x d ∧ DatV K H y e ∧ d.canLay0 = true ∧ e.canLay0 = true ∧ d.depth ≤ 60 ∧ Q (.bl (!PyData.eqv d e)) H
theorem op_neD (K : PySem.W.Frag) (hu : X.A.units + 64 < cLine) (hK : X.K = K := by rfl) : OpR X (compareOp .NotEq) (rNeD K) := by
  subst hK
  intro pins s σ H x y v u Q I rx ry h
  obtain ⟨d, e, hd, he, c1, c2, dp, q⟩ := h
  obtain ⟨as, r1⟩ := reads_of I hd rx
  obtain ⟨bs, r2⟩ := reads_of I he ry
  exact SeqAt.compareNe_reads r1 r2 c1 c2 (by omega) ⟨.bl _, H, I, rfl, q⟩
end
section
variable {X : Cx} {pins : List (Addr × Obj)} {σ : L2.St} {H N : Hp} {s : Shared} {h' : Heap}
end
section
variable {X : Cx}
end
section
variable {X : Cx} {o : Expr} {apos cpos : Pos} {td : TE}
namespace B
end B
end
namespace B
section
variable {X : Cx} {x m f : Str} {p pos apos cpos tpos pos' : Pos} {e o i value : Expr} {es : List Expr} {t : TA} {ta te ti tv td ty tx : TE} {k : Nat} {ps : List Str} {sp : Sp} {C : Addr}
theorem gref {a : Addr} (h : X.mg x = some (.ref a)) (hg : Gl X x := by rfl) (hd : (x == ("__debug__" : Str)) = false := by decide) : Bx (PE X (.Name x pos) (tC (.ref a))) := ⟨pe_glob hg h rfl hd⟩
theorem dnew : Bx (PE X (.Dict [] [] pos) tDNewK) := ⟨pe_dnewK⟩
theorem dput (hu : X.A.units + 1 < cLine) (ho : Bx (PE X o td)) (hi : Bx (PE X i ty)) (hv : Bx (PE X value tv)) (hs : swapsWith value (some (.Subscript o i pos')) pos.line X.env = pure false := by rfl) : Bx (PS X (.Assign [.Subscript o i pos'] value pos) (sDPut td ty tv)) := ⟨ps_dput hu ho.out hi.out hv.out hs⟩
end
end B
theorem b_list : bootBuiltins "list" = some (.type "list") := by decide +kernel
namespace B
end B
end SW

set_option Elab.async false
set_option linter.all false
set_option maxRecDepth 100000
namespace SW
open PySem PySem.Spec PyProof.Rows L2

noncomputable abbrev MRow := List (Int × Int)
noncomputable abbrev MRows := List MRow
noncomputable def plc (f m : Int) (n : Nat) (k : Int) : Nat := ((k * f + m) % 65536 % (n : Int)).toNat
theorem plc_int {f m : Int} {n : Nat} {k : Int} (h : 0 < n) : ((plc f m n k : Nat) : Int) = (k * f + m) % 65536 % (n : Int) := by
  unfold plc
  rw [Int.toNat_of_nonneg (Int.emod_nonneg _ (by omega))]
theorem plc_lt {f m : Int} {n : Nat} {k : Int} (h : 0 < n) : plc f m n k < n := by
  have e := plc_int (f := f) (m := m) (k := k) h
  have := Int.emod_lt_of_pos ((k * f + m) % 65536) (show (0 : Int) < n by omega)
  omega
noncomputable def tot (R : MRows) : Nat := (R.map List.length).sum
theorem getD_get {R : MRows} {i : Nat} (h : i < R.length) : R[i]? = some (R.getD i []) := by
  rw [List.getD_eq_getElem?_getD, List.getElem?_eq_getElem h]
  rfl
noncomputable def Fr (F : Addr → Prop) (H H' : Hp) : Prop := ∀ b o, ¬ F b → H b = some o → H' b = some o
noncomputable def PrV (H : Hp) (v : V) (p : Int × Int) : Prop := ∃ a, v = .ref a ∧ H a = some (.tup [.int p.1, .int p.2])
noncomputable abbrev Prs (H : Hp) (xs : List V) (r : MRow) : Prop := Paired (PrV H) xs r
theorem PrV.keep {H H' : Hp} {v : V} {p : Int × Int} (h : PrV H v p) (k : ∀ a xs, H a = some (.tup xs) → H' a = some (.tup xs)) : PrV H' v p := by
  obtain ⟨a, e, h⟩ := h
  exact ⟨a, e, k a _ h⟩
theorem Prs.keep {H H' : Hp} {xs : List V} {r : MRow} (h : Prs H xs r) (k : ∀ a xs, H a = some (.tup xs) → H' a = some (.tup xs)) : Prs H' xs r := Paired.mapP h fun _ _ z => z.keep k


noncomputable def isSize (n : Nat) : Prop := n ∈ [4, 8, 16, 32, 64, 128, 256, 512, 1024, 2048, 4096]
section
variable {D : Ends} {σ : L2.St} {H : Hp} {Q : VK} {v : V} {K : PySem.W.Frag} {C : Addr} {E : XK}
end
end SW
namespace SW
open PySem PySem.Spec PyProof.Rows L2
noncomputable def CN (Pv : Nat → L2.St → Hp → Prop) (n i : Nat) (D : Addr) (σ : L2.St) (y : V) (H4 : Hp) : Prop := ∃ ys, H4 D = some (.lst ys) ∧ ys.length < sizeLine ∧ ∃ m', m' < n - i ∧ (m' = n - (i + 1) ∧ i + 1 ≤ n ∧ Pv (i + 1) σ (upd H4 D (.lst (ys ++ [y]))))
noncomputable def CO (Pv : Nat → L2.St → Hp → Prop) (n i : Nat) (σ : L2.St) (H3 : Hp) : Prop := ∃ m', m' < n - i ∧ (m' = n - (i + 1) ∧ i + 1 ≤ n ∧ Pv (i + 1) σ H3)
theorem CN.mk {Pv : Nat → L2.St → Hp → Prop} {n i : Nat} {D : Addr} {σ : L2.St} {y : V} {H4 : Hp} {ys : List V} (hi : i < n) (hD : H4 D = some (.lst ys)) (hl : ys.length < sizeLine) (h : Pv (i + 1) σ (upd H4 D (.lst (ys ++ [y])))) : CN Pv n i D σ y H4 :=
  ⟨ys, hD, hl, n - (i + 1), by omega, rfl, hi, h⟩
theorem CO.mk {Pv : Nat → L2.St → Hp → Prop} {n i : Nat} {σ : L2.St} {H3 : Hp} (hi : i < n) (h : Pv (i + 1) σ H3) : CO Pv n i σ H3 := ⟨n - (i + 1), by omega, rfl, hi, h⟩
section
variable {K : PySem.W.Frag} {n : Nat} {lo : Int} {a D : Addr} {xs : List V} {σ0 : L2.St} {H1 : Hp} {Q : VK} {tt : TT} {te : TE}
theorem comp_range {Qf : Hp → Prop} (Pv : Nat → L2.St → Hp → Prop) (h0 : Pv 0 σ0 H1)
    (step : ∀ i σ' H', i < n → Pv i σ' H' → tt (σ'.set 0 (some (.int (lo + i)))) H' fun ok H3 => if ok = true then te (σ'.set 0 (some (.int (lo + i)))) H3 (fun y H4 => CN Pv n i D (σ'.set 0 (some (.int (lo + i)))) y H4) else CO Pv n i (σ'.set 0 (some (.int (lo + i)))) H3)
    (fin : ∀ σ H, Pv n σ H → Qf H) :
    ∃ W : Nat → Nat → L2.St → Hp → Prop, (∃ m, W 0 m σ0 H1) ∧ ∀ i m σ' H', W i m σ' H' → ((Itr lo n).stop i H' ∧ Qf H') ∨ ((Itr lo n).go i H' ∧ ∀ x H2, (Itr lo n).yld i H' x H2 → tt (σ'.set 0 (some x)) H2 fun ok H3 =>
      if ok = true then te (σ'.set 0 (some x)) H3 fun y H4 => ∃ ys, H4 D = some (.lst ys) ∧ ys.length < sizeLine ∧ ∃ m', m' < m ∧ W (i + 1) m' (σ'.set 0 (some x)) (upd H4 D (.lst (ys ++ [y])))
      else ∃ m', m' < m ∧ W (i + 1) m' (σ'.set 0 (some x)) H3) := by
  refine ⟨fun i m σ H => m = n - i ∧ i ≤ n ∧ Pv i σ H, ⟨n, by omega, Nat.zero_le _, h0⟩, ?_⟩
  rintro i m σ' H' ⟨rfl, hi, p⟩
  by_cases hlt : i < n
  · refine .inr ⟨hlt, fun x H2 y => ?_⟩
    obtain ⟨rfl, rfl⟩ := y
    exact step i σ' _ hlt p
  · have e : i = n := by omega
    subst e
    exact .inl ⟨Nat.le_refl _, fin _ _ p⟩
theorem comp_rangeU {Qf : Hp → Prop} (Pv : Nat → L2.St → Hp → Prop) (h0 : Pv 0 σ0 H1)
    (step : ∀ i σ' H', i < n → Pv i σ' H' → te (σ'.set 0 (some (.int (lo + i)))) H' (fun y H4 => CN Pv n i D (σ'.set 0 (some (.int (lo + i)))) y H4))
    (fin : ∀ σ H, Pv n σ H → Qf H) :
    ∃ W : Nat → Nat → L2.St → Hp → Prop, (∃ m, W 0 m σ0 H1) ∧ ∀ i m σ' H', W i m σ' H' → ((Itr lo n).stop i H' ∧ Qf H') ∨ ((Itr lo n).go i H' ∧ ∀ x H2, (Itr lo n).yld i H' x H2 →
      if true = true then te (σ'.set 0 (some x)) H2 fun y H4 => ∃ ys, H4 D = some (.lst ys) ∧ ys.length < sizeLine ∧ ∃ m', m' < m ∧ W (i + 1) m' (σ'.set 0 (some x)) (upd H4 D (.lst (ys ++ [y])))
      else ∃ m', m' < m ∧ W (i + 1) m' (σ'.set 0 (some x)) H2) :=
  comp_range (tt := fun _ H Q => Q true H) Pv h0 (fun i σ' H' hi p => iteT (step i σ' H' hi p)) fin
theorem comp_list {Qf : Hp → Prop} (Pv : Nat → L2.St → Hp → Prop) (h0 : Pv 0 σ0 H1) (hl : ∀ i σ H, i ≤ xs.length → Pv i σ H → SqL K H a xs)
    (step : ∀ i x σ' H', xs[i]? = some x → i < xs.length → Pv i σ' H' → tt (σ'.set 0 (some x)) H' fun ok H3 => if ok = true then te (σ'.set 0 (some x)) H3 (fun y H4 => CN Pv xs.length i D (σ'.set 0 (some x)) y H4) else CO Pv xs.length i (σ'.set 0 (some x)) H3)
    (fin : ∀ σ H, Pv xs.length σ H → Qf H) :
    ∃ W : Nat → Nat → L2.St → Hp → Prop, (∃ m, W 0 m σ0 H1) ∧ ∀ i m σ' H', W i m σ' H' → ((Itl K a).stop i H' ∧ Qf H') ∨ ((Itl K a).go i H' ∧ ∀ x H2, (Itl K a).yld i H' x H2 → tt (σ'.set 0 (some x)) H2 fun ok H3 =>
      if ok = true then te (σ'.set 0 (some x)) H3 fun y H4 => ∃ ys, H4 D = some (.lst ys) ∧ ys.length < sizeLine ∧ ∃ m', m' < m ∧ W (i + 1) m' (σ'.set 0 (some x)) (upd H4 D (.lst (ys ++ [y])))
      else ∃ m', m' < m ∧ W (i + 1) m' (σ'.set 0 (some x)) H3) := by
  refine ⟨fun i m σ H => m = xs.length - i ∧ i ≤ xs.length ∧ Pv i σ H, ⟨xs.length, by omega, Nat.zero_le _, h0⟩, ?_⟩
  rintro i m σ' H' ⟨rfl, hi, p⟩
  have q := hl i σ' H' hi p
  by_cases hlt : i < xs.length
  · refine .inr ⟨⟨xs, xs[i], q, by simp [hlt]⟩, fun x H2 y => ?_⟩
    obtain ⟨rfl, y⟩ := y
    exact step i x σ' _ (y xs q) hlt p
  · have e : i = xs.length := by omega
    subst e
    exact .inl ⟨⟨xs, q, Nat.le_refl _⟩, fin _ _ p⟩
theorem comp_listU {Qf : Hp → Prop} (Pv : Nat → L2.St → Hp → Prop) (h0 : Pv 0 σ0 H1) (hl : ∀ i σ H, i ≤ xs.length → Pv i σ H → SqL K H a xs)
    (step : ∀ i x σ' H', xs[i]? = some x → i < xs.length → Pv i σ' H' → te (σ'.set 0 (some x)) H' (fun y H4 => CN Pv xs.length i D (σ'.set 0 (some x)) y H4))
    (fin : ∀ σ H, Pv xs.length σ H → Qf H) :
    ∃ W : Nat → Nat → L2.St → Hp → Prop, (∃ m, W 0 m σ0 H1) ∧ ∀ i m σ' H', W i m σ' H' → ((Itl K a).stop i H' ∧ Qf H') ∨ ((Itl K a).go i H' ∧ ∀ x H2, (Itl K a).yld i H' x H2 →
      if true = true then te (σ'.set 0 (some x)) H2 fun y H4 => ∃ ys, H4 D = some (.lst ys) ∧ ys.length < sizeLine ∧ ∃ m', m' < m ∧ W (i + 1) m' (σ'.set 0 (some x)) (upd H4 D (.lst (ys ++ [y])))
      else ∃ m', m' < m ∧ W (i + 1) m' (σ'.set 0 (some x)) H2) :=
  comp_list (tt := fun _ H Q => Q true H) Pv h0 hl (fun i x σ' H' e hi p => iteT (step i x σ' H' e hi p)) fin
end
section
variable {C : Addr} {H H' : Hp} {p : Addr} {f m : Int} {R : MRows} {t L : Addr} {ds : List Addr}
end
noncomputable def spWhole : Sp := fun vs H Q _ => ∃ n : Int, vs = [.int n] ∧ Q (.bl true) H
end SW
namespace SW
open PySem PySem.Spec PyProof.Rows L2
theorem wIf {σ : L2.St} {H : Hp} {Q : VK} {t : TT} {ta tb : TE} (h : t σ H fun c H1 => if c = true then ta σ H1 Q else tb σ H1 Q) : tIf t ta tb σ H Q := h
end SW
namespace SW.B
open PySem PySem.Spec PyProof.Rows L2 SW
theorem cmpI {X : Cx} {a b : Expr} {ta tb : TE} {pos : Pos} {op : CmpOp} {r : R2} (ho : OpR X (compareOp op) r) (ha : Bx (PE X a ta)) (hb : Bx (PE X b tb)) (hm : behindInMarks op b = false := by first | rfl | with_unfolding_all rfl) : Bx (PE X (.Compare a [op] [b] pos) (tOp r ta tb)) := ⟨pe_cmpR ho ha.out hb.out hm⟩
theorem tcmpI {X : Cx} {a b : Expr} {ta tb : TE} {pos : Pos} {op : CmpOp} {r : R2} (ho : OpR X (compareOp op) r) (ha : Bx (PE X a ta)) (hb : Bx (PE X b tb)) (hm : behindInMarks op b = false := by first | rfl | with_unfolding_all rfl) : Bx (PT X (.Compare a [op] [b] pos) (tTest (tOp r ta tb))) := ⟨pt_cmpR ho ha.out hb.out hm⟩
end SW.B
namespace SW
open PySem PySem.Spec PyProof.Rows L2
end SW
namespace SW
open PySem PySem.Spec PyProof.Rows L2
section
variable {D : Ends} {σ : L2.St} {H : Hp} {Q : VK} {K : PySem.W.Frag}
theorem wDPut {td ty tv : TE} (h : tv σ H fun v H1 => td σ H1 fun x H2 => ty σ H2 fun y H3 => ∃ a H4, x = .ref a ∧ DPut H3 a y v H4 ∧ D.nx σ H4) : sDPut td ty tv D σ H := h
theorem wCompSet {i : Nat} {t : TE} (h : t σ H fun v H1 => D.nx (σ.set i (some v)) H1) : tCompSet i t D σ H := h
theorem wSl {r : V → Option Int → Option Int → Hp → VK → Prop} {te : TE} {tl th : TO} (h : te σ H fun x H1 => tl σ H1 fun l H2 => th σ H2 fun u H3 => r x l u H3 Q) : tSl r te tl th σ H Q := h
theorem wNoPart {Q : Option Int → Hp → Prop} (h : Q none H) : tNoPart σ H Q := h
theorem wPart {t : TE} {Q : Option Int → Hp → Prop} (h : t σ H fun x H1 => ∃ i, x = .int i ∧ Q (some i) H1) : tPart t σ H Q := h
end
end SW

set_option Elab.async false
set_option linter.all false
set_option maxRecDepth 100000
namespace SW
open PySem PySem.Spec PyProof.Rows L2
section
variable {X : Cx} {pins : List (Addr × Obj)} {σ : L2.St} {H : Hp} {s : Shared} {h' : Heap}
theorem Inv.turnedNew {t' : Nat} {fp : List Addr} {a : Addr} {o : HO} (I : Inv X pins σ H s) (k : ∀ b u, b ∉ fp → s.heap.get? b = some u → h'.get? b = some u) (hf : ∀ b ∈ fp, FpOk X pins H b) (hp : s.heap.objs.size ≤ a)
    (new : ObjOk X.prog X.w (upd H a o) h' a o) : Inv X pins σ (upd H a o) { s with heap := h', toks := t' } := by
  have lt : ∀ b u, H b = some u → b < s.heap.objs.size := fun b u e => I.hok.lt e
  have old : ∀ b u, H b = some u → upd H a o b = some u := fun b u e => by rw [upd_ne (Nat.ne_of_lt (Nat.lt_of_lt_of_le (lt b u e) hp))]; exact e
  have nfp : ∀ b u, H b = some u → b ∉ fp := fun b u e z => by
    have := (hf b z).1
    rw [e] at this
    cases this
  refine I.call (g' := s.gens) (d' := s.drawn) (t' := t') (ch := fp) ⟨fun b u q _ _ hx => k b u hx q, fun b u q _ _ hx => ⟨u.slots, k b u hx q⟩, fun b u q n _ => ?_, fun b u q hx => ⟨u, k b u hx q⟩, fun b xs q => old b _ q, fun b u v q => old b _ q, fun b ps q => ⟨#[], by rw [old b _ q]; simp⟩⟩ (fun b u e => ?_) I.bare
    fun b hb => ⟨(hf b hb).2.2.2.1, (hf b hb).2.1, (hf b hb).2.2.2.2.1, (hf b hb).2.2.2.2.2⟩
  · rw [upd_ne (Nat.ne_of_lt (Nat.lt_of_lt_of_le (Heap.lt_size q) hp))]; exact n
  · by_cases hb : b = a
    · subst hb
      rw [upd_same] at e
      cases e
      exact new
    · rw [upd_ne hb] at e
      refine (I.hok b u e).stay (fun c v hc q => k c v ?_ q) (fun c q => old c _ q) fun c xs q => old c _ q
      rcases hc with z | z
      · rw [z]; exact nfp b u e
      · exact nfp c _ z
theorem Inv.turnedL {t' : Nat} {fp : List Addr} (I : Inv X pins σ H s) (k : ∀ b u, b ∉ fp → s.heap.get? b = some u → h'.get? b = some u) (hf : ∀ b ∈ fp, FpOk X pins H b) : Inv X pins σ H { s with heap := h', toks := t' } := by
  have nfp : ∀ b u, H b = some u → b ∉ fp := fun b u e z => by
    have := (hf b z).1
    rw [e] at this
    cases this
  refine I.call (g' := s.gens) (d' := s.drawn) (t' := t') (ch := fp) ⟨fun b u q _ _ hx => k b u hx q, fun b u q _ _ hx => ⟨u.slots, k b u hx q⟩, fun b u q n _ => n, fun b u q hx => ⟨u, k b u hx q⟩, fun b xs q => q, fun b u v q => q, fun b ps q => ⟨#[], by rw [q]; simp⟩⟩ (fun b u e => ?_) I.bare
    fun b hb => ⟨(hf b hb).2.2.2.1, (hf b hb).2.1, (hf b hb).2.2.2.2.1, (hf b hb).2.2.2.2.2⟩
  refine (I.hok b u e).stay (fun c v hc q => k c v ?_ q) (fun c q => q) fun c xs q => q
  rcases hc with z | z
  · rw [z]; exact nfp b u e
  · exact nfp c _ z
end
section
variable {X : Cx} {elts : List Expr} {k : Nat} {tp : Pos}
end
namespace B
end B
end SW

namespace SW
open PySem PySem.Spec PyProof.Rows L2
section
variable {prog : Program} {w : World} {A : Around} {E : Value → Shared → Prop} {s : Shared}
set_option maxRecDepth 100000 in
end
section
variable {X : Cx} {o e : Expr} {to te : TE} {pos p2 : Pos} {hi : Option Expr} {th : TO}
end
namespace B
end B
end SW

set_option Elab.async false
set_option linter.all false
set_option maxRecDepth 100000
namespace SW
open PySem PySem.Spec PyProof.Rows L2
theorem Prs.len {H : Hp} {xs : List V} {r : MRow} (h : Prs H xs r) : xs.length = r.length := Paired.length h


theorem Prs.dat {K : PySem.W.Frag} {H : Hp} : ∀ {xs : List V} {r : MRow}, Prs H xs r → DatVs K H xs (r.map fun p => .tuple [.int p.1, .int p.2])
  | _, _, .nil => .nil
  | _, _, .cons ⟨a, e, h⟩ t => by
    subst e
    exact .cons (.tup (SqT.of h) (.cons (.int _) (.cons (.int _) .nil))) (Prs.dat t)
structure LR (H : Hp) (q : Addr) (R : MRows) (ls : List Addr) : Prop where
  top : H q = some (.lst (ls.map V.ref))
  len : ls.length = R.length
  nd : ls.Nodup
  nq : q ∉ ls
  at_ : ∀ (i : Nat) (l : Addr) (r : MRow), ls[i]? = some l → R[i]? = some r → ∃ xs, H l = some (.lst xs) ∧ Prs H xs r
theorem LR.keep {H H' : Hp} {q : Addr} {R : MRows} {ls : List Addr} {G : Addr → Prop} (S : LR H q R ls) (k : Fr G H H') (hq : ¬ G q) (hl : ∀ b ∈ ls, ¬ G b) (dt : ∀ b xs, H b = some (.tup xs) → ¬ G b) : LR H' q R ls :=
  ⟨k _ _ hq S.top, S.len, S.nd, S.nq, fun i l r e1 e2 => by
    obtain ⟨xs, h1, h2⟩ := S.at_ i l r e1 e2
    exact ⟨xs, k _ _ (hl l (List.mem_of_getElem? e1)) h1, h2.keep fun a ys e => k _ _ (dt a ys e) e⟩⟩
theorem LR.same {H H' : Hp} {q : Addr} {R : MRows} {ls : List Addr} (S : LR H q R ls) (k : Same H H') : LR H' q R ls :=
  S.keep (G := fun _ => False) (fun b o _ e => k b o e) (fun z => z) (fun _ _ z => z) fun _ _ _ z => z
theorem LR.live {H : Hp} {q : Addr} {R : MRows} {ls : List Addr} (S : LR H q R ls) {b : Addr} (h : b ∈ ls) : ∃ xs, H b = some (.lst xs) := by
  obtain ⟨i, e⟩ := List.mem_iff_getElem?.mp h
  have hi : i < R.length := by rw [← S.len]; exact (List.getElem?_eq_some_iff.mp e).1
  obtain ⟨xs, h1, _⟩ := S.at_ i b _ e (getD_get hi)
  exact ⟨xs, h1⟩
theorem LR.place {H : Hp} {q : Addr} {R : MRows} {ls : List Addr} (S : LR H q R ls) {i : Nat} (h : i < R.length) : ∃ l xs, ls[i]? = some l ∧ H l = some (.lst xs) ∧ Prs H xs (R.getD i []) := by
  have h' : i < ls.length := by rw [S.len]; exact h
  obtain ⟨xs, h1, h2⟩ := S.at_ i _ _ (List.getElem?_eq_getElem h') (getD_get h)
  exact ⟨_, xs, List.getElem?_eq_getElem h', h1, h2⟩
theorem LR.set {H H' : Hp} {q : Addr} {R : MRows} {ls : List Addr} {i : Nat} {l : Addr} {xs : List V} {r : MRow} (S : LR H q R ls) (hl : ls[i]? = some l) (h1 : H' l = some (.lst xs)) (h2 : Prs H' xs r) (k : ∀ b o, b ≠ l → H b = some o → H' b = some o) : LR H' q (R.set i r) ls := by
  have lt : i < R.length := by rw [← S.len]; exact (List.getElem?_eq_some_iff.mp hl).1
  obtain ⟨ys, hl0⟩ := S.live (List.mem_of_getElem? hl)
  refine ⟨k _ _ (fun z => S.nq (z ▸ List.mem_of_getElem? hl)) S.top, by rw [List.length_set]; exact S.len, S.nd, S.nq, fun j y p e1 e2 => ?_⟩
  by_cases e : i = j
  · subst e
    rw [hl] at e1
    cases e1
    rw [List.getElem?_set_self lt] at e2
    cases e2
    exact ⟨xs, h1, h2⟩
  · rw [List.getElem?_set_ne e] at e2
    obtain ⟨zs, g1, g2⟩ := S.at_ j y p e1 e2
    refine ⟨zs, k _ _ (fun z => e ?_) g1, g2.keep fun a us ea => k _ _ (ne_of ea hl0 (by intro z; cases z)) ea⟩
    subst z
    exact (List.getElem?_inj (List.getElem?_eq_some_iff.mp hl).1 S.nd).mp (hl.trans e1.symm)
noncomputable def spWorth : Sp := fun vs H Q _ => ∃ p : Addr, vs = [.ref p] ∧ Row H p ∧ ∀ v H', -1000000000 ≤ v → v ≤ 1000000000 → Row H' p → KeepBut p H H' → Q (.int v) H'
theorem wWorth {p : Addr} {H : Hp} {Q : VK} {E : XK} (hp : Row H p) (k : ∀ v H', -1000000000 ≤ v → v ≤ 1000000000 → Row H' p → KeepBut p H H' → Q (.int v) H') : spWorth ([.ref p] ++ []) H Q E := ⟨p, rfl, hp, k⟩
end SW
namespace SW
open PySem PySem.Spec PyProof.Rows L2
namespace B
end B
end SW
namespace SW
open PySem PySem.Spec PyProof.Rows L2
end SW

set_option Elab.async false
set_option linter.all false
set_option maxRecDepth 100000
namespace SW
open PySem PySem.Spec PyProof.Rows L2
section
variable {X : Cx}
end
end SW

namespace SW
open PySem PySem.Spec PyProof.Rows L2
end SW

namespace SW
open PySem PySem.Spec PyProof.Rows L2
end SW

set_option Elab.async false
set_option linter.all false
set_option maxRecDepth 100000
namespace SW
open PySem PySem.Spec PyProof.Rows L2
section
variable (t : Addr) (pc : Int) (el : V) (mv : Int) (n : Addr) (tc : Int)
end
section
variable {CS CT : Addr} {H H' : Hp} {p : Addr} {f m : Int} {pc : Nat} {M : MT} {tc : Int} {t n : Addr} {v : V} {FN FE F G : Addr → Prop}
end
section
variable {CS CT : Addr} {H : Hp} {Q : VK} {E : XK} {p : Addr} {k y f m : Int} {pc : Nat} {M : MT} {tc : Int} {F : Addr → Prop}
end
end SW
namespace SW
open PySem PySem.Spec PyProof.Rows L2
section
variable {CS CT : Addr} {H H' : Hp} {p : Addr} {f m : Int} {pc : Nat} {M : MT} {tc : Int} {t n : Addr} {v : V} {FN FE F G : Addr → Prop}
end
end SW
namespace SW
open PySem PySem.Spec PyProof.Rows L2
end SW
namespace SW
open PySem PySem.Spec PyProof.Rows L2
theorem wITup {K : PySem.W.Frag} {σ : L2.St} {H : Hp} {tl : TE} {R : It → Hp → Prop} (h : tl σ H fun x H1 => ∃ a, x = .ref a ∧ (∃ xs, SqT K H1 a xs) ∧ R (Itt K a) H1) : iTup K tl σ H R := h
theorem wDIn {σ : L2.St} {H : Hp} {Q : VK} {td ty : TE} (h : ty σ H fun y H1 => td σ H1 fun x H2 => ∃ a o, x = .ref a ∧ DGet H2 a y o ∧ Q (.bl o.isSome) H2) : tDIn ty td σ H Q := h
namespace B
theorem tdin {X : Cx} {a d : Expr} {ty td : TE} {pos : Pos} (hu : X.A.units + 1 < cLine) (hk : Bx (PE X a ty)) (hd : Bx (PE X d td)) (h1 : behindInMarks .In d = false := by first | rfl | with_unfolding_all rfl) : Bx (PT X (.Compare a [.In] [d] pos) (tB (tDIn ty td))) := ⟨pt_cmp (pc_din hu hk.out hd.out) h1⟩
end B
end SW

namespace SW
open PySem PySem.Spec PyProof.Rows L2




end SW

set_option Elab.async false
set_option linter.all false
set_option maxRecDepth 100000
namespace SW
open PySem PySem.Spec PyProof.Rows L2
section
variable {X : Cx} {scope : Scope} {cl : List (Str × Addr)} {os : List Str} {js : List Nat} {N' : List Str} {pins : List (Addr × Obj)} {σ : L2.St} {H : Hp} {s : Shared} {fp : List Addr}
end
section
variable {X : Cx} {scope : Scope} {cl : List (Str × Addr)} {os : List Str} {js : List Nat} {N' : List Str} {elt iter : Expr} {ifs : List Expr} {tgt : Expr} {pos : Pos} {wi : TI} {gt : TG} {tt : TT} {te : TE}

end
namespace B
section
variable {X : Cx} {scope : Scope} {cl : List (Str × Addr)} {tgt : Expr} {N' : List Str} {elt iter c : Expr} {pos : Pos} {wi : TI} {gt : TG} {te : TE} {tc : TT} {os : List Str}
end
end B
end SW
namespace SW
open PySem PySem.Spec PyProof.Rows L2
namespace B
end B
end SW

set_option Elab.async false
set_option linter.all false
set_option maxRecDepth 100000
namespace SW
open PySem PySem.Spec PyProof.Rows L2
section
variable {prog : Program} {w : World} {A : Around} {E : Value → Shared → Prop} {s : Shared}
theorem tzItem {it l : Addr} {i : Nat} {xs : Array Value} {x : Value} {Q : Value → Shared → Prop} (gi : s.heap.IsTupleIter it l i) (gl : s.heap.IsTuple l xs) (ex : xs[i]? = some x) (q : ∀ h', h'.IsTupleIter it l (i + 1) → Heap.SameBut it s.heap h' → Q x { s with heap := h' }) :
    wpAny (model prog w) A (Builtin.SmallTypes.nextOf (.ref it)) Q E s := by
  obtain ⟨u, g1, g2, g3⟩ := id gi
  obtain ⟨v, e1, _, n, e2⟩ := gl
  unfold Builtin.SmallTypes.nextOf
  refine wpAny_bind (wpAny_callSpecial?_slot (name := Str.ofString "__next__") gi.typeIs F.slot_tuple_iterator_next (wpAny_call_entry F.slot_tuple_iterator_next gi.typeIs F.entry_tuple_iterator_next ?_ (F.args_tuple_iterator_next_1 _)))
  show wpAny _ _ (field (.ref it) 0 >>= _) _ _ _
  refine wpAny_bind (wpAny_field g1 g3 (x := .ref l) rfl (show wpAny _ _ (if (Value.ref l == Value.none) = true then _ else _) _ _ _ from ?_))
  rw [if_neg (fun z : (Value.ref l == Value.none) = true => Bool.false_ne_true z)]
  show wpAny _ _ (field (.ref it) 1 >>= _) _ _ _
  refine wpAny_bind (wpAny_field g1 g3 (x := .int i 0) rfl (show wpAny _ _ (seqItems? (.ref l) >>= _) _ _ _ from wpAny_bind (wpAny_seqItems e1 e2 ?_)))
  simp only [Int.toNat_natCast, ex]
  refine wpAny_bind (wpAny_setField g1 g3 (by simp) (wpAny_pure ⟨x, rfl, wpAny_pure (q _ ⟨_, Heap.get?_update_self _ g1 (Obj.isFreed_of_fields (Obj.data_mapFields g3 _)), (Obj.cls_mapFields ..).trans g2, ?_⟩ (Heap.SameBut.update ..))⟩))
  rw [Obj.data_mapFields g3]
  simp [rawInt]
theorem tzFin {it l : Addr} {i : Nat} {xs : Array Value} {Q : Value → Shared → Prop} (hh : A.handled = none) (gi : s.heap.IsTupleIter it l i) (gl : s.heap.IsTuple l xs) (ex : xs[i]? = none)
    (qE : ∀ h' e, Heap.ExtBut it s.heap h' → (∃ o, h'.get? e = some o ∧ o.cls = .type "StopIteration") → E (.ref e) { s with heap := h' }) : wpAny (model prog w) A (Builtin.SmallTypes.nextOf (.ref it)) Q E s := by
  obtain ⟨u, g1, g2, g3⟩ := id gi
  obtain ⟨v, e1, _, n, e2⟩ := gl
  unfold Builtin.SmallTypes.nextOf
  refine wpAny_bind (wpAny_callSpecial?_slot (name := Str.ofString "__next__") gi.typeIs F.slot_tuple_iterator_next (wpAny_call_entry F.slot_tuple_iterator_next gi.typeIs F.entry_tuple_iterator_next ?_ (F.args_tuple_iterator_next_1 _)))
  show wpAny _ _ (field (.ref it) 0 >>= _) _ _ _
  refine wpAny_bind (wpAny_field g1 g3 (x := .ref l) rfl (show wpAny _ _ (if (Value.ref l == Value.none) = true then _ else _) _ _ _ from ?_))
  rw [if_neg (fun z : (Value.ref l == Value.none) = true => Bool.false_ne_true z)]
  show wpAny _ _ (field (.ref it) 1 >>= _) _ _ _
  refine wpAny_bind (wpAny_field g1 g3 (x := .int i 0) rfl (show wpAny _ _ (seqItems? (.ref l) >>= _) _ _ _ from wpAny_bind (wpAny_seqItems e1 e2 ?_)))
  simp only [Int.toNat_natCast, ex]
  refine wpAny_bind (wpAny_rule (wpAny_bind (wpAny_setField g1 g3 (by simp) (show wpAny _ _ (newExc (.type "StopIteration") [] >>= _) _ _ _ from wpAny_bind ?_))))
  simp only [newExc, newTuple]
  refine wpAny_bind (wpAny_newObj_type (wpAny_bind (m := firstArgMember _ _) (wpAny_of_eq (a := Value.none) (by first | rfl | (simp only [firstArgMember]; rfl)) (wpAny_newObj_type ?_ (by size_fits)))) (by size_fits))
  simp only [raiseNew]
  refine wpAny_bind (wpAny_handled ?_)
  first | rw [show A.in1.handled = none from hh] | rw [hh]
  exact wpAny_bind (wpAny_pure (wpAny_throw (qE _ _ (((Heap.SameBut.update ..).extBut.push _).push _) ⟨_, Heap.get?_push_size _ rfl, rfl⟩)))
end
section
variable {X : Cx} {elts : List Expr} {k : Nat} {tp : Pos}
end
namespace B
end B
end SW

set_option Elab.async false
set_option linter.all false
set_option maxRecDepth 100000
namespace SW
open PySem PySem.Spec PyProof.Rows L2
theorem call_tupleK (K : PySem.W.Frag) {X : Cx} (h : X.K = K := by rfl) : CallR X (.type "tuple") (fun xs H Q => ∃ p ys, xs = [.ref p] ∧ ((SqL K H p ys ∧ ∀ l, H l = none → Q (.ref l) (upd H l (.tup ys))) ∨ (SqT K H p ys ∧ Q (.ref p) H))) := by subst h; exact call_tuple_of






section
variable {CS CT : Addr} {H : Hp} {Q : VK} {E : XK} {p : Addr} {f m : Int} {pc : Nat} {M : MT} {tc : Int} {F : Addr → Prop}
end
end SW

set_option Elab.async false
set_option linter.all false
set_option maxRecDepth 100000
namespace SW
open PySem PySem.Spec PyProof.Rows L2
theorem wSeqC {D : Ends} {σ : L2.St} {H : Hp} {t u : TS} (h : ∀ N : L2.St → Hp → Prop, N = u D → t { D with nx := N } σ H) : tSeq t u D σ H := h _ rfl
theorem wGo {N N' : L2.St → Hp → Prop} {σ : L2.St} {H : Hp} (e : N = N') (h : N' σ H) : N σ H := e ▸ h
end SW
namespace SW
open PySem PySem.Spec PyProof.Rows L2
@[elab_as_elim] theorem len0 {α : Type} {P : List α → Prop} (us : List α) (hl : us.length = 0) (h : Unit → P []) : P us := by
  cases us with
  | nil => exact h ()
  | cons a l => cases hl
@[elab_as_elim] theorem len1 {α : Type} {P : List α → Prop} (us : List α) (hl : us.length = 1) (h : ∀ a, P [a]) : P us := by
  cases us with
  | nil => cases hl
  | cons a l => exact len0 (P := fun l => P (a :: l)) l (Nat.succ.inj hl) fun _ => h a
@[elab_as_elim] theorem len2 {α : Type} {P : List α → Prop} (us : List α) (hl : us.length = 2) (h : ∀ a b, P [a, b]) : P us := by
  cases us with
  | nil => cases hl
  | cons a l => exact len1 (P := fun l => P (a :: l)) l (Nat.succ.inj hl) fun b => h a b
@[elab_as_elim] theorem len3 {α : Type} {P : List α → Prop} (us : List α) (hl : us.length = 3) (h : ∀ a b c, P [a, b, c]) : P us := by
  cases us with
  | nil => cases hl
  | cons a l => exact len2 (P := fun l => P (a :: l)) l (Nat.succ.inj hl) fun b c => h a b c
@[elab_as_elim] theorem len4 {α : Type} {P : List α → Prop} (us : List α) (hl : us.length = 4) (h : ∀ a b c d, P [a, b, c, d]) : P us := by
  cases us with
  | nil => cases hl
  | cons a l => exact len3 (P := fun l => P (a :: l)) l (Nat.succ.inj hl) fun b c d => h a b c d
@[elab_as_elim] theorem len5 {α : Type} {P : List α → Prop} (us : List α) (hl : us.length = 5) (h : ∀ a b c d e, P [a, b, c, d, e]) : P us := by
  cases us with
  | nil => cases hl
  | cons a l => exact len4 (P := fun l => P (a :: l)) l (Nat.succ.inj hl) fun b c d e => h a b c d e
theorem walkX {q : Program} {loose : List Str} {XP : (Str → Option Value) → Heap → Prop} {K : Params → PySem.W.Frag} {as : List Addr} {n t : Nat} {r : PySem.W.RowW} {d : DefRec} {kwd : List (Str × Expr)} {run : Value → List Value → Sem Value}
    (e : ∀ P, as = (K P).map (·.1)) (h : PySem.W.WalkO q loose XP (PySem.W.InK K) r d kwd run) : PySem.W.WalkX q loose XP (PySem.W.X.obsZ as) (PySem.W.X.valZ K n t) r d kwd run :=
  fun w s₀ s₁ mg mb G y a o pm cd doc dV kV ho hd hcd hD hmg hg args vals as' L hpre => h w s₀ s₁ mg mb G (PySem.W.InK.keeps w _ _ (PySem.W.X.z_facts e y).2.1 (PySem.W.Laid.keeps L)) a o pm cd doc dV kV ho hd hcd hD hmg hg args vals as' hpre
noncomputable def Cut (M : L2.St → Hp → Prop) (G : (L2.St → Hp → Prop) → Prop) : Prop := ∀ N, N = M → G N
theorem wCut {M : L2.St → Hp → Prop} {G : (L2.St → Hp → Prop) → Prop} (h : ∀ N, N = M → G N) : Cut M G := h
theorem forListC {K : PySem.W.Frag} {a : Addr} {xs : List V} {g : TG} {tb : TS} {D : Ends} {σ : L2.St} {H : Hp} (Pv : Nat → L2.St → Hp → Prop) (h0 : Pv 0 σ H) (hl : ∀ i σ H, i ≤ xs.length → Pv i σ H → SqL K H a xs)
    (hs : ∀ i x σ H, xs[i]? = some x → Pv i σ H → Cut (Pv (i + 1)) fun N => g x σ H fun σ2 H2 => tb { D with nx := N, ct := N, bk := D.nx } σ2 H2) (hd : ∀ σ H, Pv xs.length σ H → D.nx σ H) :
    ∃ W : Nat → Nat → L2.St → Hp → Prop, (∃ m, W 0 m σ H) ∧ ∀ i m σ H, W i m σ H →
      ((Itl K a).stop i H ∧ D.nx σ H) ∨ ((Itl K a).go i H ∧ ∃ N : L2.St → Hp → Prop, (∀ σ' H', N σ' H' → ∃ m', m' < m ∧ W (i + 1) m' σ' H') ∧ ∀ x H', (Itl K a).yld i H x H' → g x σ H' fun σ2 H2 => tb { D with nx := N, ct := N, bk := D.nx } σ2 H2) :=
  for_list Pv h0 hl (fun i x σ H e p => hs i x σ H e p _ rfl) hd
theorem forRangeC {lo : Int} {n : Nat} {g : TG} {tb : TS} {D : Ends} {σ : L2.St} {H : Hp} (Pv : Nat → L2.St → Hp → Prop) (h0 : Pv 0 σ H)
    (hs : ∀ i σ H, i < n → Pv i σ H → Cut (Pv (i + 1)) fun N => g (.int (lo + i)) σ H fun σ2 H2 => tb { D with nx := N, ct := N, bk := D.nx } σ2 H2) (hd : ∀ σ H, Pv n σ H → D.nx σ H) :
    ∃ W : Nat → Nat → L2.St → Hp → Prop, (∃ m, W 0 m σ H) ∧ ∀ i m σ H, W i m σ H →
      ((Itr lo n).stop i H ∧ D.nx σ H) ∨ ((Itr lo n).go i H ∧ ∃ N : L2.St → Hp → Prop, (∀ σ' H', N σ' H' → ∃ m', m' < m ∧ W (i + 1) m' σ' H') ∧ ∀ x H', (Itr lo n).yld i H x H' → g x σ H' fun σ2 H2 => tb { D with nx := N, ct := N, bk := D.nx } σ2 H2) :=
  for_range Pv h0 (fun i σ H e p => hs i σ H e p _ rfl) hd
section
variable {K : PySem.W.Frag} {H : Hp} {p C dx : Addr} {fs : List (Str × V)} {v : V} {f : Str}
theorem iIsi {x : V} {T : String} {t : Value} {b : Bool} {R : Bool → Prop} (ty : TyOf K H x t) (e : PySem.W.kitOne K t (.type T) = some b) (h : R b) : ∃ x' T' t' b', [x, V.ty T] = [x', V.ty T'] ∧ TyOf K H x' t' ∧ PySem.W.kitOne K t' (.type T') = some b' ∧ R b' := ⟨x, T, t, b, rfl, ty, e, h⟩
theorem iLen {l : Addr} {ys : List V} {R : List V → Prop} (h1 : SqL K H l ys ∨ SqT K H l ys) (h : R ys) : ∃ p ys, [V.ref l] = [V.ref p] ∧ (SqL K H p ys ∨ SqT K H p ys) ∧ R ys := ⟨l, ys, rfl, h1, h⟩
end
section
variable {CS CT : Addr} {H : Hp} {Q : VK} {E : XK} {p : Addr} {k f m : Int} {pc : Nat} {M : MT} {tc : Int} {F : Addr → Prop}
end
end SW

set_option Elab.async false
set_option linter.all false
set_option maxRecDepth 100000
namespace SW
open PySem PySem.Spec PyProof.Rows L2
theorem b_enumerate : bootBuiltins "enumerate" = some (.type "enumerate") := by decide +kernel
section
variable {X : Cx} {elts : List Expr} {k : Nat} {tp : Pos}
end
namespace B
end B
theorem walks_list {prog : Program} {w : World} {A : Around} (hh : A.handled = none) (I l : Addr) (hne : l ≠ I) (items : Array Value) : Walks prog w A I [I, l] [I] items.size (fun i v => items[i]? = some v) (fun i h => h.IsListIter I l i ∧ h.IsList l items) where
  sub := by simp
  frame := fun i h h' st k => ⟨st.1.at fun o e => k I (by simp) o e, st.2.at fun o e => k l (by simp) o e⟩
  item := fun i s Q E hi st hQ => by
    refine wpAny_pyNext_list_item st.1 st.2 (x := items[i]) (by simp [hi]) fun h' a sb => ?_
    exact hQ items[i] h' s.toks (by simp [hi]) ⟨a, st.2.extBut sb.extBut hne⟩ fun b o hb e => sb.extBut b o (fun z => hb (by simp [z])) e
  done := fun s Q E st hQ => by
    refine wpAny_pyNext_list_end hh st.1 st.2 (by simp) fun h' kk => ?_
    exact hQ h' s.toks fun b o hb e => kk b o (fun z => hb (by simp [z])) e
  self := fun i s Q E st hQ => wpAny_pyIter_listiter st.1 hQ
theorem all_getD : ∀ bs : List Bool, (List.range bs.length).all (fun i => bs.getD i false) = bs.all id
  | [] => rfl
  | b :: bs => by
    rw [List.length_cons, List.range_succ_eq_map, List.all_cons, List.all_map, List.all_cons]
    congr 1
    exact all_getD bs
theorem b_all : bootBuiltins "all" = some (.builtin "all") := by decide +kernel
theorem call_allL {X : Cx} : CallR X (.builtin "all") (fun xs H Q => ∃ l bs, xs = [.ref l] ∧ SqL X.K H l (List.map V.bl bs) ∧ X.calm = true ∧ Q (.bl (List.all bs id)) H) := by
  intro pins s σ H xs us Q I r h
  obtain ⟨l, bs, rfl, hl, hc, q⟩ := h
  obtain ⟨u, rfl, rx⟩ := vals1 r
  cases rx
  obtain ⟨its, rv, pl, _⟩ := I.list hl
  have le := rv.length
  rw [List.length_map] at le
  have hv : ∀ (i : Nat) v, its[i]? = some v → v = .bool (bs.getD i false) := fun i v e => by
    have hi : i < its.length := (List.getElem?_eq_some_iff.mp e).1
    obtain ⟨u, hu, ru⟩ := rv.get (i := i) (x := V.bl bs[i]) (by simp [le ▸ hi])
    rw [e] at hu
    cases hu
    rw [show v = Value.bool bs[i] from ru, List.getD_eq_getElem?_getD, List.getElem?_eq_getElem (by omega)]
    rfl
  have lt : l < s.heap.objs.size := by
    obtain ⟨o, e, _⟩ := pl.isList
    exact Heap.lt_size e
  have W := walks_list (prog := X.prog) (w := X.w) (A := X.A.in1) (show X.A.in1.handled = none from I.ok.hd hc) s.heap.objs.size l (Nat.ne_of_lt lt) its.toArray
  refine call_all_walk (wpAny_pyIter_list pl.isList ⟨_, _, _, _, _, _, fun i => bs.getD i false, rfl, W, And.intro ?_ ?_, ?_, fun h' tk hk => ?_⟩)
  · exact ⟨_, Heap.get?_push_size _ rfl, rfl, rfl⟩
  · exact pl.isList.push _
  · intro i v s' Q' E' hp hq
    rw [hv i v (by simpa using hp)]
    exact wpAny_truthy_bool hq
  · have ea : (List.range its.toArray.size).all (fun i => bs.getD i false) = bs.all id := by
      rw [List.size_toArray, ← le]
      exact all_getD bs
    rw [ea]
    refine ⟨.bl (bs.all id), H, I.kept (t' := tk) (fun b o e => hk b o (fun z => ?_) (Heap.get?_push_of_some _ e)), rfl, q⟩
    rw [List.mem_singleton] at z
    subst z
    exact absurd (Heap.lt_size e) (Nat.lt_irrefl _)
end SW

set_option Elab.async false
set_option linter.all false
set_option maxRecDepth 100000
namespace SW
open PySem PySem.Spec PyProof.Rows L2
section
variable {prog : Program} {w : World} {A : Around} {E : Value → Shared → Prop} {s : Shared} {T : String} {r d : Addr} {n : Nat} {P : Nat → Value → Prop} {OK : Heap → Prop}
end
section
variable {X : Cx} {e st : Expr} {te ts : TE} {pos p2 : Pos}
end
section
variable {K : PySem.W.Frag} {a D : Addr} {xs : List V} {σ0 : L2.St} {H1 : Hp} {gt : TG} {tt : TT} {te : TE}
theorem comp_tup {Qf : Hp → Prop} (Pv : Nat → L2.St → Hp → Prop) (h0 : Pv 0 σ0 H1) (hl : ∀ i σ H, i ≤ xs.length → Pv i σ H → SqT K H a xs)
    (step : ∀ i x σ' H', xs[i]? = some x → i < xs.length → Pv i σ' H' → tt (σ'.set 0 (some x)) H' fun ok H3 => if ok = true then te (σ'.set 0 (some x)) H3 (fun y H4 => CN Pv xs.length i D (σ'.set 0 (some x)) y H4) else CO Pv xs.length i (σ'.set 0 (some x)) H3)
    (fin : ∀ σ H, Pv xs.length σ H → Qf H) :
    ∃ W : Nat → Nat → L2.St → Hp → Prop, (∃ m, W 0 m σ0 H1) ∧ ∀ i m σ' H', W i m σ' H' → ((Itt K a).stop i H' ∧ Qf H') ∨ ((Itt K a).go i H' ∧ ∀ x H2, (Itt K a).yld i H' x H2 → tt (σ'.set 0 (some x)) H2 fun ok H3 =>
      if ok = true then te (σ'.set 0 (some x)) H3 fun y H4 => ∃ ys, H4 D = some (.lst ys) ∧ ys.length < sizeLine ∧ ∃ m', m' < m ∧ W (i + 1) m' (σ'.set 0 (some x)) (upd H4 D (.lst (ys ++ [y])))
      else ∃ m', m' < m ∧ W (i + 1) m' (σ'.set 0 (some x)) H3) := by
  refine ⟨fun i m σ H => m = xs.length - i ∧ i ≤ xs.length ∧ Pv i σ H, ⟨xs.length, by omega, Nat.zero_le _, h0⟩, ?_⟩
  rintro i m σ' H' ⟨rfl, hi, p⟩
  have q := hl i σ' H' hi p
  by_cases hlt : i < xs.length
  · refine .inr ⟨⟨xs, xs[i], q, by simp [hlt]⟩, fun x H2 y => ?_⟩
    obtain ⟨rfl, y⟩ := y
    exact step i x σ' _ (y xs q) hlt p
  · have e : i = xs.length := by omega
    subst e
    exact .inl ⟨⟨xs, q, Nat.le_refl _⟩, fin _ _ p⟩
theorem comp_tupU {Qf : Hp → Prop} (Pv : Nat → L2.St → Hp → Prop) (h0 : Pv 0 σ0 H1) (hl : ∀ i σ H, i ≤ xs.length → Pv i σ H → SqT K H a xs)
    (step : ∀ i x σ' H', xs[i]? = some x → i < xs.length → Pv i σ' H' → te (σ'.set 0 (some x)) H' (fun y H4 => CN Pv xs.length i D (σ'.set 0 (some x)) y H4))
    (fin : ∀ σ H, Pv xs.length σ H → Qf H) :
    ∃ W : Nat → Nat → L2.St → Hp → Prop, (∃ m, W 0 m σ0 H1) ∧ ∀ i m σ' H', W i m σ' H' → ((Itt K a).stop i H' ∧ Qf H') ∨ ((Itt K a).go i H' ∧ ∀ x H2, (Itt K a).yld i H' x H2 →
      if true = true then te (σ'.set 0 (some x)) H2 fun y H4 => ∃ ys, H4 D = some (.lst ys) ∧ ys.length < sizeLine ∧ ∃ m', m' < m ∧ W (i + 1) m' (σ'.set 0 (some x)) (upd H4 D (.lst (ys ++ [y])))
      else ∃ m', m' < m ∧ W (i + 1) m' (σ'.set 0 (some x)) H2) :=
  comp_tup (tt := fun _ H Q => Q true H) Pv h0 hl (fun i x σ' H' e hi p => iteT (step i x σ' H' e hi p)) fin
end
section
variable {X : Cx}
noncomputable def rCatA : R2 := fun x y H Q => ∃ a b xs ys, x = .ref a ∧ y = .ref b ∧ H a = some (.tup xs) ∧ H b = some (.tup ys) ∧ xs.length + ys.length ≤ sizeLine ∧ ∀ p H', Same H H' → H' p = some (.tup (xs ++ ys)) → Q (.ref p) H'
theorem op_catA : OpR X (binaryOp .Add) rCatA := by
  intro pins s σ H x y v u Q I rx ry h
  obtain ⟨a, b, xs, ys, rfl, rfl, ha, hb, hz, q⟩ := h
  by_cases hx : xs = []
  · subst hx
    cases rx
    cases ry
    obtain ⟨its, r1, p1, _⟩ := I.tuple (SqT.of ha)
    obtain ⟨its2, r2, p2, _⟩ := I.tuple (SqT.of hb)
    obtain ⟨⟨cls, dd, data, sl⟩, ho, hc, n, hd⟩ := id p1
    obtain ⟨⟨cls2, dd2, data2, sl2⟩, ho2, hc2, n2, hd2⟩ := id p2
    simp only at hc hd hc2 hd2
    subst hc hd hc2 hd2
    have e1 : its = [] := r1.nil_iff.mpr rfl
    subst e1
    exact concat_meets ⟨_, ho, rfl⟩ ⟨_, ho2, rfl⟩ noFill_tuple_add seq_tuple_add PySem.F.slot_tuple_add PySem.F.entry_tuple_add (PySem.F.args_tuple_add_2 _ _)
      (tuple_addW0 a b [].toArray its2.toArray n n2 dd dd2 sl sl2 (by simp)) ⟨ho, ho2, ⟨.ref b, H, I, rfl, q b H (fun _ _ e => e) hb⟩⟩
  · exact op_catT pins s σ H _ _ v u Q I rx ry ⟨a, b, xs, ys, rfl, rfl, SqT.of ha, SqT.of hb, hx, hz, fun e => q a H (fun _ _ e => e) (by rw [e, List.append_nil]; exact ha), fun _ p hp => q p _ (Same.new hp) upd_same⟩
theorem op_eqTE (hu : X.A.units < cLine) : OpR X (compareOp .Eq) (fun x y H Q => ∃ a b xs, x = .ref a ∧ y = .ref b ∧ SqT X.K H a xs ∧ SqT X.K H b [] ∧ Q (.bl xs.isEmpty) H) := by
  intro pins s σ H x y v u Q I rx ry h
  obtain ⟨a, b, xs, rfl, rfl, ha, hb, q⟩ := h
  cases rx
  cases ry
  obtain ⟨i1, r1, t1, _⟩ := I.tuple ha
  obtain ⟨i2, r2, t2, _⟩ := I.tuple hb
  have e2 : i2 = [] := by cases r2; rfl
  subst e2
  have ez : (i1.toArray.size == 0) = xs.isEmpty := by cases r1 <;> rfl
  refine SeqAt.eq_tupleAt (e := fun _ => true) t1 t2 hu (fun j _ h2 => absurd h2 (by simp)) ⟨.bl xs.isEmpty, H, I, ?_, q⟩
  show Value.bool _ = Value.bool _
  rw [← ez]
  simp
end
end SW

set_option Elab.async false
set_option linter.all false
set_option maxRecDepth 100000
namespace SW
open PySem PySem.Spec PyProof.Rows L2
noncomputable def TK (H H' : Hp) : Prop := ∀ a xs, H a = some (.tup xs) → H' a = some (.tup xs)
theorem TK.trans {H H1 H2 : Hp} (a : TK H H1) (b : TK H1 H2) : TK H H2 := fun c o h => b c o (a c o h)
theorem Same.tk {H H' : Hp} (s : Same H H') : TK H H' := fun a xs e => s a _ e
theorem paired_len {α β : Type} {F : α → β → Prop} : ∀ {xs : List α} {ys : List β}, Paired F xs ys → xs.length = ys.length
  | _, _, .nil => rfl
  | _, _, .cons _ t => by rw [List.length_cons, List.length_cons, paired_len t]
theorem paired_get {α β : Type} {F : α → β → Prop} : ∀ {xs : List α} {ys : List β} {i : Nat} {v : α}, Paired F xs ys → xs[i]? = some v → ∃ d, ys[i]? = some d ∧ F v d
  | _, _, _, _, .nil, h => by simp at h
  | _, _, 0, v, .cons (b := b) hd _, g => by
    simp at g
    subst g
    exact ⟨b, rfl, hd⟩
  | _, _, i + 1, v, .cons _ t, g => by
    obtain ⟨d, e, h⟩ := paired_get (i := i) t (by simpa using g)
    exact ⟨d, by simpa using e, h⟩
theorem paired_take {α β : Type} {F : α → β → Prop} : ∀ {xs : List α} {ys : List β} (n : Nat), Paired F xs ys → Paired F (xs.take n) (ys.take n)
  | _, _, _, .nil => by rw [List.take_nil, List.take_nil]; exact .nil
  | _, _, 0, .cons _ _ => .nil
  | _, _, n + 1, .cons h t => .cons h (paired_take n t)
theorem paired_drop {α β : Type} {F : α → β → Prop} : ∀ {xs : List α} {ys : List β} (n : Nat), Paired F xs ys → Paired F (xs.drop n) (ys.drop n)
  | _, _, _, .nil => by rw [List.drop_nil, List.drop_nil]; exact .nil
  | _, _, 0, .cons h t => .cons h t
  | _, _, n + 1, .cons _ t => paired_drop n t
theorem paired_append {α β : Type} {F : α → β → Prop} {xs2 : List α} {ys2 : List β} (g : Paired F xs2 ys2) : ∀ {xs : List α} {ys : List β}, Paired F xs ys → Paired F (xs ++ xs2) (ys ++ ys2)
  | _, _, .nil => g
  | _, _, .cons h t => .cons h (paired_append g t)
noncomputable def oN : Option Nat → V
  | none => .non
  | some n => .int n
end SW

set_option Elab.async false
set_option linter.all false
set_option maxRecDepth 100000
namespace SW
open PySem PySem.Spec PyProof.Rows L2
end SW

set_option Elab.async false
set_option linter.all false
set_option maxRecDepth 100000
namespace SW
open PySem PySem.Spec PyProof.Rows L2
namespace B
theorem dget {X : Cx} {o i : Expr} {td ty : TE} {pos : Pos} (hu : X.A.units + 1 < cLine) (ho : Bx (PE X o td)) (hi : Bx (PE X i ty)) (hs : NoSl i := by exact fun _ _ => rfl) : Bx (PE X (.Subscript o i pos) (tDGet td ty)) := ⟨pe_dget hu ho.out hi.out hs⟩
end B
theorem wDGet {σ : L2.St} {H : Hp} {Q : VK} {td ty : TE} (h : td σ H fun x H1 => ty σ H1 fun y H2 => ∃ a v, x = .ref a ∧ DGet H2 a y (some v) ∧ Q v H2) : tDGet td ty σ H Q := h
section
variable {H : Hp} {Q : VK} {E : XK} {p : Addr}
end
section
variable {C : Addr} {H : Hp} {Q : VK} {E : XK} {p wa oa : Addr} {L : LS}
end
section
variable {C : Addr} {H H' : Hp} {p : Addr} {L : LS} {wa oa : Addr}
theorem str_ne {a b : PySem.Str} (h : (a == b) = false) : ¬ V.str a = V.str b := fun z => by
  injection z with z
  rw [z] at h
  exact absurd (beq_self_eq_true b) (by rw [h]; exact Bool.false_ne_true)
end
end SW

set_option Elab.async false
set_option linter.all false
set_option maxRecDepth 100000
namespace SW
open PySem PySem.Spec PyProof.Rows L2
section
variable {X : Cx} {scope : Scope} {cl : List (Str × Addr)} {os : List Str} {js : List Nat} {N' : List Str} {elt tgt iter : Expr} {ifs : List Expr} {pos : Pos} {wi : TI} {gt : TG} {tt : TT} {te : TE}
end
namespace B
end B
end SW

set_option Elab.async false
set_option linter.all false
set_option maxRecDepth 100000
namespace SW
open PySem PySem.Spec PyProof.Rows L2
section
variable {X : Cx} {pins : List (Addr × Obj)} {σ : L2.St} {H : Hp} {s : Shared}
end
section
variable {a D : Addr} {o : Obj} {kvs : List (Key × V)} {σ0 : L2.St} {H1 : Hp} {tt : TT} {te : TE}
end
section
variable {K : PySem.W.Frag} {H : Hp}
end
theorem pairs_lay : ∀ r : MRow, PyData.canLayAll0 (r.map fun p => PyData.tuple [.int p.1, .int p.2]) = true
  | [] => rfl
  | _ :: r => pairs_lay r
theorem pairs_deep : ∀ r : MRow, PyData.depthAll (r.map fun p => PyData.tuple [.int p.1, .int p.2]) ≤ 1
  | [] => by decide
  | _ :: r => by
    have := pairs_deep r
    simp only [List.map_cons, PyData.depthAll, PyData.depth]
    omega
theorem eqv_nil (ds : List PyData) : PyData.eqv (.list ds) (.list []) = ds.isEmpty := by cases ds <;> rfl
theorem wNeNil {K : PySem.W.Frag} {H : Hp} {Q : VK} {a b : Addr} {xs : List V} {ds : List PyData} (ha : SqL K H a xs) (hd : DatVs K H xs ds) (hb : SqL K H b []) (c : (PyData.list ds).canLay0 = true) (dp : (PyData.list ds).depth ≤ 60) (q : Q (.bl (!ds.isEmpty)) H) : rNeD K (.ref a) (.ref b) H Q :=
  ⟨.list ds, .list [], .lst ha hd, .lst hb .nil, c, rfl, dp, by rw [eqv_nil]; exact q⟩
namespace B
theorem tdnotin {X : Cx} {a d : Expr} {ty td : TE} {pos : Pos} (hu : X.A.units + 1 < cLine) (hk : Bx (PE X a ty)) (hd : Bx (PE X d td)) (h1 : behindInMarks .NotIn d = false := by first | rfl | with_unfolding_all rfl) : Bx (PT X (.Compare a [.NotIn] [d] pos) (tB (tDNotIn ty td))) := ⟨pt_cmp (pc_dnotin hu hk.out hd.out) h1⟩
end B
theorem wDNotIn {σ : L2.St} {H : Hp} {Q : VK} {td ty : TE} (h : ty σ H fun y H1 => td σ H1 fun x H2 => ∃ a o, x = .ref a ∧ DGet H2 a y o ∧ Q (.bl (!o.isSome)) H2) : tDNotIn ty td σ H Q := h
namespace B
end B
end SW

set_option Elab.async false
set_option linter.all false
set_option maxRecDepth 100000
namespace SW
open PySem PySem.Spec PyProof.Rows L2
end SW

set_option Elab.async false
set_option linter.all false
set_option maxRecDepth 100000
namespace SW
open PySem PySem.Spec PyProof.Rows L2
noncomputable def tOrA (K : PySem.W.Frag) (ta tb : TE) : TE := fun σ H Q => ta σ H fun x H1 => (x = .non ∧ tb σ H1 Q) ∨ ∃ a xs, x = .ref a ∧ SqT K H1 a xs ∧ if xs.isEmpty = true then tb σ H1 Q else Q x H1
theorem pe_orA {X : Cx} {a b : Expr} {rest : List Expr} {pos : Pos} {ta tb : TE} (ha : PE X a ta) (hb : PE X (.BoolOp .Or (b :: rest) pos) tb) : PE X (.BoolOp .Or (a :: b :: rest) pos) (tOrA X.K ta tb) := by
  intro pins s σ H Q I h
  refine BoolOp_or (thn (ha pins s σ H _ I h) fun v s1 zz => ?_)
  obtain ⟨x, H1, I1, r1, q1⟩ := zz
  rcases q1 with ⟨e, q1⟩ | ⟨a, xs, e, hx, q1⟩
  · subst e
    cases r1
    exact truthy_none (hb pins s1 σ H1 Q I1 q1)
  · subst e
    cases r1
    obtain ⟨its, r, ht, hz⟩ := I1.tuple hx
    have hl := r.length
    refine truthy_tuple (items := its.toArray) ht (by rw [List.size_toArray, ← hl]; exact Int.lt_of_le_of_lt (Int.ofNat_le.mpr hz) (by decide)) ?_
    have I2 : Inv X pins σ H1 { s1 with toks := s1.toks + 1 + 1 } := I1.kept (t' := s1.toks + 1 + 1) fun _ _ e => e
    cases xs with
    | nil =>
      cases r
      exact hb pins _ σ H1 Q I2 q1
    | cons y ys =>
      cases r with
      | cons r0 rs => exact ⟨.ref a, H1, I2, rfl, q1⟩
theorem B.orA {X : Cx} {a b : Expr} {rest : List Expr} {pos : Pos} {ta tb : TE} (ha : Bx (PE X a ta)) (hb : Bx (PE X (.BoolOp .Or (b :: rest) pos) tb)) : Bx (PE X (.BoolOp .Or (a :: b :: rest) pos) (tOrA X.K ta tb)) := ⟨pe_orA ha.out hb.out⟩
theorem wOrA {K : PySem.W.Frag} {ta tb : TE} {σ : L2.St} {H : Hp} {Q : VK} (h : ta σ H fun x H1 => (x = .non ∧ tb σ H1 Q) ∨ ∃ a xs, x = .ref a ∧ SqT K H1 a xs ∧ if xs.isEmpty = true then tb σ H1 Q else Q x H1) : tOrA K ta tb σ H Q := h
theorem meets_enumerate_newT (l : Addr) (items : Array Value) :
    Meets (Builtin.«enumerate.__new__» ⟨[.type "enumerate", .ref l], []⟩) (fun _ R s => s.heap.IsTuple l items ∧
      R (.ok (.ret (.ref (s.heap.push { cls := .type "tuple_iterator", data := .fields #[.ref l, .int 0 0] }).objs.size)))
        { s with heap := (s.heap.push { cls := .type "tuple_iterator", data := .fields #[.ref l, .int 0 0] }).push { cls := .type "enumerate", data := .fields #[.none, .bool false, .ref s.heap.objs.size, rawInt 0, .none, .none] } }) :=
  .of_wp fun prog w A R s h => by
    obtain ⟨hp, g, d, tk, os⟩ := s; obtain ⟨hl, h⟩ := h
    have hsub := sub_enumerate
    have hL : Heap.IsTuple (Shared.heap ⟨hp, g, d, tk, os⟩) l items := hl
    obtain ⟨o, ho, hc, n, hd⟩ := id hl
    obtain ⟨c, dd, dat, sl⟩ := o
    simp only at hc hd
    subst hc hd
    wp_walk using AutoSeq1.wpAny_loadPart' ho
    refine wpAny_stack_any fun st => wpAny_pure ?_
    split
    · rename_i c _ _ _ _ _
      cases (c == Value.type "enumerate")
      · wp_walk using AutoSeq1.wpAny_loadPart' ho, wpAny_pyIter_tuple hL
        exact ⟨_, rfl, h⟩
      · wp_walk using AutoSeq1.wpAny_loadPart' ho, wpAny_pyIter_tuple hL
        exact ⟨_, rfl, h⟩
    · wp_walk using AutoSeq1.wpAny_loadPart' ho, wpAny_pyIter_tuple hL
      exact ⟨_, rfl, h⟩
theorem call_enumerate_tuple {prog : Program} {w : World} {A : Around} {E : Value → Shared → Prop} {s : Shared} {l : Addr} {items : Array Value} {Q : Value → Shared → Prop} (hL : s.heap.IsTuple l items)
    (h : ∀ h', IsEnum h' (s.heap.objs.size + 1) s.heap.objs.size 0 .none → h'.IsTupleIter s.heap.objs.size l 0 → h'.objs.size = s.heap.objs.size + 2 →
      (∀ b o, s.heap.get? b = some o → h'.get? b = some o) → Q (.ref (s.heap.objs.size + 1)) { s with heap := h' }) :
    wpAny (model prog w) A (call (.type "enumerate") [.ref l]) Q E s := by
  refine callType_new F.called_enumerate (by decide) (F.typeCall_enumerate_1 _) (F.newCall_enumerate_1 _) (fun obj => F.args_object_init_2 obj _) F.entry_enumerate_new
    (meets_enumerate_newT l items) ⟨hL, ?_⟩
  have hz : (s.heap.push { cls := .type "tuple_iterator", data := .fields #[.ref l, .int 0 0] }).objs.size = s.heap.objs.size + 1 := Heap.size_push ..
  show _ ∧ _
  rw [hz]
  have he : IsEnum ((s.heap.push { cls := .type "tuple_iterator", data := .fields #[.ref l, .int 0 0] }).push
      { cls := .type "enumerate", data := .fields #[.none, .bool false, .ref s.heap.objs.size, rawInt 0, .none, .none] }) (s.heap.objs.size + 1) s.heap.objs.size 0 .none := by
    have := Heap.get?_push_size (s.heap.push { cls := .type "tuple_iterator", data := .fields #[.ref l, .int 0 0] })
      (o := { cls := .type "enumerate", data := .fields #[.none, .bool false, .ref s.heap.objs.size, rawInt 0, .none, .none] }) rfl
    rw [hz] at this; exact this
  refine ⟨⟨_, he, rfl⟩, h _ he ⟨_, Heap.get?_push_of_some _ (Heap.get?_push_size _ rfl), rfl, rfl⟩ (by rw [Heap.size_push, hz]) fun b o x => Heap.get?_push_of_some _ (Heap.get?_push_of_some _ x)⟩
theorem draws_tuple {prog : Program} {w : World} {A : Around} (hh : A.handled = none) (it l : Addr) (hne : l ≠ it) (items : Array Value) :
    Draws prog w A it [it, l] items.size (fun i v => items[i]? = some v) (fun i h => h.IsTupleIter it l i ∧ h.IsTuple l items) where
  live := fun _ _ st => let ⟨o, ho, _⟩ := st.1; ⟨o, ho⟩
  frame := fun _ _ _ st hk => ⟨st.1.at fun o e => hk it (by simp) o e, st.2.at fun o e => hk l (by simp) o e⟩
  item := fun i s Q E hi st hQ => by
    refine tzItem st.1 st.2 (x := items[i]) (by simp [hi]) fun h' hit' hs' => ?_
    exact hQ _ h' s.toks (by simp [hi]) ⟨hit', st.2.extBut hs'.extBut hne⟩ hs'
  done := fun s Q E st hE => tzFin hh st.1 st.2 (by simp) hE
noncomputable def Iteu (K : PySem.W.Frag) (l : Addr) : It :=
  ⟨fun i H => ∃ xs x, SqT K H l xs ∧ xs[i]? = some x,
   fun i H v H' => ∃ T x, H T = none ∧ v = .ref T ∧ (∀ xs, SqT K H l xs → xs[i]? = some x) ∧ H' = upd H T (.tup [.int i, x]),
   fun i H => ∃ xs, SqT K H l xs ∧ xs.length = i⟩
theorem turn_enumT {P : Program} {w : World} {K : PySem.W.Frag} {elts : List Expr} {k : Nat} {pos : Pos} (l e it : Addr) (hne : e ≠ it) (hle : l ≠ e) (hli : l ≠ it) : Turn P w K (.Tuple elts k pos) (Iteu K l) [e, it] e
    (fun i h => (∃ old, IsEnum h e it ((i : Nat) : Int) old) ∧ h.IsTupleIter it l i) where
  mem := by simp
  obj := fun i h st b hb => by
    obtain ⟨⟨old, s1⟩, ⟨o1, e1, c1, d1⟩⟩ := st
    simp only [List.mem_cons, List.not_mem_nil, or_false] at hb
    rcases hb with rfl | rfl
    · exact ⟨_, s1, fun v q => by cases q⟩
    · exact ⟨_, e1, fun v q => by rw [d1] at q; cases q⟩
  keep := fun i h h' st kk => by
    obtain ⟨⟨old, s1⟩, s4⟩ := st
    exact ⟨⟨old, kk e (by simp) _ s1⟩, s4.at fun o g => kk it (by simp) o g⟩
  item := by
    intro X hP hw hK hc i pins s σ H E I hf st hg
    subst hP hw hK
    obtain ⟨xs, x, hl, hx⟩ := hg
    obtain ⟨⟨old, s1⟩, s4⟩ := st
    obtain ⟨its1, rv1, p1, hz1⟩ := I.tuple hl
    obtain ⟨u1, hu1, ru1⟩ := rv1.get hx
    have hlt : i < its1.toArray.size := by
      rw [List.size_toArray]
      exact (List.getElem?_eq_some_iff.mp hu1).1
    refine wpAny_pyNext_enum_itemD (draws_tuple (prog := X.prog) (w := X.w) (A := X.A.in1) (I.ok.hd hc) it l hli its1.toArray) s1 ⟨s4, p1⟩ hlt hne (by simp [hne, hle.symm]) fun x' h1 tk hPx a1 a4 a5 a6 kk => ?_
    have ex : x' = u1 := by
      have : its1.toArray[i]? = some x' := hPx
      rw [← Array.getElem?_toList] at this
      rw [show its1.toArray.toList[i]? = some u1 from hu1] at this
      exact (Option.some.inj this).symm
    subst ex
    refine ⟨_, rfl, wpAny_letOwnedTupleGo_enum a1 fun h2 b1 sb => ?_⟩
    have ezT : s.heap.objs.size ≠ e := Nat.ne_of_gt (Heap.lt_size s1)
    have g5 : h2.get? s.heap.objs.size = some { cls := .type "tuple", data := .seq #[.int i tk, x'] } := sb.extBut _ _ ezT a5
    have keep2 : ∀ b u, b ∉ [e, it] → s.heap.get? b = some u → h2.get? b = some u := fun b u hb g => by
      simp only [List.mem_cons, List.not_mem_nil, or_false, not_or] at hb
      exact sb.extBut _ _ hb.1 (kk b u hb.1 hb.2 g)
    have I2 := Inv.turnedNew (t' := tk + 1) (h' := h2) (a := s.heap.objs.size) (o := .tup [.int i, x]) I keep2 hf (Nat.le_refl _)
      ⟨by show (2 : Nat) ≤ sizeLine; decide, [.int i tk, x'], .cons ⟨_, rfl⟩ (.cons ru1 .nil), _, g5, rfl, _, rfl⟩
    refine ⟨.ref s.heap.objs.size, _, I2, rfl, ⟨_, x, I.hok.fresh (Nat.le_refl _), rfl, fun zs hz => by rw [I.tuple_inj hz hl]; exact hx, rfl⟩, ⟨⟨_, b1⟩, a4.1.extBut sb.extBut hne.symm⟩, fun b hb => ?_⟩
    rw [upd_ne ?_]
    · exact (hf b hb).1
    · obtain ⟨o1, e1, _⟩ := s4
      simp only [List.mem_cons, List.not_mem_nil, or_false] at hb
      rcases hb with rfl | rfl
      · exact Nat.ne_of_lt (Heap.lt_size s1)
      · exact Nat.ne_of_lt (Heap.lt_size e1)
  done := by
    intro X hP hw hK hc i pins s σ H E I hf st hg
    subst hP hw hK
    obtain ⟨xs, hl, hx⟩ := hg
    obtain ⟨⟨old, s1⟩, s4⟩ := st
    obtain ⟨its1, rv1, p1, hz1⟩ := I.tuple hl
    have l1 := rv1.length
    have e1 : its1.toArray.size = i := by rw [List.size_toArray]; omega
    subst e1
    refine wpAny_pyNext_enum_endD (draws_tuple (prog := X.prog) (w := X.w) (A := X.A.in1) (I.ok.hd hc) it l hli its1.toArray) s1 ⟨s4, p1⟩ fun h1 kk => ⟨rfl, Inv.turnedL (t' := s.toks) I (fun b u hb g => ?_) hf⟩
    simp only [List.mem_cons, List.not_mem_nil, or_false, not_or] at hb
    exact kk b u hb.2 g
  self := fun _ _ _ _ _ st h => by
    obtain ⟨⟨old, s1⟩, _⟩ := st
    exact wpAny_pyIter_enum s1 h
section
variable {X : Cx} {elts : List Expr} {k : Nat} {tp : Pos}
noncomputable def iEnumT (K : PySem.W.Frag) (ta : TA) : TI := fun σ H R => ta σ H fun vs H1 => ∃ l, vs = [.ref l] ∧ (∃ xs, SqT K H1 l xs) ∧ R (Iteu K l) H1
theorem pi_enumT {a : Expr} {ta : TA} {p pos : Pos} (hg : Gl X "enumerate") (hm : X.mg "enumerate" = none) (ha : PA X [a] ta) (hs : starEach [a] X.env = [(false, eval a X.env)]) :
    PI X (.Tuple elts k tp) (.Call (.Name "enumerate" p) [a] [] pos) (iEnumT X.K ta) := by
  intro pins s σ H R I h
  refine Call_ (ld_blt I hg hm b_enumerate (PyProof.Rows.callWith_type1 (thn (ha pos pins s σ H _ I h) fun us s1 ⟨vs, H1, I1, r1, q1⟩ => ?_) hs rfl))
  obtain ⟨l, e, ⟨xs, hl⟩, q⟩ := q1
  subst e
  obtain ⟨u, rfl, ru⟩ := vals1 r1
  cases ru
  obtain ⟨its1, rv1, p1, _⟩ := I1.tuple hl
  have hlt : l < s1.heap.objs.size := p1.lt
  refine call_enumerate_tuple p1 fun h' he hit hsz hk => wpAny_pyIter_enum he ?_
  refine ⟨s1.heap.objs.size + 1, [s1.heap.objs.size + 1, s1.heap.objs.size], _, _, H1, rfl, I1.kept (t' := s1.toks) hk, turn_enumT l _ _ (Nat.succ_ne_self _) (Nat.ne_of_lt (Nat.lt_succ_of_lt hlt)) (Nat.ne_of_lt hlt), ⟨⟨_, he⟩, hit⟩, fun b hb => ?_, q⟩
  have hb' : s1.heap.objs.size ≤ b := by
    simp only [List.mem_cons, List.not_mem_nil, or_false] at hb
    rcases hb with rfl | rfl
    · exact Nat.le_add_right _ 1
    · exact Nat.le_refl _
  exact I1.fpOk hb' (I1.hok.fresh hb')
end
theorem B.ienumT {X : Cx} {elts : List Expr} {k : Nat} {tp : Pos} {a : Expr} {t : TA} {p pos : Pos} (hm : X.mg "enumerate" = none) (ha : Bx (PA X [a] t)) (hg : Gl X "enumerate" := by rfl) (h1 : plainE a = true := by rfl) : Bx (PI X (.Tuple elts k tp) (.Call (.Name "enumerate" p) [a] [] pos) (iEnumT X.K t)) :=
  ⟨pi_enumT hg hm ha.out (by rw [star_of h1]; rfl)⟩
theorem wEnumT {K : PySem.W.Frag} {σ : L2.St} {H : Hp} {ta : TA} {R : It → Hp → Prop} (h : ta σ H fun vs H1 => ∃ l, vs = [.ref l] ∧ (∃ xs, SqT K H1 l xs) ∧ R (Iteu K l) H1) : iEnumT K ta σ H R := h
theorem for_enumT {K : PySem.W.Frag} {l : Addr} {xs : List V} {g : TG} {tb : TS} {D : Ends} {σ : L2.St} {H : Hp} (Pv : Nat → L2.St → Hp → Prop) (h0 : Pv 0 σ H) (hl : ∀ i σ H, Pv i σ H → SqT K H l xs)
    (hs : ∀ i x σ H T, xs[i]? = some x → H T = none → Pv i σ H → g (.ref T) σ (upd H T (.tup [.int i, x])) fun σ2 H2 => tb { D with nx := Pv (i + 1), ct := Pv (i + 1), bk := D.nx } σ2 H2) (hd : ∀ σ H, Pv xs.length σ H → D.nx σ H) :
    ∃ W : Nat → Nat → L2.St → Hp → Prop, (∃ m, W 0 m σ H) ∧ ∀ i m σ H, W i m σ H →
      ((Iteu K l).stop i H ∧ D.nx σ H) ∨ ((Iteu K l).go i H ∧ ∃ N : L2.St → Hp → Prop, (∀ σ' H', N σ' H' → ∃ m', m' < m ∧ W (i + 1) m' σ' H') ∧ ∀ x H', (Iteu K l).yld i H x H' → g x σ H' fun σ2 H2 => tb { D with nx := N, ct := N, bk := D.nx } σ2 H2) := by
  refine ⟨fun i m σ H => m = xs.length - i ∧ i ≤ xs.length ∧ Pv i σ H, ⟨xs.length, by simp, Nat.zero_le _, h0⟩, ?_⟩
  rintro i m σ H ⟨rfl, hi, p⟩
  have q := hl i σ H p
  by_cases hlt : i < xs.length
  · refine .inr ⟨⟨xs, xs[i], q, by simp [hlt]⟩, Pv (i + 1), fun σ' H' p' => ⟨xs.length - (i + 1), by omega, rfl, hlt, p'⟩, fun v H' y => ?_⟩
    obtain ⟨T, x, hT, rfl, hx, rfl⟩ := y
    exact hs i x σ H T (hx xs q) hT p
  · have e : i = xs.length := by omega
    subst e
    exact .inl ⟨⟨xs, q, rfl⟩, hd _ _ p⟩
end SW

set_option Elab.async false
set_option linter.all false
set_option maxRecDepth 100000
namespace SW
open PySem PySem.Spec PyProof.Rows L2
section
variable {prog : Program} {w : World} {A : Around} {E : Value → Shared → Prop} {s : Shared}
theorem getItem_tuple_whole {t sl : Addr} {items : Array Value} {vl vu : Value} {lo hi : Option Int} {Q : Value → Shared → Prop} (ht : IsTup s.heap t items) (hs : s.heap.IsSliceOf sl vl vu .none) (pl : IsPart vl lo) (pu : IsPart vu hi)
    (hw : HT.sIx items.size 0 lo = 0 ∧ HT.sIx items.size items.size hi = items.size) (h : Q (.ref t) s) : wpAny (model prog w) A (getItem (.ref t) (.ref sl)) Q E s := by
  obtain ⟨os, hos, hcs, hds⟩ := id hs
  have hTs : s.TypeIs (.ref sl) "slice" := ⟨os, hos, hcs⟩
  unfold getItem
  try with_reducible refine wpAny_holding ?_
  first | refine wpAny_bind (wpAny_pure ?_) | skip
  refine wpAny_bind (wpAny_sequenceKey ht.typeIs (by decide) ?_)
  refine wpAny_bind (wpAny_callSpecial?_slot (name := Str.ofString "__getitem__") ht.typeIs PyProof.Rows.slot_tuple_getitem
    (wpAny_call_entry PyProof.Rows.slot_tuple_getitem ht.typeIs entry_tuple_getitem ?_ (args_tuple_getitem _ _)))
  show wpAny _ _ (Builtin.Tuple.tupleItemsOf (.ref t) >>= _) _ _ s
  refine wpAny_bind (tupleItemsOf_ ht ?_)
  refine wpAny_bind (wpAny_typeOf hTs ?_)
  rw [if_pos (by decide)]
  refine wpAny_bind (HT.sliceApplied_gen hs pl pu ?_)
  have hyes : (((HT.sIx items.size 0 lo : Nat) : Int) == 0 && (1 : Int) == 1 && (HT.sIx items.size items.size hi - HT.sIx items.size 0 lo) == items.size) = true := by
    rw [hw.1, hw.2]; simp
  show wpAny _ _ (if (((HT.sIx items.size 0 lo : Nat) : Int) == 0 && (1 : Int) == 1 && (HT.sIx items.size items.size hi - HT.sIx items.size 0 lo) == items.size) = true then _ else _) _ _ s
  rw [if_pos hyes]
  unfold Builtin.Tuple.tupleIsExact
  refine wpAny_bind (wpAny_bind (wpAny_typeOf ht.typeIs (wpAny_pure ?_)))
  rw [if_pos (by decide)]
  refine wpAny_bind (wpAny_rule ?_)
  first
    | exact wpAny_pure ⟨_, rfl, wpAny_pure h⟩
    | exact wpAny_bind (wpAny_pure (wpAny_pure ⟨_, rfl, wpAny_pure h⟩))
end
section
variable {X : Cx}
noncomputable def rSlA : V → Option Int → Option Int → Hp → VK → Prop := fun x lo hi H Q => ∃ a xs, x = .ref a ∧ H a = some (.tup xs) ∧ ∀ p H', Same H H' → H' p = some (.tup (cutV xs lo hi)) → Q (.ref p) H'
theorem cut_whole {xs : List V} {lo hi : Option Int} (hw : HT.sIx xs.length 0 lo = 0 ∧ HT.sIx xs.length xs.length hi = xs.length) : cutV xs lo hi = xs := by
  unfold cutV
  rw [hw.1, hw.2, List.drop_zero, Nat.sub_zero, List.take_length]
theorem sl_tupA : SlR X rSlA := by
  intro pins s σ H x v vl vu lo hi sl Q I rx hs pl pu h
  obtain ⟨a, xs, rfl, hx, q⟩ := h
  by_cases hw : HT.sIx xs.length 0 lo = 0 ∧ HT.sIx xs.length xs.length hi = xs.length
  · cases rx
    obtain ⟨its, r, ht, hz⟩ := I.tuple (SqT.of hx)
    have hlen : its.toArray.size = xs.length := by rw [List.size_toArray]; exact r.length.symm
    refine ⟨"tuple", _, PyProof.Rows.slot_tuple_getitem.lookup, ht.typeIs, ?_⟩
    exact getItem_tuple_whole ht hs pl pu (by rw [hlen]; exact hw) ⟨.ref a, H, I, rfl, q a H (fun _ _ e => e) (by rw [cut_whole hw]; exact hx)⟩
  · exact sl_tup pins s σ H _ v vl vu lo hi sl Q I rx hs pl pu ⟨a, xs, rfl, SqT.of hx, hw, fun p hp => q p _ (Same.new hp) upd_same⟩
end
theorem noFill_tuple_mul : fillsNumberSlot (.type "tuple") "mul" = pure false :=
  PySem.fillsNumberSlot_seq (id := "tuple.__mul__") (r := some (.builtin "tuple.__rmul__")) F.slot_tuple_mul.lookup (by decide +kernel) F.slot_tuple_rmul.lookup (by decide +kernel)
theorem repeat_tuple : seqRepeat? (.type "tuple") = pure (some (.builtin "tuple.__mul__")) := by
  unfold seqRepeat?
  rw [PySem.seqSlot_of (T := "tuple") (name := "__mul__") (id := "tuple.__mul__") F.slot_tuple_mul.lookup (by decide +kernel), PySem.seqSlot_of (T := "tuple") (name := "__rmul__") (id := "tuple.__rmul__") F.slot_tuple_rmul.lookup (by decide +kernel)]
  rfl
theorem int___rmul___int_tuple (a : Int) (t : Tok) (l : Addr) (items : Array Value) (n : Nat) (dd : Option Addr) (sl : Array (Option Value)) :
    Meets (Builtin.«int.__rmul__» ⟨[.int a t, .ref l], []⟩) (fun _ R s => s.heap.get? l = some { cls := .type "tuple", dict := dd, data := .seq items n, slots := sl } ∧ R (.ok (.ret Value.notImplemented)) s) :=
  .of_wp fun prog w A R s h => by obtain ⟨hp, g, d, tk, os⟩ := s; obtain ⟨hl, h⟩ := h; wp_walk; exact ⟨_, rfl, h⟩
theorem tuple_mulW (l : Addr) (items : Array Value) (n : Nat) (dd : Option Addr) (sl : Array (Option Value)) (k : Int) (t : Tok) (h1 : 1 < k) (h2 : k < 2 ^ 62) (h0 : items.isEmpty = false) (hz : items.size * k.toNat ≤ sizeLine) (hz2 : ((List.replicate k.toNat items).foldl (· ++ ·) #[]).size ≤ sizeLine) :
    Meets (Builtin.«tuple.__mul__» ⟨[.ref l, .int k t], []⟩) (fun _ R s => s.heap.get? l = some { cls := .type "tuple", dict := dd, data := .seq items n, slots := sl } ∧
      R (.ok (.ret (.ref s.heap.objs.size))) { s with heap := s.heap.push { cls := .type "tuple", data := .seq ((List.replicate k.toNat items).foldl (· ++ ·) #[]) }, toks := s.toks }) :=
  .of_wp fun prog w A R s h => by
    obtain ⟨hp, g, d, tk, os⟩ := s; obtain ⟨hl, h⟩ := h
    have e1 : ¬ (decide (k < -(2 ^ 63)) || decide (k ≥ 2 ^ 63)) = true := by simp; omega
    have e2 : ¬ (items.isEmpty || k == 1) = true := by rw [h0]; simp; omega
    have e3 : ¬ (decide (k ≤ 0) || items.isEmpty) = true := by rw [h0]; simp; omega
    have hk : ((k.toNat : Nat) : Int) = k := Int.toNat_of_nonneg (by omega)
    have hm : (items.size : Int) * k = ((items.size * k.toNat : Nat) : Int) := by rw [Int.natCast_mul, hk]
    have e4 : ¬ (items.size : Int) * k > (2 ^ 63 - 1) / 8 := by
      rw [hm]
      have : (sizeLine : Nat) ≤ (2 ^ 63 - 1) / 8 := by decide
      omega
    have e5 : ¬ Builtin.Tuple.tupleTooMany ((items.size : Int) * k) = true := by
      unfold Builtin.Tuple.tupleTooMany
      rw [hm]
      intro z
      have := of_decide_eq_true z
      omega
    have f1 := AutoSeq1.idx_int
    wp_walk using AutoSeq1.wpAny_loadPart' hl
    rw [if_neg e1]
    wp_walk using AutoSeq1.wpAny_loadPart' hl
    rw [if_neg e2]
    show wpAny _ _ (if (decide (k ≤ 0) || items.isEmpty) = true then _ else _) _ _ _
    rw [if_neg e3]
    show wpAny _ _ (if (items.size : Int) * k > (2 ^ 63 - 1) / 8 then _ else _) _ _ _
    rw [if_neg e4]
    show wpAny _ _ (if Builtin.Tuple.tupleTooMany ((items.size : Int) * k) = true then _ else _) _ _ _
    rw [if_neg e5]
    exact wpAny_bind (m := Builtin.Tuple.tupleExact _) (wpAny_newObj_type (wpAny_pure ⟨_, rfl, h⟩) hz2)
section
variable {X : Cx}
noncomputable def rRepT : R2 := fun x y H Q => ∃ l k xs, x = .ref l ∧ y = .int k ∧ H l = some (.tup xs) ∧ xs ≠ [] ∧ 1 < k ∧ k < 2 ^ 62 ∧ xs.length * k.toNat ≤ sizeLine ∧ ∀ p, H p = none → Q (.ref p) (upd H p (.tup (List.replicate k.toNat xs).flatten))
theorem op_repT : OpR X (binaryOp .Mult) rRepT := by
  intro pins s σ H x y v u Q I rx ry h
  obtain ⟨l, k, xs, rfl, rfl, hH, hne, h1, h2, hz, q⟩ := h
  cases rx
  obtain ⟨t, rfl⟩ := ry
  obtain ⟨its, r, ht, hz0⟩ := I.tuple (SqT.of hH)
  obtain ⟨⟨c, dd, dat, sl⟩, ho, hc, n, hd⟩ := id ht
  simp only at hc hd
  subst hc hd
  have hl := r.length
  have hlen : its.toArray.size * k.toNat ≤ sizeLine := by rw [List.size_toArray, ← hl]; exact hz
  have h0 : its.toArray.isEmpty = false := by
    cases r with
    | nil => exact absurd rfl hne
    | cons a b => rfl
  have hnew : List.foldl (fun x1 x2 => x1 ++ x2) #[] (List.replicate k.toNat its.toArray) = (List.replicate k.toNat its).flatten.toArray := by
    have := foldl_rep its k.toNat []
    rw [List.nil_append] at this
    exact this
  have hz2 : (List.foldl (fun x1 x2 => x1 ++ x2) #[] (List.replicate k.toNat its.toArray)).size ≤ sizeLine := by
    rw [hnew, List.size_toArray, len_rep, ← hl, Nat.mul_comm]; exact hz
  refine wpAny_binaryOp_repeat_ref (T := "tuple") (U := "int") (by decide) ⟨_, ho, rfl⟩ (fun s' => typeIs_int s' k t) noFill_tuple_mul F.fills_int_mul F.slot_int_rmul repeat_tuple F.slot_int_index.lookup
    (call_meets F.slot_int_rmul (typeIs_int s k t) F.entry_int_rmul (F.args_int_rmul_2 _ _) (int___rmul___int_tuple k t l its.toArray n dd sl)
      ⟨ho, rfl, ⟨_, ho, rfl⟩, call_meets F.slot_tuple_mul ⟨_, ho, rfl⟩ F.entry_tuple_mul (F.args_tuple_mul_2 _ _) (tuple_mulW l its.toArray n dd sl k t h1 h2 h0 hlen hz2) ⟨ho, ?_⟩⟩)
  rw [hnew]
  refine ⟨.ref _, _, I.laid (t' := s.toks) (o := .tup (List.replicate k.toNat xs).flatten) (fun b ob q => Heap.get?_push_of_some _ q) (Nat.le_refl _) ?_, rfl, q _ (I.hok.fresh (Nat.le_refl _))⟩
  exact ⟨by rw [len_rep, Nat.mul_comm]; exact hz, _, r.rep k.toNat, IsTup.new _ _⟩
end
section
variable {X : Cx}
noncomputable def rInD (K : PySem.W.Frag) : R2 := fun x y H Q => ∃ (d : PyData) (p : Addr) (xs : List V) (ds : List PyData), DatV K H x d ∧ y = .ref p ∧ SqL K H p xs ∧ DatVs K H xs ds ∧ d.canLay0 = true ∧ PyData.canLayAll0 ds = true ∧ d.depth ≤ 60 ∧ Q (.bl (ds.any fun e => PyData.eqv e d)) H
theorem op_inD (K : PySem.W.Frag) (hu : X.A.units + 64 < cLine) (hK : X.K = K := by rfl) : OpR X (compareOp .In) (rInD K) := by
  subst hK
  intro pins s σ H x y v u Q I rx ry h
  obtain ⟨d, p, xs, ds, hd, rfl, hl, hds, c1, c2, dp, q⟩ := h
  obtain ⟨as, r1⟩ := reads_of I hd rx
  obtain ⟨bs, r2⟩ := reads_of I (.lst hl hds) ry
  refine SeqAt.in_list_reads r2 r1 c2 c1 ?_ ⟨.bl _, H, I, rfl, q⟩
  have := Nat.min_le_right (PyData.depthAll ds) d.depth
  omega
end
end SW

set_option Elab.async false
set_option linter.all false
set_option maxRecDepth 100000
namespace SW
open PySem PySem.Spec PyProof.Rows L2
theorem removeAt_loop (l : Addr) (items : Array Value) (n : Nat) (x : Value) (e : Value → Bool) (j : Nat) (hj : j < items.size) (hit : e items[j] = true) (k : Nat) (hs1 : items.size ≤ sizeLine) :
    ∀ i : Nat, j - i = k → i ≤ j → (∀ m (hm : m < items.size), i ≤ m → m < j → e items[m] = false) → Meets (Builtin.«list.remove.loop» ⟨[.ref l, x, rawInt i], []⟩)
      (fun A R s => s.heap.get? l = some { cls := .type "list", dict := none, data := .seq items n, slots := #[] } ∧ (∀ y, y ∈ items → SeqAt.EqAt A.in1 s y x (e y)) ∧ R (.ok (.ret .none)) { s with heap := s.heap.update l (Obj.mapSeq fun xs => xs.eraseIdxIfInBounds j) }) := by
  induction k with
  | zero =>
    intro i hk hij hno prog w A R s h
    obtain ⟨hp, g, d, tk, os⟩ := s; obtain ⟨hl, he, h⟩ := h
    have hij' : i = j := by omega
    subst hij'
    wp_walk using AutoSeq1.wpAny_loadPart' hl
    have hi : items[((i : Nat) : Int).toNat]? = some items[i] := by simp [hj]
    rw [hi]
    refine wpAny_bind (he _ (Array.getElem_mem hj) prog w _ _ ?_)
    rw [hit]
    have hz' : (items.eraseIdxIfInBounds i).size ≤ sizeLine + 1 := Nat.le_trans (MeetsSeq.size_erased items _) (Nat.le_succ_of_le hs1)
    wp_walk using (wpAny_updateSeq hl rfl (hz := hs1) (_hz' := hz')), AutoSeq1.wpAny_loadPart' hl
    simpa using h
  | succ k ih =>
    intro i hk hij hno prog w A R s h
    obtain ⟨hp, g, d, tk, os⟩ := s; obtain ⟨hl, he, h⟩ := h
    have hlt : i < items.size := by omega
    wp_walk using AutoSeq1.wpAny_loadPart' hl
    have hi : items[((i : Nat) : Int).toNat]? = some items[i] := by simp [hlt]
    have hc : ((i : Int) + 1) = ((i + 1 : Nat) : Int) := by push_cast; rfl
    rw [hi]
    refine wpAny_bind (he _ (Array.getElem_mem hlt) prog w _ _ ?_)
    rw [hno i hlt (Nat.le_refl _) (by omega)]
    wp_walk
    rw [hc]
    exact ⟨plainId_quiet MeetsSeq.plain_remove_loop _, codeAny_builtin MeetsSeq.entry_remove_loop (by
      rw [Around.under_plainId MeetsSeq.plain_remove_loop _]
      exact ih (i + 1) (by omega) (by omega) (fun m hm h1 h2 => hno m hm (by omega) h2) prog w A R _ ⟨hl, he, h⟩)⟩
theorem list_removeAt (l : Addr) (items : Array Value) (n : Nat) (x : Value) (e : Value → Bool) (j : Nat) (hj : j < items.size)
    (hit : e items[j] = true) (hno : ∀ m (hm : m < items.size), m < j → e items[m] = false) (hs1 : items.size ≤ sizeLine) :
    Meets (Builtin.«list.remove» ⟨[.ref l, x], []⟩)
      (fun A R s => s.heap.get? l = some { cls := .type "list", dict := none, data := .seq items n, slots := #[] } ∧ (∀ y, y ∈ items → SeqAt.EqAt A.in1 s y x (e y)) ∧ R (.ok (.ret .none)) { s with heap := s.heap.update l (Obj.mapSeq fun xs => xs.eraseIdxIfInBounds j) }) := by
  intro prog w A R s h
  obtain ⟨hp, g, d, tk, os⟩ := s; obtain ⟨hl, he, h⟩ := h
  wp_walk using AutoSeq1.wpAny_loadPart' hl
  exact ⟨plainId_quiet MeetsSeq.plain_remove_loop _, codeAny_builtin MeetsSeq.entry_remove_loop (by
    rw [Around.under_plainId MeetsSeq.plain_remove_loop _]
    exact removeAt_loop l items n x e j hj hit _ hs1 0 rfl (Nat.zero_le _) (fun m hm _ h2 => hno m hm h2) prog w A R _ ⟨hl, he, h⟩)⟩
theorem first_at {α : Type} (e : α → Bool) : ∀ (xs : List α), xs.any e = true → ∃ j, ∃ h : j < xs.length, e xs[j] = true ∧ ∀ m (hm : m < xs.length), m < j → e xs[m] = false
  | [], h => by cases h
  | x :: xs, h => by
    cases hx : e x with
    | true => exact ⟨0, Nat.zero_lt_succ _, hx, fun m _ z => absurd z (Nat.not_lt_zero _)⟩
    | false =>
      rw [List.any_cons, hx, Bool.false_or] at h
      obtain ⟨j, hj, h1, h2⟩ := first_at e xs h
      refine ⟨j + 1, Nat.succ_lt_succ hj, h1, fun m hm z => ?_⟩
      cases m with
      | zero => exact hx
      | succ m => exact h2 m (Nat.lt_of_succ_lt_succ hm) (Nat.lt_of_succ_lt_succ z)
section
variable {X : Cx}
noncomputable def rRemove (K : PySem.W.Frag) : V → List V → Hp → VK → Prop := fun x vs H Q => ∃ (l : Addr) (y : V) (d : PyData) (xs : List V) (ds : List PyData), x = .ref l ∧ vs = [y] ∧ H l = some (.lst xs) ∧ DatV K H y d ∧ DatVs K H xs ds ∧ d.canLay0 = true ∧ PyData.canLayAll0 ds = true ∧ d.depth ≤ 50 ∧
  (ds.any fun e => PyData.eqv e d) = true ∧ ∀ j, j < xs.length → Q .non (upd H l (.lst (xs.eraseIdx j)))
theorem mt_remove (K : PySem.W.Frag) (hu : X.A.units + 64 < cLine) (hK : X.K = K := by rfl) : MtM X "list.remove" (rRemove K) := by
  subst hK
  intro pins s σ H x vs v us Q I rx rv h
  obtain ⟨l, y, d, xs, ds, rfl, rfl, hH, hd, hds, c1, c2, dp, hany, q⟩ := h
  cases rx
  obtain ⟨u, rfl, ru⟩ := rv.one
  obtain ⟨z, its, n, r, hl, e⟩ := I.lstM hH
  obtain ⟨as, r1⟩ := reads_of I hd ru
  obtain ⟨bs, r2⟩ := reads_all I hds r
  have heq : ∀ A : Around, A.units + 62 < cLine → ∀ y, y ∈ its.toArray → SeqAt.EqAt A.in1 s y u (PyData.eqv (SeqAt.readOf s.heap y) d) := fun A hA =>
    SeqAt.items_eqAt (A := A) (vs := its.toArray) (by simpa using r2) r1 c2 c1 (by have := Nat.min_le_right (PyData.depthAll ds) d.depth; omega)
  have hany2 : its.any (fun y => PyData.eqv (SeqAt.readOf s.heap y) d) = true := by
    have := SeqAt.any_by_data (s := s) (vs := its.toArray) (d := d) (by simpa using r2) c2
    rw [hany] at this
    simpa using this
  obtain ⟨j, hj, h1, h2⟩ := first_at _ its hany2
  refine call_meets F.slot_list_remove ⟨_, e, rfl⟩ F.entry_list_remove (F.args_list_remove_2 _ _) (list_removeAt l its.toArray n u (fun y => PyData.eqv (SeqAt.readOf s.heap y) d) j (by rw [List.size_toArray]; exact hj) (by simpa using h1) (fun m hm z => by simpa using h2 m (by rw [List.size_toArray] at hm; exact hm) z) (by rw [List.size_toArray]; omega)) ⟨e, ?_, ?_⟩
  · exact fun y hy => heq _ (by omega) y hy
  · refine ⟨.non, _, I.lset (its' := its.eraseIdx j) hH e ?_ (r.eraseIdx j) ?_, rfl, q j (by omega)⟩
    · show its.toArray.eraseIdxIfInBounds j = (its.eraseIdx j).toArray
      rw [List.eraseIdxIfInBounds_toArray]
    · have := len_erase xs j
      omega
end
end SW

set_option Elab.async false
set_option linter.all false
set_option maxRecDepth 100000
namespace SW
open PySem PySem.Spec PyProof.Rows L2
noncomputable def RowV (H : Hp) (v : V) (r : MRow) : Prop := ∃ b ys, v = .ref b ∧ H b = some (.tup ys) ∧ Prs H ys r
noncomputable def RowsV (H : Hp) (v : V) (R : MRows) : Prop := ∃ a xs, v = .ref a ∧ H a = some (.tup xs) ∧ Paired (RowV H) xs R
noncomputable def ElV (H : Hp) (v : V) : Option MRows → Prop
  | none => v = .non
  | some R => RowsV H v R
structure Sta where
  el : Option MRows
  mv : Int
  nw : MRows
noncomputable def StV (H : Hp) (v : V) (S : Sta) : Prop := ∃ u ve vn, v = .ref u ∧ H u = some (.tup [ve, .int S.mv, vn]) ∧ ElV H ve S.el ∧ RowsV H vn S.nw
theorem RowV.keep {H H' : Hp} {v : V} {r : MRow} (h : RowV H v r) (k : TK H H') : RowV H' v r := by
  obtain ⟨b, ys, e, h1, h2⟩ := h
  exact ⟨b, ys, e, k _ _ h1, h2.keep k⟩
theorem rows_keep {H H' : Hp} {xs : List V} {R : MRows} (h : Paired (RowV H) xs R) (k : TK H H') : Paired (RowV H') xs R := Paired.mapP h fun _ _ z => z.keep k
theorem RowsV.keep {H H' : Hp} {v : V} {R : MRows} (h : RowsV H v R) (k : TK H H') : RowsV H' v R := by
  obtain ⟨b, ys, e, h1, h2⟩ := h
  exact ⟨b, ys, e, k _ _ h1, rows_keep h2 k⟩
theorem ElV.keep {H H' : Hp} {v : V} {e : Option MRows} (h : ElV H v e) (k : TK H H') : ElV H' v e := by
  cases e with
  | none => exact h
  | some R => exact RowsV.keep h k
theorem StV.keep {H H' : Hp} {v : V} {S : Sta} (h : StV H v S) (k : TK H H') : StV H' v S := by
  obtain ⟨u, ve, vn, e, h1, h2, h3⟩ := h
  exact ⟨u, ve, vn, e, k _ _ h1, h2.keep k, h3.keep k⟩
inductive Flt where
  | places
  | moved
  | at_ (kind : Nat) (sh : Bool) (i : Nat)
noncomputable def shN : Bool → PySem.Str
  | true => "elder"
  | false => "newer"
noncomputable def fkN : Nat → PySem.Str
  | 0 => "place"
  | 1 => "emptied"
  | _ => "twice"
noncomputable def fltL : Flt → List V
  | .places => [.str "places"]
  | .moved => [.str "moved"]
  | .at_ k sh i => [.str (fkN k), .str (shN sh), .int i]
noncomputable def FltV (H : Hp) (v : V) : Option Flt → Prop
  | none => v = .non
  | some f => ∃ u, v = .ref u ∧ H u = some (.tup (fltL f))
noncomputable abbrev Trip := Bool × Nat × Int
noncomputable def tripR (sh : Bool) (i : Nat) (r : MRow) : List Trip := r.map fun p => (sh, i, p.1)
noncomputable def tripF (sh : Bool) : Nat → MRows → List Trip
  | _, [] => []
  | i, r :: rs => tripR sh i r ++ tripF sh (i + 1) rs
theorem tripF_snoc (sh : Bool) : ∀ (R : MRows) (i : Nat) (r : MRow), tripF sh i (R ++ [r]) = tripF sh i R ++ tripR sh (i + R.length) r
  | [], i, r => by show tripR sh i r ++ [] = [] ++ tripR sh (i + 0) r; rw [List.append_nil]; rfl
  | q :: R, i, r => by
    show tripR sh i q ++ tripF sh (i + 1) (R ++ [r]) = (tripR sh i q ++ tripF sh (i + 1) R) ++ _
    rw [tripF_snoc sh R (i + 1) r, List.append_assoc, List.length_cons]
    congr 3
    omega
noncomputable def firstP (f m : Int) (sz : Bool → Nat) (mv : Bool → Int) : List Int → List Trip → Option Flt
  | _, [] => none
  | ks, (sh, i, k) :: ts => if (k * f + m) % 65536 % (sz sh : Int) ≠ i then some (.at_ 0 sh i) else if (i : Int) < mv sh then some (.at_ 1 sh i) else if k ∈ ks then some (.at_ 2 sh i) else firstP f m sz mv (ks ++ [k]) ts
theorem firstP_cons (f m : Int) (sz : Bool → Nat) (mv : Bool → Int) (ks : List Int) (sh : Bool) (i : Nat) (k : Int) (ts : List Trip) : firstP f m sz mv ks ((sh, i, k) :: ts) = if (k * f + m) % 65536 % (sz sh : Int) ≠ i then some (.at_ 0 sh i) else if (i : Int) < mv sh then some (.at_ 1 sh i) else if k ∈ ks then some (.at_ 2 sh i) else firstP f m sz mv (ks ++ [k]) ts := rfl
theorem firstP_app (f m : Int) (sz : Bool → Nat) (mv : Bool → Int) : ∀ (a b : List Trip) (ks : List Int), firstP f m sz mv ks (a ++ b) = match firstP f m sz mv ks a with | some x => some x | none => firstP f m sz mv (ks ++ a.map (·.2.2)) b
  | [], b, ks => by show firstP f m sz mv ks b = firstP f m sz mv (ks ++ []) b; rw [List.append_nil]
  | (sh, i, k) :: a, b, ks => by
    rw [List.cons_append, firstP_cons, firstP_cons]
    by_cases h1 : (k * f + m) % 65536 % (sz sh : Int) ≠ i
    · rw [if_pos h1, if_pos h1]
    · rw [if_neg h1, if_neg h1]
      by_cases h2 : (i : Int) < mv sh
      · rw [if_pos h2, if_pos h2]
      · rw [if_neg h2, if_neg h2]
        by_cases h3 : k ∈ ks
        · rw [if_pos h3, if_pos h3]
        · rw [if_neg h3, if_neg h3, firstP_app f m sz mv a b (ks ++ [k]), List.map_cons, List.append_assoc]; rfl
instance (n : Nat) : Decidable (isSize n) := inferInstanceAs (Decidable (n ∈ [4, 8, 16, 32, 64, 128, 256, 512, 1024, 2048, 4096]))
noncomputable def rightP (S : Sta) : Bool := decide (isSize S.nw.length) && match S.el with | none => true | some E => decide (isSize E.length) && (decide (E.length = 2 * S.nw.length) || decide (S.nw.length = 2 * E.length))
noncomputable def rightM (S : Sta) : Bool := decide (0 ≤ S.mv) && decide (S.mv < match S.el with | none => 1 | some E => (E.length : Int))
noncomputable def szOf (S : Sta) : Bool → Nat := fun b => if b then (S.el.getD []).length else S.nw.length
noncomputable def mvOf (S : Sta) : Bool → Int := fun b => if b then S.mv else 0
noncomputable def tripS (S : Sta) : List Trip := tripF true 0 (S.el.getD []) ++ tripF false 0 S.nw
noncomputable def faultOf (f m : Int) (S : Sta) : Option Flt := if rightP S = false then some .places else if rightM S = false then some .moved else firstP f m (szOf S) (mvOf S) [] (tripS S)
theorem tripR_len (sh : Bool) (i : Nat) (r : MRow) : (tripR sh i r).length = r.length := List.length_map ..
theorem tripF_len (sh : Bool) : ∀ (R : MRows) (i : Nat), (tripF sh i R).length = tot R
  | [], _ => rfl
  | r :: R, i => by
    show (tripR sh i r ++ tripF sh (i + 1) R).length = r.length + tot R
    rw [List.length_append, tripR_len, tripF_len sh R]
noncomputable def TrV (H : Hp) (v : V) (t : Trip) : Prop := ∃ b, v = .ref b ∧ H b = some (.tup [.str (shN t.1), .int (t.2.1 : Nat), .int t.2.2])
noncomputable abbrev TrVs (H : Hp) (xs : List V) (ts : List Trip) : Prop := Paired (TrV H) xs ts
theorem TrV.keep {H H' : Hp} {v : V} {t : Trip} (h : TrV H v t) (k : TK H H') : TrV H' v t := by
  obtain ⟨b, e, h⟩ := h
  exact ⟨b, e, k _ _ h⟩
theorem TrVs.keep {H H' : Hp} {xs : List V} {ts : List Trip} (h : TrVs H xs ts) (k : TK H H') : TrVs H' xs ts := Paired.mapP h fun _ _ z => z.keep k
noncomputable def kbs (ks : List Int) : List (Key × V) := ks.map fun k => (Sum.inl k, V.bl true)
theorem valV_kbs (ks : List Int) (k : Int) : (valV (kbs ks) (Sum.inl k)).isSome = decide (k ∈ ks) := by
  induction ks with
  | nil => rfl
  | cons j ks ih =>
    unfold valV kbs at ih ⊢
    rw [List.map_cons]
    by_cases h : j = k
    · subst h
      simp
    · have h2 : ¬ k = j := fun z => h z.symm
      simp [h, h2] at ih ⊢
      simpa using ih
theorem putK_kbs {ks : List Int} {k : Int} (h : k ∉ ks) : putK (kbs ks) (Sum.inl k) (V.bl true) = kbs (ks ++ [k]) := by
  have e : (valV (kbs ks) (Sum.inl k)).isSome = false := by rw [valV_kbs]; exact decide_eq_false h
  unfold putK
  rw [valV_any, e, if_neg Bool.false_ne_true]
  unfold kbs
  rw [List.map_append]
  rfl
theorem kbs_len (ks : List Int) : (kbs ks).length = ks.length := List.length_map ..
theorem call_listK (K : PySem.W.Frag) {X : Cx} (h : X.K = K := by rfl) : CallR X (.type "list") (fun xs H Q => ∃ p ys, xs = [.ref p] ∧ (SqL K H p ys ∨ SqT K H p ys) ∧ ∀ l, H l = none → Q (.ref l) (upd H l (.lst ys))) := by subst h; exact call_list_of
namespace B
theorem ppnil {X : Cx} {pos : Pos} : Bx (PPs X pos [] [] []) := ⟨pps_nil⟩
theorem ppcons {X : Cx} {pos : Pos} {k v : Expr} {ks : List (Option Expr)} {vs : List Expr} {tk tv : TE} {trs : List (TE × TE)} (hk : Bx (PE X k tk)) (hv : Bx (PE X v tv)) (hr : Bx (PPs X pos ks vs trs)) : Bx (PPs X pos (some k :: ks) (v :: vs) ((tk, tv) :: trs)) := ⟨pps_cons hk.out hv.out hr.out⟩
theorem disp {X : Cx} {pos : Pos} {keys : List (Option Expr)} {values : List Expr} {trs : List (TE × TE)} (h : Bx (PPs X pos keys values trs)) (hall : keys.all (·.isSome) = true := by rfl) (hl : keys.length = values.length := by rfl) (h0 : keys ≠ [] := by intro h; cases h) (h15 : keys.length ≤ 15 := by exact Nat.le_of_ble_eq_true rfl) : Bx (PE X (.Dict keys values pos) (tDisp trs)) := ⟨pe_disp h.out hall hl h0 h15⟩
end B
theorem wDisp {trs : List (TE × TE)} {σ : L2.St} {H : Hp} {Q : VK} (h : ∀ p, H p = none → tPairs trs σ (upd H p (.dK [])) fun ps H2 => H2 p = some (.dK []) ∧ ∃ kvs : List (Key × V), ps = kvs.map (fun kv => (kV kv.1, kv.2)) ∧ kvs.length ≤ 15 ∧ Q (.ref p) (upd H2 p (.dK (mergeK [] kvs)))) : tDisp trs σ H Q := h
theorem wPairs {tk tv : TE} {r : List (TE × TE)} {σ : L2.St} {H : Hp} {Q : List (V × V) → Hp → Prop} (h : tk σ H fun x H1 => tv σ H1 fun y H2 => tPairs r σ H2 fun ps H3 => Q ((x, y) :: ps) H3) : tPairs ((tk, tv) :: r) σ H Q := h
theorem wPairs0 {σ : L2.St} {H : Hp} {Q : List (V × V) → Hp → Prop} (h : Q [] H) : tPairs [] σ H Q := h
theorem merge2 {a b : PySem.Str} {x y : V} (hab : (a == b) = false) : mergeK [] [((Sum.inr a : Key), x), (Sum.inr b, y)] = [(Sum.inr a, x), (Sum.inr b, y)] := by
  show putK (putK [] (Sum.inr a : Key) x) (Sum.inr b) y = _
  unfold putK
  have hn : ¬ a = b := fun z => by rw [z, beq_self_eq_true] at hab; cases hab
  simp [hn]
theorem disp2 {Qf : List (Key × V) → Prop} {H : Hp} {p : Addr} {a b : PySem.Str} {x y : V} (hp : H p = some (.dK [])) (q : Qf [(Sum.inr a, x), (Sum.inr b, y)]) :
    H p = some (.dK []) ∧ ∃ kvs : List (Key × V), [(V.str a, x), (V.str b, y)] = kvs.map (fun kv => (kV kv.1, kv.2)) ∧ kvs.length ≤ 15 ∧ Qf kvs :=
  ⟨hp, [(Sum.inr a, x), (Sum.inr b, y)], rfl, by show (2 : Nat) ≤ 15; decide, q⟩
theorem val2a {a b : PySem.Str} {x y : V} : valV [((Sum.inr a : Key), x), (Sum.inr b, y)] (Sum.inr a) = some x := valV_pos rfl
theorem val2b {a b : PySem.Str} {x y : V} (hab : (a == b) = false) : valV [((Sum.inr a : Key), x), (Sum.inr b, y)] (Sum.inr b) = some y := by
  have hn : ¬ ((Sum.inr a : Key)) = Sum.inr b := fun z => by injection z with z; rw [z, beq_self_eq_true] at hab; cases hab
  rw [valV_neg hn]
  exact valV_pos rfl
theorem inV_intsB (k : Int) : ∀ ks : List Int, inV (V.int k) (ks.map V.int) = decide (k ∈ ks)
  | [] => rfl
  | j :: ks => by
    have ih := inV_intsB k ks
    show (eqV (V.int j) (V.int k) || inV (V.int k) (ks.map V.int)) = decide (k ∈ j :: ks)
    rw [ih, Bool.eq_iff_iff, Bool.or_eq_true, decide_eq_true_iff, decide_eq_true_iff, List.mem_cons]
    show ((j == k) = true ∨ k ∈ ks) ↔ _
    rw [beq_iff_eq]
    exact ⟨fun z => z.elim (fun e => .inl e.symm) .inr, fun z => z.elim (fun e => .inl e.symm) .inr⟩
theorem take_snocF {α : Type} {xs : List α} {i : Nat} {v : α} (h : xs[i]? = some v) : xs.take (i + 1) = xs.take i ++ [v] := by rw [List.take_add_one, h]; rfl
theorem B.ilistK (K : PySem.W.Frag) {X : Cx} {tg l : Expr} {tl : TE} (hl : Bx (PE X l tl)) (h : X.K = K := by rfl) : Bx (PI X tg l (iList K tl)) := by subst h; exact ⟨pi_list hl.out⟩
end SW

set_option Elab.async false
set_option linter.all false
set_option maxRecDepth 100000
namespace SW
open PySem PySem.Spec PyProof.Rows L2
mutual
inductive Any (H : Hp) : V → PyData → Prop
  | non : Any H .non .none
  | bl (b : Bool) : Any H (.bl b) (.bool b)
  | int (i : Int) : Any H (.int i) (.int i)
  | str (x : PySem.Str) : Any H (.str x) (.str x)
  | lst {a : Addr} {xs : List V} {ds : List PyData} (h : H a = some (.lst xs)) (r : Anys H xs ds) : Any H (.ref a) (.list ds)
  | tup {a : Addr} {xs : List V} {ds : List PyData} (h : H a = some (.tup xs)) (r : Anys H xs ds) : Any H (.ref a) (.tuple ds)
  | dic {a : Addr} (h : H a = some (.dK [])) : Any H (.ref a) (.dict [])
inductive Anys (H : Hp) : List V → List PyData → Prop
  | nil : Anys H [] []
  | cons {x : V} {xs : List V} {d : PyData} {ds : List PyData} (h : Any H x d) (r : Anys H xs ds) : Anys H (x :: xs) (d :: ds)
end
mutual
theorem Any.same {H H' : Hp} (s : Same H H') : ∀ {v : V} {d : PyData}, Any H v d → Any H' v d
  | _, _, .non => .non
  | _, _, .bl b => .bl b
  | _, _, .int i => .int i
  | _, _, .str x => .str x
  | _, _, .lst h r => .lst (s _ _ h) (Anys.same s r)
  | _, _, .tup h r => .tup (s _ _ h) (Anys.same s r)
  | _, _, .dic h => .dic (s _ _ h)
theorem Anys.same {H H' : Hp} (s : Same H H') : ∀ {xs : List V} {ds : List PyData}, Anys H xs ds → Anys H' xs ds
  | _, _, .nil => .nil
  | _, _, .cons h r => .cons (Any.same s h) (Anys.same s r)
end
theorem Anys.len {H : Hp} : ∀ {xs : List V} {ds : List PyData}, Anys H xs ds → xs.length = ds.length
  | _, _, .nil => rfl
  | _, _, .cons _ r => congrArg (· + 1) (Anys.len r)
theorem Anys.get {H : Hp} : ∀ {xs : List V} {ds : List PyData} {i : Nat} {x : V}, Anys H xs ds → xs[i]? = some x → ∃ d, ds[i]? = some d ∧ Any H x d
  | _, _, 0, _, .cons h r, e => ⟨_, rfl, by cases e; exact h⟩
  | _, _, i + 1, _, .cons h r, e => Anys.get (i := i) r e
theorem Anys.app {H : Hp} {ys : List V} {es : List PyData} (g : Anys H ys es) : ∀ {xs : List V} {ds : List PyData}, Anys H xs ds → Anys H (xs ++ ys) (ds ++ es)
  | _, _, .nil => g
  | _, _, .cons h r => .cons h (Anys.app g r)
theorem Anys.take {H : Hp} : ∀ {xs : List V} {ds : List PyData} (n : Nat), Anys H xs ds → Anys H (xs.take n) (ds.take n)
  | _, _, 0, _ => .nil
  | _, _, n + 1, .nil => .nil
  | _, _, n + 1, .cons h r => .cons h (Anys.take n r)
theorem Anys.drop {H : Hp} : ∀ {xs : List V} {ds : List PyData} (n : Nat), Anys H xs ds → Anys H (xs.drop n) (ds.drop n)
  | _, _, 0, r => r
  | _, _, n + 1, .nil => .nil
  | _, _, n + 1, .cons h r => Anys.drop n r
noncomputable def less (p : Addr) (H : Hp) : Hp := fun a => if a = p then none else H a
theorem less_le (p : Addr) (H : Hp) : Same (less p H) H := fun a o e => by
  unfold less at e
  by_cases c : a = p
  · rw [if_pos c] at e; cases e
  · rw [if_neg c] at e; exact e
theorem less_keep {p : Addr} {H H' : Hp} (k : KeepBut p H H') : Same (less p H) (less p H') := fun a o e => by
  unfold less at e ⊢
  by_cases c : a = p
  · rw [if_pos c] at e; cases e
  · rw [if_neg c] at e; rw [if_neg c]; exact k _ _ c e
theorem less_ne {p a : Addr} {H : Hp} {o : HO} (h : H a = some o) (n : a ≠ p) : less p H a = some o := by
  unfold less; rw [if_neg n]; exact h
noncomputable def isWhD : PyData → Bool
  | .int _ => true
  | _ => false
noncomputable def isInD (lo : Int) : PyData → Bool
  | .int i => decide (lo ≤ i) && decide (i ≤ 1000000000)
  | _ => false
noncomputable def isPairD : PyData → Bool
  | .tuple [a, b] => isInD 0 a && isInD (-1000000000) b
  | _ => false
noncomputable def isRowD : PyData → Bool
  | .tuple ps => ps.all isPairD
  | _ => false
noncomputable def areRowsD : PyData → Bool
  | .tuple rs => rs.all isRowD
  | _ => false
noncomputable def isElD : PyData → Bool
  | .none => true
  | d => areRowsD d
noncomputable def isStateD : PyData → Bool
  | .tuple [e, m, n] => isElD e && isWhD m && areRowsD n
  | _ => false
theorem pair_of {H : Hp} {v : V} {d : PyData} (h : Any H v d) (e : isPairD d = true) : ∃ q : Int × Int, PrV H v q ∧ d = .tuple [.int q.1, .int q.2] ∧ (0 ≤ q.1 ∧ q.1 ≤ 1000000000) ∧ (-1000000000 ≤ q.2 ∧ q.2 ≤ 1000000000) := by
  unfold isPairD at e
  split at e
  · rename_i a b
    cases h with
    | tup h r =>
      cases r with
      | cons h1 r =>
        cases r with
        | cons h2 r =>
          cases r
          rw [Bool.and_eq_true] at e
          obtain ⟨e1, e2⟩ := e
          cases h1 with
          | int i =>
            cases h2 with
            | int j =>
              have e1 : (decide (0 ≤ i) && decide (i ≤ 1000000000)) = true := e1
              have e2 : (decide (-1000000000 ≤ j) && decide (j ≤ 1000000000)) = true := e2
              rw [Bool.and_eq_true, decide_eq_true_iff, decide_eq_true_iff] at e1 e2
              exact ⟨(i, j), ⟨_, rfl, h⟩, rfl, e1, e2⟩
            | _ => cases e2
          | _ => cases e1
  · cases e
noncomputable def rowD (r : MRow) : PyData := .tuple (r.map fun q => .tuple [.int q.1, .int q.2])
noncomputable def rowsD (R : MRows) : PyData := .tuple (R.map rowD)
theorem row_of {H : Hp} {v : V} {d : PyData} (h : Any H v d) (e : isRowD d = true) : ∃ r : MRow, RowV H v r ∧ d = rowD r := by
  unfold isRowD at e
  split at e
  · rename_i ps
    cases h with
    | @tup a xs _ h r =>
      have key : ∀ {xs : List V} {ps : List PyData}, Anys H xs ps → ps.all isPairD = true → ∃ r : MRow, Prs H xs r ∧ ps = r.map fun q => PyData.tuple [.int q.1, .int q.2] := by
        intro xs ps r
        induction ps generalizing xs with
        | nil => intro _; cases r; exact ⟨[], .nil, rfl⟩
        | cons d ps ih =>
          intro e
          rw [List.all_cons, Bool.and_eq_true] at e
          cases r with
          | cons h1 r =>
            obtain ⟨q, hq, rfl, _⟩ := pair_of h1 e.1
            obtain ⟨r', hr', rfl⟩ := ih r e.2
            exact ⟨q :: r', .cons hq hr', rfl⟩
      obtain ⟨r', hr', rfl⟩ := key r e
      exact ⟨r', ⟨_, _, rfl, h, hr'⟩, rfl⟩
  · cases e
theorem rows_of {H : Hp} {v : V} {d : PyData} (h : Any H v d) (e : areRowsD d = true) : ∃ R : MRows, RowsV H v R ∧ d = rowsD R := by
  unfold areRowsD at e
  split at e
  · rename_i ps
    cases h with
    | @tup a xs _ h r =>
      have key : ∀ {xs : List V} {ps : List PyData}, Anys H xs ps → ps.all isRowD = true → ∃ R : MRows, Paired (RowV H) xs R ∧ ps = R.map rowD := by
        intro xs ps r
        induction ps generalizing xs with
        | nil => intro _; cases r; exact ⟨[], .nil, rfl⟩
        | cons d ps ih =>
          intro e
          rw [List.all_cons, Bool.and_eq_true] at e
          cases r with
          | cons h1 r =>
            obtain ⟨q, hq, rfl⟩ := row_of h1 e.1
            obtain ⟨r', hr', rfl⟩ := ih r e.2
            exact ⟨q :: r', .cons hq hr', rfl⟩
      obtain ⟨r', hr', rfl⟩ := key r e
      exact ⟨r', ⟨_, _, rfl, h, hr'⟩, rfl⟩
  · cases e
noncomputable def elD : Option MRows → PyData
  | none => .none
  | some R => rowsD R
noncomputable def stD (S : Sta) : PyData := .tuple [elD S.el, .int S.mv, rowsD S.nw]
theorem el_of {H : Hp} {v : V} {d : PyData} (h : Any H v d) (e : isElD d = true) : ∃ R : Option MRows, ElV H v R ∧ d = elD R := by
  unfold isElD at e
  split at e
  · cases h; exact ⟨none, rfl, rfl⟩
  · obtain ⟨R, h1, h2⟩ := rows_of h e
    exact ⟨some R, h1, h2⟩
theorem state_of {H : Hp} {v : V} {d : PyData} (h : Any H v d) (e : isStateD d = true) : ∃ S : Sta, StV H v S ∧ d = stD S := by
  unfold isStateD at e
  split at e
  · rename_i a b c
    cases h with
    | tup h r =>
      cases r with
      | cons h1 r =>
        cases r with
        | cons h2 r =>
          cases r with
          | cons h3 r =>
            cases r
            rw [Bool.and_eq_true, Bool.and_eq_true] at e
            obtain ⟨⟨e1, e2⟩, e3⟩ := e
            obtain ⟨el, g1, rfl⟩ := el_of h1 e1
            obtain ⟨nw, g3, rfl⟩ := rows_of h3 e3
            cases h2 with
            | int i => exact ⟨⟨el, i, nw⟩, ⟨_, _, _, rfl, h, g1, g3⟩, rfl⟩
            | _ => cases e2
  · cases e
theorem pr_any {H : Hp} {v : V} {q : Int × Int} (h : PrV H v q) : Any H v (.tuple [.int q.1, .int q.2]) := by
  obtain ⟨a, rfl, h⟩ := h
  exact .tup h (.cons (.int _) (.cons (.int _) .nil))
theorem prs_any {H : Hp} : ∀ {xs : List V} {r : MRow}, Prs H xs r → Anys H xs (r.map fun q => PyData.tuple [.int q.1, .int q.2])
  | _, _, .nil => .nil
  | _, _, .cons h r => .cons (pr_any h) (prs_any r)
theorem row_any {H : Hp} {v : V} {r : MRow} (h : RowV H v r) : Any H v (rowD r) := by
  obtain ⟨b, ys, rfl, h1, h2⟩ := h
  exact .tup h1 (prs_any h2)
theorem rowsl_any {H : Hp} : ∀ {xs : List V} {R : MRows}, Paired (RowV H) xs R → Anys H xs (R.map rowD)
  | _, _, .nil => .nil
  | _, _, .cons h r => .cons (row_any h) (rowsl_any r)
theorem rows_any {H : Hp} {v : V} {R : MRows} (h : RowsV H v R) : Any H v (rowsD R) := by
  obtain ⟨b, ys, rfl, h1, h2⟩ := h
  exact .tup h1 (rowsl_any h2)
theorem el_any {H : Hp} {v : V} {e : Option MRows} (h : ElV H v e) : Any H v (elD e) := by
  cases e with
  | none => rw [show v = V.non from h]; exact .non
  | some R => exact rows_any h
theorem st_any {H : Hp} {v : V} {S : Sta} (h : StV H v S) : Any H v (stD S) := by
  obtain ⟨u, ve, vn, rfl, h1, h2, h3⟩ := h
  exact .tup h1 (.cons (el_any h2) (.cons (.int _) (.cons (rows_any h3) .nil)))
noncomputable def tyD : PyData → String
  | .none => "NoneType"
  | .bool _ => "bool"
  | .int _ => "int"
  | .str _ => "str"
  | .list _ => "list"
  | .tuple _ => "tuple"
  | .dict _ => "dict"
noncomputable def isIntD : PyData → Bool
  | .int _ => true
  | .bool _ => true
  | _ => false
noncomputable def isBoolD : PyData → Bool
  | .bool _ => true
  | _ => false
noncomputable def isTupD : PyData → Bool
  | .tuple _ => true
  | _ => false
theorem Any.ty {K : PySem.W.Frag} {H : Hp} {v : V} {d : PyData} (h : Any H v d) : TyOf K H v (.type (tyD d)) := by
  cases h with
  | non => exact .non
  | bl b => exact .bl b
  | int i => exact .int i
  | str x => exact .str x
  | lst h r => exact .lst h
  | tup h r => exact .tup h
  | dic h => exact .dK h
theorem isi_d_int {K : PySem.W.Frag} (d : PyData) : PySem.W.kitOne K (.type (tyD d)) (.type "int") = some (isIntD d) := by
  cases d with
  | none => show PySem.W.kitOne [] (.type "NoneType") (.type "int") = some false; decide +kernel
  | bool b => show PySem.W.kitOne [] (.type "bool") (.type "int") = some true; decide +kernel
  | int i => show PySem.W.kitOne [] (.type "int") (.type "int") = some true; decide +kernel
  | str x => show PySem.W.kitOne [] (.type "str") (.type "int") = some false; decide +kernel
  | list x => show PySem.W.kitOne [] (.type "list") (.type "int") = some false; decide +kernel
  | tuple x => show PySem.W.kitOne [] (.type "tuple") (.type "int") = some false; decide +kernel
  | dict x => show PySem.W.kitOne [] (.type "dict") (.type "int") = some false; decide +kernel
theorem isi_d_bool {K : PySem.W.Frag} (d : PyData) : PySem.W.kitOne K (.type (tyD d)) (.type "bool") = some (isBoolD d) := by
  cases d with
  | none => show PySem.W.kitOne [] (.type "NoneType") (.type "bool") = some false; decide +kernel
  | bool b => show PySem.W.kitOne [] (.type "bool") (.type "bool") = some true; decide +kernel
  | int i => show PySem.W.kitOne [] (.type "int") (.type "bool") = some false; decide +kernel
  | str x => show PySem.W.kitOne [] (.type "str") (.type "bool") = some false; decide +kernel
  | list x => show PySem.W.kitOne [] (.type "list") (.type "bool") = some false; decide +kernel
  | tuple x => show PySem.W.kitOne [] (.type "tuple") (.type "bool") = some false; decide +kernel
  | dict x => show PySem.W.kitOne [] (.type "dict") (.type "bool") = some false; decide +kernel
theorem isi_d_tup {K : PySem.W.Frag} (d : PyData) : PySem.W.kitOne K (.type (tyD d)) (.type "tuple") = some (isTupD d) := by
  cases d with
  | none => show PySem.W.kitOne [] (.type "NoneType") (.type "tuple") = some false; decide +kernel
  | bool b => show PySem.W.kitOne [] (.type "bool") (.type "tuple") = some false; decide +kernel
  | int i => show PySem.W.kitOne [] (.type "int") (.type "tuple") = some false; decide +kernel
  | str x => show PySem.W.kitOne [] (.type "str") (.type "tuple") = some false; decide +kernel
  | list x => show PySem.W.kitOne [] (.type "list") (.type "tuple") = some false; decide +kernel
  | tuple x => show PySem.W.kitOne [] (.type "tuple") (.type "tuple") = some true; decide +kernel
  | dict x => show PySem.W.kitOne [] (.type "dict") (.type "tuple") = some false; decide +kernel
theorem Fn.imp {P : Program} {w : World} {K : PySem.W.Frag} {mg : Str → Option Value} {base : Heap} {x : Str} {k : Nat} {ps : List Str} {sp sp' : Sp} (F : Fn P w K mg base x k ps sp) (h : ∀ vs H Q E, sp' vs H Q E → sp vs H Q E) : Fn P w K mg base x k ps sp' := by
  obtain ⟨f, fd, a, b⟩ := F.ex
  exact ⟨f, fd, a.imp h, b⟩
section
variable {X : Cx}
theorem op_neLE (hu : X.A.units < cLine) : OpR X (compareOp .NotEq) (fun x y H Q => ∃ a b xs, x = .ref a ∧ y = .ref b ∧ SqL X.K H a xs ∧ SqL X.K H b [] ∧ Q (.bl (!xs.isEmpty)) H) := by
  intro pins s σ H x y v u Q I rx ry h
  obtain ⟨a, b, xs, rfl, rfl, ha, hb, q⟩ := h
  cases rx
  cases ry
  obtain ⟨i1, r1, ⟨o1, n1, g1, c1, _, d1⟩, _⟩ := I.list ha
  obtain ⟨i2, r2, ⟨o2, n2, g2, c2, _, d2⟩, _⟩ := I.list hb
  have e2 : i2 = [] := by cases r2; rfl
  subst e2
  cases r1 with
  | nil => exact SeqAt.RcNeAt.lists (items := #[]) (items2 := #[]) (e := fun _ => true) ⟨o1, g1, c1, n1, d1⟩ ⟨o2, g2, c2, n2, d2⟩ rfl hu (fun j h1 _ => absurd h1 (by simp)) _ _ _ _ ⟨.bl false, H, I, rfl, q⟩
  | cons a b => exact SeqAt.RcNeAt.lists_lengths ⟨o1, g1, c1, n1, d1⟩ ⟨o2, g2, c2, n2, d2⟩ (by simp) hu _ _ _ _ ⟨.bl true, H, I, rfl, q⟩
theorem op_neTE (hu : X.A.units < cLine) : OpR X (compareOp .NotEq) (fun x y H Q => ∃ a b xs, x = .ref a ∧ y = .ref b ∧ SqT X.K H a xs ∧ SqT X.K H b [] ∧ Q (.bl (!xs.isEmpty)) H) := by
  intro pins s σ H x y v u Q I rx ry h
  obtain ⟨a, b, xs, rfl, rfl, ha, hb, q⟩ := h
  cases rx
  cases ry
  obtain ⟨i1, r1, t1, _⟩ := I.tuple ha
  obtain ⟨i2, r2, t2, _⟩ := I.tuple hb
  have e2 : i2 = [] := by cases r2; rfl
  subst e2
  have ez : (i1.toArray.size == 0) = xs.isEmpty := by cases r1 <;> rfl
  refine SeqAt.RcNeAt.tuples (e := fun _ => true) t1 t2 hu (fun j _ h2 => absurd h2 (by simp)) _ _ _ _ ⟨.bl (!xs.isEmpty), H, I, ?_, q⟩
  show Value.bool _ = Value.bool _
  rw [← ez]
  simp
end
end SW

set_option Elab.async false
set_option linter.all false
set_option maxRecDepth 100000
namespace SW
open PySem PySem.Spec PyProof.Rows L2
mutual
noncomputable def szD : PyData → Nat
  | .tuple ds => 1 + szL ds
  | _ => 1
noncomputable def szL : List PyData → Nat
  | [] => 0
  | d :: ds => szD d + szL ds
end
theorem szD_pos (d : PyData) : 1 ≤ szD d := by
  cases d with
  | tuple ds => rw [szD]; omega
  | _ => simp [szD]
theorem szL_len : ∀ ds : List PyData, ds.length ≤ szL ds
  | [] => Nat.zero_le _
  | d :: ds => by
    have := szL_len ds
    have := szD_pos d
    rw [szL, List.length_cons]; omega
theorem szL_mem {x : PyData} : ∀ {ds : List PyData}, x ∈ ds → szD x ≤ szL ds
  | d :: ds, h => by
    rw [szL]
    rcases List.mem_cons.mp h with rfl | h
    · omega
    · have := szL_mem h; omega
theorem szL_app : ∀ (a b : List PyData), szL (a ++ b) = szL a + szL b
  | [], b => by rw [List.nil_append, szL, Nat.zero_add]
  | d :: a, b => by rw [List.cons_append, szL, szL, szL_app a b, Nat.add_assoc]
theorem szL_take (ds : List PyData) (n : Nat) : szL (ds.take n) ≤ szL ds := by
  have := szL_app (ds.take n) (ds.drop n)
  rw [List.take_append_drop] at this
  omega
theorem szL_drop (ds : List PyData) (n : Nat) : szL (ds.drop n) ≤ szL ds := by
  have := szL_app (ds.take n) (ds.drop n)
  rw [List.take_append_drop] at this
  omega
theorem sz_tup (ds : List PyData) : szD (.tuple ds) = 1 + szL ds := by rw [szD]
theorem sz_list (ds : List PyData) : szD (.list ds) = 1 := by rw [szD]; intro _ h; cases h
theorem sz_dict (ds : List (PyData × PyData)) : szD (.dict ds) = 1 := by rw [szD]; intro _ h; cases h
theorem sz_int (i : Int) : szD (.int i) = 1 := by rw [szD]; intro _ h; cases h
theorem sz_bool (i : Bool) : szD (.bool i) = 1 := by rw [szD]; intro _ h; cases h
theorem sz_str (i : PySem.Str) : szD (.str i) = 1 := by rw [szD]; intro _ h; cases h
theorem sz_none : szD .none = 1 := by rw [szD]; intro _ h; cases h
theorem sz_prs : ∀ r : MRow, szL (r.map fun q => PyData.tuple [.int q.1, .int q.2]) = 3 * r.length
  | [] => by rw [List.map_nil, szL]; rfl
  | q :: r => by rw [List.map_cons, szL, sz_prs r, sz_tup, szL, szL, szL, sz_int, sz_int, List.length_cons]; omega
theorem sz_rowD (r : MRow) : szD (rowD r) = 1 + 3 * r.length := by unfold rowD; rw [sz_tup, sz_prs]
theorem sz_rowsL : ∀ R : MRows, szL (R.map rowD) = R.length + 3 * tot R
  | [] => by rw [List.map_nil, szL]; rfl
  | r :: R => by
    have e : tot (r :: R) = r.length + tot R := by unfold tot; rw [List.map_cons, List.sum_cons]
    rw [List.map_cons, szL, sz_rowsL R, sz_rowD, List.length_cons, e]; omega
theorem sz_rowsD (R : MRows) : szD (rowsD R) = 1 + (R.length + 3 * tot R) := by unfold rowsD; rw [sz_tup, sz_rowsL]
theorem sz_elD (e : Option MRows) : szD (elD e) = 1 + ((e.getD []).length + 3 * tot (e.getD [])) := by
  cases e with
  | none => show szD .none = _; rw [sz_none]; rfl
  | some R => exact sz_rowsD R
theorem sz_stD (S : Sta) : szD (stD S) = 2 + szD (elD S.el) + szD (rowsD S.nw) := by
  unfold stD
  rw [sz_tup, szL, szL, szL, szL]
  rw [sz_int]; omega
theorem less_same {p : Addr} {H H' : Hp} (s : Same H H') : Same (less p H) (less p H') := less_keep (Same.but s)
theorem any_but {p : Addr} {H H' : Hp} {v : V} {d : PyData} (h : Any (less p H) v d) (k : KeepBut p H H') : Any (less p H') v d := h.same (less_keep k)
theorem anys_but {p : Addr} {H H' : Hp} {v : List V} {d : List PyData} (h : Anys (less p H) v d) (k : KeepBut p H H') : Anys (less p H') v d := h.same (less_keep k)
theorem any_up {p : Addr} {H : Hp} {v : V} {d : PyData} (h : Any (less p H) v d) : Any H v d := h.same (less_le p H)
noncomputable def AllA (p : Addr) (n : Nat) (H : Hp) (vs : List V) : Prop := ∀ v ∈ vs, ∃ d, Any (less p H) v d ∧ szD d ≤ n
theorem AllA.nil {p : Addr} {n : Nat} {H : Hp} : AllA p n H [] := fun v h => by cases h
theorem AllA.but {p : Addr} {n : Nat} {H H' : Hp} {vs : List V} (A : AllA p n H vs) (k : KeepBut p H H') : AllA p n H' vs := fun v h => by
  obtain ⟨d, h1, h2⟩ := A v h
  exact ⟨d, any_but h1 k, h2⟩
theorem AllA.same {p : Addr} {n : Nat} {H H' : Hp} {vs : List V} (A : AllA p n H vs) (s : Same H H') : AllA p n H' vs := A.but (Same.but s)
theorem AllA.cons {p : Addr} {n : Nat} {H : Hp} {v : V} {vs : List V} (A : AllA p n H vs) {d : PyData} (h : Any (less p H) v d) (hs : szD d ≤ n) : AllA p n H (v :: vs) := fun x hx => by
  rcases List.mem_cons.mp hx with rfl | hx
  · exact ⟨d, h, hs⟩
  · exact A x hx
theorem AllA.snoc {p : Addr} {n : Nat} {H : Hp} {v : V} {vs : List V} (A : AllA p n H vs) {d : PyData} (h : Any (less p H) v d) (hs : szD d ≤ n) : AllA p n H (vs ++ [v]) := fun x hx => by
  rcases List.mem_append.mp hx with hx | hx
  · exact A x hx
  · rw [List.mem_singleton.mp hx]; exact ⟨d, h, hs⟩
theorem AllA.new {p : Addr} {n : Nat} {H : Hp} {vs : List V} {t : Addr} {o : HO} (A : AllA p n H vs) (h : H t = none) : AllA p n (upd H t o) vs := A.same (Same.new h)
theorem any_tup {p t : Addr} {H : Hp} {xs : List V} {ds : List PyData} (hp : Row H p) (h : H t = none) (r : Anys (less p H) xs ds) : Any (less p (upd H t (.tup xs))) (.ref t) (.tuple ds) :=
  .tup (less_ne upd_same (hp.ne0 h).symm) (r.same (less_same (Same.new h)))
theorem any_lst {p t : Addr} {H : Hp} {xs : List V} {ds : List PyData} (hp : Row H p) (h : H t = none) (r : Anys (less p H) xs ds) : Any (less p (upd H t (.lst xs))) (.ref t) (.list ds) :=
  .lst (less_ne upd_same (hp.ne0 h).symm) (r.same (less_same (Same.new h)))
theorem any_dic {p t : Addr} {H : Hp} (hp : Row H p) (h : H t = none) : Any (less p (upd H t (.dK []))) (.ref t) (.dict []) :=
  .dic (less_ne upd_same (hp.ne0 h).symm)
theorem less_tup {p t : Addr} {H : Hp} {xs : List V} (hp : Row H p) (h : H t = some (.tup xs)) : less p H t = some (.tup xs) := less_ne h (hp.ne h)
theorem tk_less {p : Addr} {H : Hp} (hp : Row H p) : TK H (less p H) := fun a xs e => less_tup hp e
noncomputable def cutD (ds : List PyData) (lo hi : Option Int) : List PyData := (ds.drop (HT.sIx ds.length 0 lo)).take (HT.sIx ds.length ds.length hi - HT.sIx ds.length 0 lo)
theorem Anys.cut {H : Hp} {xs : List V} {ds : List PyData} (h : Anys H xs ds) (lo hi : Option Int) : Anys H (cutV xs lo hi) (cutD ds lo hi) := by
  unfold cutV cutD
  rw [h.len]
  exact Anys.take _ (Anys.drop _ h)
theorem cutD_sz (ds : List PyData) (lo hi : Option Int) : szL (cutD ds lo hi) ≤ szL ds := Nat.le_trans (szL_take _ _) (szL_drop _ _)
theorem cutD_len (ds : List PyData) (lo hi : Option Int) : (cutD ds lo hi).length ≤ ds.length := by
  unfold cutD
  rw [List.length_take, List.length_drop]; omega
theorem AllA.tup {p : Addr} {n : Nat} {H : Hp} {vs : List V} {t : Addr} {xs : List V} {ds : List PyData} (A : AllA p n H vs) (hp : Row H p) (h : H t = none) (r : Anys (less p H) xs ds) (hs : szD (.tuple ds) ≤ n) : AllA p n (upd H t (.tup xs)) (.ref t :: vs) := (A.new h).cons (any_tup hp h r) hs
theorem AllA.lst {p : Addr} {n : Nat} {H : Hp} {vs : List V} {t : Addr} {xs : List V} {ds : List PyData} (A : AllA p n H vs) (hp : Row H p) (h : H t = none) (r : Anys (less p H) xs ds) (hs : 1 ≤ n) : AllA p n (upd H t (.lst xs)) (.ref t :: vs) := (A.new h).cons (any_lst hp h r) (by rw [sz_list]; exact hs)
theorem AllA.dic {p : Addr} {n : Nat} {H : Hp} {vs : List V} {t : Addr} (A : AllA p n H vs) (hp : Row H p) (h : H t = none) (hs : 1 ≤ n) : AllA p n (upd H t (.dK [])) (.ref t :: vs) := (A.new h).cons (any_dic hp h) (by rw [sz_dict]; exact hs)
theorem an0 {H : Hp} : Anys H [] [] := .nil
theorem an1 {H : Hp} {a : V} {x : PyData} (h : Any H a x) : Anys H [a] [x] := .cons h .nil
theorem an2 {H : Hp} {a b : V} {x y : PyData} (h : Any H a x) (k : Any H b y) : Anys H [a, b] [x, y] := .cons h (.cons k .nil)
theorem an3 {H : Hp} {a b c : V} {x y z : PyData} (h : Any H a x) (k : Any H b y) (l : Any H c z) : Anys H [a, b, c] [x, y, z] := .cons h (.cons k (.cons l .nil))
theorem sz_1 (a : PyData) : szD (.tuple [a]) = 1 + szD a := by rw [sz_tup, szL, szL]; rfl
theorem sz_2 (a b : PyData) : szD (.tuple [a, b]) = 1 + szD a + szD b := by rw [sz_tup, szL, szL, szL]; omega
theorem sz_3 (a b c : PyData) : szD (.tuple [a, b, c]) = 1 + szD a + szD b + szD c := by rw [sz_tup, szL, szL, szL, szL]; omega
theorem sz_0 : szD (.tuple []) = 1 := by rw [sz_tup, szL]
section
variable {X : Cx}
theorem op_isB : OpR X (compareOp .Is) (fun x y H Q => ∃ i j, x = .bl i ∧ y = .bl j ∧ Q (.bl (i == j)) H) := by
  intro pins s σ H x y v u Q I rx ry h
  obtain ⟨i, j, rfl, rfl, q⟩ := h
  cases rx
  cases ry
  exact is_bool (fin_bl I q rfl)
theorem op_notB : OpR X (compareOp .IsNot) (fun x y H Q => ∃ i j, x = .bl i ∧ y = .bl j ∧ Q (.bl (!(i == j))) H) := by
  intro pins s σ H x y v u Q I rx ry h
  obtain ⟨i, j, rfl, rfl, q⟩ := h
  cases rx
  cases ry
  refine wpAny_isNot_plain rfl (fin_bl I q ?_)
  cases i <;> cases j <;> rfl
end
end SW

namespace K
open PySem PySem.Spec PyProof.Rows L2 SW
end K
namespace SW
open PySem PySem.Spec PyProof.Rows L2
theorem wVarA {σ : L2.St} {H : Hp} {Q : VK} {v : V} {i : Nat} (h : Q v H) (e : σ[i]? = some (some v) := by with_unfolding_all exact rfl) : tVar i σ H Q := ⟨v, e, h⟩
theorem wModA {H : Hp} {Q : VK} {g : Int → Int → V} {i j : Int} (h : Q (g i j) H) (c : 0 < j := by with_unfolding_all omega) : rI (fun _ j => 0 < j) g (.int i) (.int j) H Q := wMod c h
theorem wDivLA {H : Hp} {Q : VK} {g : Int → Int → V} {i j : Int} (h : Q (g i j) H) (c : 0 < j ∧ j < 18446744073709551616 := by with_unfolding_all omega) : rI CDivL g (.int i) (.int j) H Q := wDivL c h
theorem wMulA {H : Hp} {Q : VK} {g : Int → Int → V} {i j : Int} (h : Q (g i j) H) (c : (-18446744073709551616 < i ∧ i < 18446744073709551616) ∨ (-18446744073709551616 < j ∧ j < 18446744073709551616) := by with_unfolding_all omega) : rI CMul g (.int i) (.int j) H Q := wMul c h
theorem wPowA {H : Hp} {Q : VK} {g : Int → Int → V} {i j : Int} (h : Q (g i j) H) (c : 0 ≤ j ∧ j ≤ 1000000 ∧ i.natAbs < 2 ^ 64 := by with_unfolding_all decide) : rI CPow g (.int i) (.int j) H Q := wPow c h
theorem wIxLA {K : PySem.W.Frag} {H : Hp} {Q : VK} {v : V} {p : Addr} {xs : List V} {i : Int} (h : Q v H) (e : H p = some (.lst xs) := by first | with_reducible assumption | exact upd_same) (a : atI xs i = some v := by with_unfolding_all exact rfl) : rIxL K (.ref p) (.int i) H Q := wIxL e a h
theorem wIxTA {K : PySem.W.Frag} {H : Hp} {Q : VK} {v : V} {p : Addr} {xs : List V} {i : Int} (h : Q v H) (e : H p = some (.tup xs) := by first | with_reducible assumption | exact upd_same) (a : atI xs i = some v := by with_unfolding_all exact rfl) : rIxT K (.ref p) (.int i) H Q := wIxT e a h
theorem wSetLA {H : Hp} {v : V} {p : Addr} {xs : List V} {i : Int} {j : Nat} {Q : Hp → Prop} (h : Q (upd H p (.lst (xs.set j v)))) (e : H p = some (.lst xs) := by first | with_reducible assumption | exact upd_same) (hj : ixN xs.length i = some j := by with_unfolding_all exact rfl) : rSetL (.ref p) (.int i) v H Q := wSetL e hj h
theorem wGoA {N N' : L2.St → Hp → Prop} {σ : L2.St} {H : Hp} (h : N' σ H) (e : N = N' := by with_reducible assumption) : N σ H := wGo e h
end SW
namespace K
open PySem PySem.Spec PyProof.Rows L2 SW
local macro_rules | `(tactic| walk_at $x:str) => do
  let h ← `(?_)
  let l ← `(fun _ _ => ?_)
  let ws := if x.getString == "W0" then "wCons wNil wVarA" else if x.getString == "W1" then "wC wName wGoA" else if x.getString == "W2" then "wSeqC wCut wAsg wName wOp wC wVarA wIfS wTest wB wBl wNot wNil wCons wTup wCall wCB wRet wDrop wNext wOr wComp wRng1 wSl wNoPart wPart wFor wIList wLst wI0 wUn wU wNeB wEqB wAnd wAndV wNotV wPowA wGoA" else "wSeqC wCut wAsg wName wOp wC wVarA wI0 wModA wDivLA wMulA wPowA wEqI wNeI wIfS wTest wB wNot wNotV wAndV wOrV wBl wIxLA wIxTA wSub wSetLA wNil wCons wLst wTup wCall wCB wRet wDrop wNext wFor wIList wRng1 wAnd wOr wChain wNeB wEqB wComp wInt1 wUn wIf wDPut wCompSet wSl wNoPart wPart wITup wDIn wU wDGet wDNotIn wOrA wEnumT wPairs wPairs0 wGoA"
  let t ← (ws.splitOn " ").foldrM (fun r t => `(tactic| first | with_reducible refine $(Lean.mkIdent (Lean.Name.mkStr `SW r)) $(if r == "wSeqC" || r == "wCut" then l else h) | $t:tactic)) (← `(tactic| fail))
  `(tactic| repeat $t:tactic)



noncomputable def top (i : Nat) : Stmt := PySem.Challenge.pw_slowshift_k38_what_is_a_sound_state.main.body.getD i (.Pass ⟨0, 0, 0, 0⟩)
noncomputable abbrev s_is_whole : Stmt := (top 3)
theorem sc_is_whole : FnScope ["thing"] ["thing"] (defScope s_is_whole) := ⟨rfl, rfl, rfl, by decide +kernel, rfl, by decide +kernel, by decide +kernel⟩
noncomputable abbrev s_is_size : Stmt := (top 4)
theorem sc_is_size : FnScope ["thing"] ["thing"] (defScope s_is_size) := ⟨rfl, rfl, rfl, by decide +kernel, rfl, by decide +kernel, by decide +kernel⟩
noncomputable abbrev s_is_key : Stmt := (top 5)
theorem sc_is_key : FnScope ["thing"] ["thing"] (defScope s_is_key) := ⟨rfl, rfl, rfl, by decide +kernel, rfl, by decide +kernel, by decide +kernel⟩
noncomputable abbrev s_is_worth : Stmt := (top 6)
theorem sc_is_worth : FnScope ["thing"] ["thing"] (defScope s_is_worth) := ⟨rfl, rfl, rfl, by decide +kernel, rfl, by decide +kernel, by decide +kernel⟩
noncomputable abbrev s_mark_of : Stmt := (top 9)
theorem sc_mark_of : FnScope ["key", "mixer"] ["key", "mixer"] (defScope s_mark_of) := ⟨rfl, rfl, rfl, by decide +kernel, rfl, by decide +kernel, by decide +kernel⟩
noncomputable abbrev s_place_of : Stmt := (top 10)
theorem sc_place_of : FnScope ["mark", "size"] ["mark", "size"] (defScope s_place_of) := ⟨rfl, rfl, rfl, by decide +kernel, rfl, by decide +kernel, by decide +kernel⟩
noncomputable abbrev s_first_fault : Stmt := (top 12)
theorem sc_first_fault : FnScope ["state", "mixer"] ["state", "mixer"] (defScope s_first_fault) := ⟨rfl, rfl, rfl, by decide +kernel, rfl, by decide +kernel, by decide +kernel⟩
noncomputable abbrev s_has_right_places : Stmt := (top 13)
theorem sc_has_right_places : FnScope ["elder", "newer"] ["elder", "newer"] (defScope s_has_right_places) := ⟨rfl, rfl, rfl, by decide +kernel, rfl, by decide +kernel, by decide +kernel⟩
noncomputable abbrev s_has_right_moved : Stmt := (top 14)
theorem sc_has_right_moved : FnScope ["elder", "moved"] ["elder", "moved"] (defScope s_has_right_moved) := ⟨rfl, rfl, rfl, by decide +kernel, rfl, by decide +kernel, by decide +kernel⟩
noncomputable abbrev s_first_fault_of_pairs : Stmt := (top 15)
theorem sc_first_fault_of_pairs : FnScope ["state", "mixer", "sizes", "moved", "had", "shelf", "place", "key"] ["state", "mixer"] (defScope s_first_fault_of_pairs) := ⟨rfl, rfl, rfl, by decide +kernel, rfl, by decide +kernel, by decide +kernel⟩
noncomputable abbrev s_keys_in_turn : Stmt := (top 16)
theorem sc_keys_in_turn : FnScope ["state", "told", "shelf", "rows", "place", "row"] ["state"] (defScope s_keys_in_turn) := ⟨rfl, rfl, rfl, by decide +kernel, rfl, by decide +kernel, by decide +kernel⟩
noncomputable abbrev s_is_sound : Stmt := (top 17)
theorem sc_is_sound : FnScope ["state", "mixer"] ["state", "mixer"] (defScope s_is_sound) := ⟨rfl, rfl, rfl, by decide +kernel, rfl, by decide +kernel, by decide +kernel⟩
noncomputable abbrev s_is_state : Stmt := (top 18)
theorem sc_is_state : FnScope ["thing"] ["thing"] (defScope s_is_state) := ⟨rfl, rfl, rfl, by decide +kernel, rfl, by decide +kernel, by decide +kernel⟩
noncomputable abbrev s_are_rows : Stmt := (top 19)
theorem sc_are_rows : FnScope ["thing"] ["thing"] (defScope s_are_rows) := ⟨rfl, rfl, rfl, by decide +kernel, rfl, by decide +kernel, by decide +kernel⟩
noncomputable abbrev s_is_row : Stmt := (top 20)
theorem sc_is_row : FnScope ["thing"] ["thing"] (defScope s_is_row) := ⟨rfl, rfl, rfl, by decide +kernel, rfl, by decide +kernel, by decide +kernel⟩
noncomputable abbrev s_is_pair : Stmt := (top 21)
theorem sc_is_pair : FnScope ["thing"] ["thing"] (defScope s_is_pair) := ⟨rfl, rfl, rfl, by decide +kernel, rfl, by decide +kernel, by decide +kernel⟩
noncomputable abbrev s_law_stream : Stmt := (top 23)
theorem sc_law_stream : FnScope ["cell", "low"] ["cell"] (defScope s_law_stream) := ⟨rfl, rfl, rfl, by decide +kernel, rfl, by decide +kernel, by decide +kernel⟩
noncomputable abbrev s_law_take : Stmt := (top 24)
theorem sc_law_take : FnScope ["row", "many", "got"] ["row", "many"] (defScope s_law_take) := ⟨rfl, rfl, rfl, by decide +kernel, rfl, by decide +kernel, by decide +kernel⟩
noncomputable abbrev s_law_mixer : Stmt := (top 25)
theorem sc_law_mixer : FnScope ["row", "some"] ["row"] (defScope s_law_mixer) := ⟨rfl, rfl, rfl, by decide +kernel, rfl, by decide +kernel, by decide +kernel⟩
noncomputable abbrev s_law_key : Stmt := (top 26)
theorem sc_law_key : FnScope ["row", "some"] ["row"] (defScope s_law_key) := ⟨rfl, rfl, rfl, by decide +kernel, rfl, by decide +kernel, by decide +kernel⟩
noncomputable abbrev s_law_worth : Stmt := (top 27)
theorem sc_law_worth : FnScope ["row"] ["row"] (defScope s_law_worth) := ⟨rfl, rfl, rfl, by decide +kernel, rfl, by decide +kernel, by decide +kernel⟩
noncomputable abbrev s_law_near_key : Stmt := (top 28)
theorem sc_law_near_key : FnScope ["row", "keys"] ["row", "keys"] (defScope s_law_near_key) := ⟨rfl, rfl, rfl, by decide +kernel, rfl, by decide +kernel, by decide +kernel⟩
noncomputable abbrev s_law_table_state : Stmt := (top 29)
theorem sc_law_table_state : FnScope ["row", "mixer", "size", "other", "moved", "rows", "seen", "k", "key", "mark", "at", "shelves"] ["row", "mixer"] (defScope s_law_table_state) := ⟨rfl, rfl, rfl, by decide +kernel, rfl, by decide +kernel, by decide +kernel⟩
noncomputable abbrev s_law_shelf_fault : Stmt := (top 30)
theorem sc_law_shelf_fault : FnScope ["name", "rows", "moved", "mixer", "seen", "place", "key", "worth"] ["name", "rows", "moved", "mixer", "seen"] (defScope s_law_shelf_fault) := ⟨rfl, rfl, rfl, by decide +kernel, rfl, by decide +kernel, by decide +kernel⟩
noncomputable abbrev s_law_due : Stmt := (top 31)
theorem sc_law_due : FnScope ["state", "mixer", "elder", "moved", "newer", "sizes", "seen", "found"] ["state", "mixer"] (defScope s_law_due) := ⟨rfl, rfl, rfl, by decide +kernel, rfl, by decide +kernel, by decide +kernel⟩
noncomputable abbrev s_law_other_rows : Stmt := (top 32)
theorem sc_law_other_rows : FnScope ["row", "rows", "at", "to", "kind", "some", "pair", "others"] ["row", "rows"] (defScope s_law_other_rows) := ⟨rfl, rfl, rfl, by decide +kernel, rfl, by decide +kernel, by decide +kernel⟩
noncomputable abbrev s_law_bent : Stmt := (top 33)
theorem sc_law_bent : FnScope ["row", "state", "elder", "moved", "newer", "kind"] ["row", "state"] (defScope s_law_bent) := ⟨rfl, rfl, rfl, by decide +kernel, rfl, by decide +kernel, by decide +kernel⟩
noncomputable abbrev s_law_number : Stmt := (top 34)
theorem sc_law_number : FnScope ["thing", "least"] ["thing", "least"] (defScope s_law_number) := ⟨rfl, rfl, rfl, by decide +kernel, rfl, by decide +kernel, by decide +kernel⟩
noncomputable abbrev s_law_are_rows : Stmt := (top 35)
theorem sc_law_are_rows : FnScope ["rows", "row", "pair"] ["rows"] (defScope s_law_are_rows) := ⟨rfl, rfl, rfl, by decide +kernel, rfl, by decide +kernel, by decide +kernel⟩
noncomputable abbrev s_law_is : Stmt := (top 36)
theorem sc_law_is : FnScope ["thing", "mixer", "elder", "moved", "newer"] ["thing", "mixer"] (defScope s_law_is) := ⟨rfl, rfl, rfl, by decide +kernel, rfl, by decide +kernel, by decide +kernel⟩
noncomputable abbrev s_law_odd_pair : Stmt := (top 37)
theorem sc_law_odd_pair : FnScope ["row", "pair", "key", "worth", "some"] ["row", "pair"] (defScope s_law_odd_pair) := ⟨rfl, rfl, rfl, by decide +kernel, rfl, by decide +kernel, by decide +kernel⟩
noncomputable abbrev s_law_odd_rows : Stmt := (top 38)
theorem sc_law_odd_rows : FnScope ["row", "rows", "at", "kind", "pair"] ["row", "rows"] (defScope s_law_odd_rows) := ⟨rfl, rfl, rfl, by decide +kernel, rfl, by decide +kernel, by decide +kernel⟩
noncomputable abbrev s_law_odd : Stmt := (top 39)
theorem sc_law_odd : FnScope ["row", "state", "elder", "moved", "newer", "kind"] ["row", "state"] (defScope s_law_odd) := ⟨rfl, rfl, rfl, by decide +kernel, rfl, by decide +kernel, by decide +kernel⟩
noncomputable abbrev s_law_right : Stmt := (top 40)
theorem sc_law_right : FnScope ["thing", "mixer", "found"] ["thing", "mixer"] (defScope s_law_right) := ⟨rfl, rfl, rfl, by decide +kernel, rfl, by decide +kernel, by decide +kernel⟩
noncomputable abbrev s_law : Stmt := (top 41)
theorem sc_law : FnScope ["script", "cell", "row", "mixer", "state", "bent", "thing", "size", "key", "sound"] ["script"] (defScope s_law) := ⟨rfl, rfl, rfl, by decide +kernel, rfl, by decide +kernel, by decide +kernel⟩

structure Gs (K : PySem.W.Frag) (mg : Str → Option Value) : Prop where
  c_MARKS : ∃ t, mg "MARKS" = some (.int 65536 t)
  c_GREATEST : ∃ t, mg "GREATEST" = some (.int 1000000000 t)
  c_SIZES : ∃ a, mg "SIZES" = some (.ref a) ∧ ∀ H, SqT K H a [.int 4, .int 8, .int 16, .int 32, .int 64, .int 128, .int 256, .int 512, .int 1024, .int 2048, .int 4096]
  b_int : mg "int" = none
  b_bool : mg "bool" = none
  b_isinstance : mg "isinstance" = none
  b_range : mg "range" = none
  b_len : mg "len" = none
  b_list : mg "list" = none
  b_tuple : mg "tuple" = none
  b_enumerate : mg "enumerate" = none
  b_all : mg "all" = none
theorem hu1_of {A : Around} {k : Nat} (hr : Room k A) : A.units < cLine := Nat.lt_of_le_of_lt (Nat.le_add_right _ 1) (hu_of hr)
section
variable {P : Program} {w : World} {K : PySem.W.Frag} {mg : Str → Option Value} {base : Heap} 
theorem F_mark (d : Dfn K mg "mark_of" s_mark_of ["key", "mixer"]) (g : Gs K mg) : Fn P w K mg base "mark_of" 1 ["key", "mixer"] spMark := by
  refine d.fn sc_mark_of (fun vs H Q E h => ?_) (fun f cdv A outer s H vs Q E hr h => ?_)
  · obtain ⟨k, t, f, m, rfl, _⟩ := h
    rfl
  · obtain ⟨k, t, f, m, rfl, ht, hf, q⟩ := h
    refine ⟨_, (B.sone (B.ret (B.op op_mod (B.op op_add (B.op op_mul (B.v 0) (B.ix ix_tup (B.v 1) B.int)) (B.ix ix_tup (B.v 1) B.int)) (B.gint g.c_MARKS)))), ?_⟩
    walk_at "W"
    exact q
theorem F_place (d : Dfn K mg "place_of" s_place_of ["mark", "size"]) : Fn P w K mg base "place_of" 1 ["mark", "size"] spPlace := by
  refine d.fn sc_place_of (fun vs H Q E h => ?_) (fun f cdv A outer s H vs Q E hr h => ?_)
  · obtain ⟨k, t, rfl, _⟩ := h
    rfl
  · obtain ⟨m, z, rfl, hz, q⟩ := h
    refine ⟨_, (B.sone (B.ret (B.op op_mod (B.v 0) (B.v 1)))), ?_⟩
    walk_at "W"
    exact q
end

section
variable {P : Program} {w : World} {K : PySem.W.Frag} {mg : Str → Option Value} {base : Heap} 
theorem F_stream (d : Dfn K mg "_law_stream" s_law_stream ["cell"]) (g : Gs K mg) : Fn P w K mg base "_law_stream" 1 ["cell"] spStream := by
  refine d.fn sc_law_stream (fun vs H Q E h => ?_) (fun f cdv A outer s H vs Q E hr h => ?_)
  · obtain ⟨c, rfl, _⟩ := h
    rfl
  · obtain ⟨c, rfl, k⟩ := h
    refine ⟨_, (B.scons (B.set 1 sc_law_stream.nd (B.op op_mod (B.v 0) B.int))
      (B.scons (B.set 1 sc_law_stream.nd (B.op op_mod (B.op op_add (B.op op_mul (B.op op_mod (B.op op_mul (B.v 1) (B.v 1)) B.int) (B.op op_add (B.v 1) B.int)) B.int) B.int))
      (B.sone (B.ret (B.lst (B.cons (B.v 0) (B.cons (B.v 1) (B.cons (B.cT call_int1 g.b_int SW.b_int (B.cons (B.cmp op_ge (B.v 0) (B.op op_pow B.int B.int)) B.nil)) B.nil)))))))), ?_⟩
    walk_at "W"
    refine ⟨by show (3 : Nat) ≤ sizeLine; decide, fun p hp => k p _ hp ⟨_, _, _, upd_same, ?_, ?_⟩⟩
    · exact Int.emod_nonneg _ (by decide)
    · exact Int.emod_lt_of_pos _ (by decide)
theorem F_take (d : Dfn K mg "_law_take" s_law_take ["row", "many"]) : Fn P w K mg base "_law_take" 1 ["row", "many"] spTake := by
  refine d.fn sc_law_take (fun vs H Q E h => ?_) (fun f cdv A outer s H vs Q E hr h => ?_)
  · obtain ⟨p, m, rfl, _⟩ := h
    rfl
  · obtain ⟨p, m, rfl, hm0, hm1, ⟨a, b, c, hp, hb0, hb1⟩, k⟩ := h
    refine ⟨_, (B.scons (B.ifs (B.tcmp op_eq (B.ix ix_list (B.v 0) B.int) B.int) (B.scons (B.set 2 sc_law_take.nd (B.op op_mod (B.ix ix_list (B.v 0) B.int) (B.v 1)))
      (B.scons (B.asg (B.op op_fdivL (B.ix ix_list (B.v 0) B.int) (B.v 1)) (B.gsub (B.v 0) B.int set_list))
      (B.sone (B.ret (B.v 2))))) B.snil)
      (B.scons (B.asg (B.op op_mod (B.op op_mul (B.op op_add (B.ix ix_list (B.v 0) B.int) B.int) (B.op op_add (B.ix ix_list (B.v 0) B.int) B.int)) B.int) (B.gsub (B.v 0) B.int set_list))
      (B.sone (B.ret (B.op op_mod (B.op op_fdivL (B.op op_add (B.op op_mul (B.ix ix_list (B.v 0) B.int) B.int) B.int) B.int) (B.v 1)))))), ?_⟩
    walk_at "W"
    refine ite2 (fun _ => ?_) (fun _ => ?_)
    · walk_at "W"
      exact k _ _ (Int.emod_nonneg _ (by omega)) (Int.emod_lt_of_pos _ hm0) ⟨_, _, _, upd_same, hb0, hb1⟩
    · walk_at "W"
      exact k _ _ (Int.emod_nonneg _ (by omega)) (Int.emod_lt_of_pos _ hm0) ⟨_, _, _, upd_same, Int.emod_nonneg _ (by decide), Int.emod_lt_of_pos _ (by decide)⟩
theorem F_key (d : Dfn K mg "_law_key" s_law_key ["row"]) (F_law_take : Fn P w K mg base "_law_take" 1 ["row", "many"] spTake) : Fn P w K mg base "_law_key" 2 ["row"] spKey := by
  refine d.fn sc_law_key (fun vs H Q E h => ?_) (fun f cdv A outer s H vs Q E hr h => ?_)
  · obtain ⟨p, rfl, _⟩ := h
    rfl
  · obtain ⟨p, rfl, hp, k⟩ := h
    refine ⟨_, (B.scons (B.set 1 sc_law_key.nd (B.lst (B.cons (B.fn F_law_take (hr.mono (by first | decide | omega)) (B.cons (B.v 0) (B.cons B.int B.nil))) (B.cons (B.fn F_law_take (hr.mono (by first | decide | omega)) (B.cons (B.v 0) (B.cons B.int B.nil))) (B.cons (B.op op_mul B.int (B.fn F_law_take (hr.mono (by first | decide | omega)) (B.cons (B.v 0) (B.cons B.int B.nil)))) (B.cons (B.fn F_law_take (hr.mono (by first | decide | omega)) (B.cons (B.v 0) (B.cons (B.op op_add (B.op op_pow B.int B.int) B.int) B.nil))) (B.cons (B.op op_pow B.int B.int) B.nil)))))))
      (B.sone (B.ret (B.ix ix_list (B.v 1) (B.fn F_law_take (hr.mono (by first | decide | omega)) (B.cons (B.v 0) (B.cons B.int B.nil))))))), ?_⟩
    walk_at "W"
    refine wTake hp (by decide) (by decide) fun r1 H1 a1 b1 R1 K1 => ?_
    walk_at "W"
    refine wTake R1 (by decide) (by decide) fun r2 H2 a2 b2 R2 K2 => ?_
    walk_at "W"
    refine wTake R2 (by decide) (by decide) fun r3 H3 a3 b3 R3 K3 => ?_
    walk_at "W"
    refine wTake R3 (by decide) (by decide) fun r4 H4 a4 b4 R4 K4 => ?_
    have e9 : (10 : Int) ^ (Int.toNat 9) = 1000000000 := by decide
    walk_at "W"
    refine ⟨by show (5 : Nat) ≤ sizeLine; decide, fun q hq => ?_⟩
    walk_at "W"
    refine wTake (R4.new hq) (by decide) (by decide) fun r5 H5 a5 b5 R5 K5 => ?_
    have e5 := K5 q _ (R4.ne0 hq).symm upd_same
    first | (have zz_ := atI_in (xs := [V.int r1, V.int r2, V.int (65536 * r3), V.int r4, V.int (10 ^ 9)]) a5 b5; have v := zz_.1; have hv := zz_.2.1; have hm := zz_.2.2; clear zz_) | obtain ⟨v, hv, hm⟩ := atI_in (xs := [V.int r1, V.int r2, V.int (65536 * r3), V.int r4, V.int (10 ^ 9)]) a5 b5
    refine wIxL e5 hv ?_
    obtain ⟨z, rfl, z0, z1⟩ : ∃ z, v = V.int z ∧ 0 ≤ z ∧ z ≤ 1000000000 := by
      simp only [List.mem_cons, List.not_mem_nil, or_false] at hm
      rcases hm with rfl | rfl | rfl | rfl | rfl
      · exact ⟨_, rfl, by omega, by omega⟩
      · exact ⟨_, rfl, by omega, by omega⟩
      · exact ⟨_, rfl, by omega, by omega⟩
      · exact ⟨_, rfl, by omega, by omega⟩
      · exact ⟨_, rfl, by decide, by decide⟩
    exact k z H5 z0 z1 R5 (((K1.trans K2).trans (K3.trans K4)).trans ((KeepBut.new hq).trans K5))
theorem F_mixer (d : Dfn K mg "_law_mixer" s_law_mixer ["row"]) (F_law_take : Fn P w K mg base "_law_take" 1 ["row", "many"] spTake) : Fn P w K mg base "_law_mixer" 2 ["row"] spMixer := by
  refine d.fn sc_law_mixer (fun vs H Q E h => ?_) (fun f cdv A outer s H vs Q E hr h => ?_)
  · obtain ⟨p, rfl, _⟩ := h
    rfl
  · obtain ⟨p, rfl, hp, k⟩ := h
    refine ⟨_, (B.scons (B.set 1 sc_law_mixer.nd (B.lst (B.cons (B.tup (B.cons B.int (B.cons B.int B.nil))) (B.cons (B.tup (B.cons B.int (B.cons B.int B.nil))) (B.cons (B.tup (B.cons B.int (B.cons B.int B.nil))) (B.cons (B.tup (B.cons B.int (B.cons B.int B.nil))) (B.cons (B.tup (B.cons B.int (B.cons B.int B.nil))) (B.cons (B.tup (B.cons B.int (B.cons B.int B.nil))) (B.cons (B.tup (B.cons B.int (B.cons B.int B.nil))) (B.cons (B.tup (B.cons B.int (B.cons B.int B.nil))) B.nil))))))))))
      (B.scons (B.expr (B.m PySem.F.plainAttrs_list PySem.F.slot_list_append PySem.F.type_list_append mt_append (B.v 1) (B.cons (B.tup (B.cons (B.fn F_law_take (hr.mono (by first | decide | omega)) (B.cons (B.v 0) (B.cons B.int B.nil))) (B.cons (B.fn F_law_take (hr.mono (by first | decide | omega)) (B.cons (B.v 0) (B.cons B.int B.nil))) B.nil))) B.nil)))
      (B.sone (B.ret (B.ix ix_list (B.v 1) (B.fn F_law_take (hr.mono (by first | decide | omega)) (B.cons (B.v 0) (B.cons B.int B.nil)))))))), ?_⟩
    have two : (2 : Nat) ≤ sizeLine := by decide
    walk_at "W"
    refine ⟨two, fun t1 h1 => ?_⟩
    have M1 := (Mixs.nil).new t1 1 0 h1 (by decide)
    have R1 := hp.new (o := .tup [.int 1, .int 0]) h1
    have S1 := (Same.new (o := .tup [.int 1, .int 0]) h1)
    walk_at "W"
    refine ⟨two, fun t2 h2 => ?_⟩
    have M2 := (M1).new t2 0 0 h2 (by decide)
    have R2 := R1.new (o := .tup [.int 0, .int 0]) h2
    have S2 := S1.trans (Same.new (o := .tup [.int 0, .int 0]) h2)
    walk_at "W"
    refine ⟨two, fun t3 h3 => ?_⟩
    have M3 := (M2).new t3 0 65535 h3 (by decide)
    have R3 := R2.new (o := .tup [.int 0, .int 65535]) h3
    have S3 := S2.trans (Same.new (o := .tup [.int 0, .int 65535]) h3)
    walk_at "W"
    refine ⟨two, fun t4 h4 => ?_⟩
    have M4 := (M3).new t4 40503 7 h4 (by decide)
    have R4 := R3.new (o := .tup [.int 40503, .int 7]) h4
    have S4 := S3.trans (Same.new (o := .tup [.int 40503, .int 7]) h4)
    walk_at "W"
    refine ⟨two, fun t5 h5 => ?_⟩
    have M5 := (M4).new t5 65535 1 h5 (by decide)
    have R5 := R4.new (o := .tup [.int 65535, .int 1]) h5
    have S5 := S4.trans (Same.new (o := .tup [.int 65535, .int 1]) h5)
    walk_at "W"
    refine ⟨two, fun t6 h6 => ?_⟩
    have M6 := (M5).new t6 2 0 h6 (by decide)
    have R6 := R5.new (o := .tup [.int 2, .int 0]) h6
    have S6 := S5.trans (Same.new (o := .tup [.int 2, .int 0]) h6)
    walk_at "W"
    refine ⟨two, fun t7 h7 => ?_⟩
    have M7 := (M6).new t7 4096 3 h7 (by decide)
    have R7 := R6.new (o := .tup [.int 4096, .int 3]) h7
    have S7 := S6.trans (Same.new (o := .tup [.int 4096, .int 3]) h7)
    walk_at "W"
    refine ⟨two, fun t8 h8 => ?_⟩
    have M8 := (M7).new t8 32768 65535 h8 (by decide)
    have R8 := R7.new (o := .tup [.int 32768, .int 65535]) h8
    have S8 := S7.trans (Same.new (o := .tup [.int 32768, .int 65535]) h8)
    walk_at "W"
    refine ⟨by show (8 : Nat) ≤ sizeLine; decide, fun q hq => ?_⟩
    have q0 : H q = none := S8.free hq
    have nqp : q ≠ p := (R8.ne0 hq).symm
    have M9 := M8.map fun _ z => z.same (Same.new (o := .lst [.ref t1, .ref t2, .ref t3, .ref t4, .ref t5, .ref t6, .ref t7, .ref t8]) hq)
    have R9 := R8.new (o := .lst [.ref t1, .ref t2, .ref t3, .ref t4, .ref t5, .ref t6, .ref t7, .ref t8]) hq
    have K9 : KeepBut p H _ := SW.Same.but (S8.trans (Same.new (o := .lst [.ref t1, .ref t2, .ref t3, .ref t4, .ref t5, .ref t6, .ref t7, .ref t8]) hq))
    walk_at "W"
    refine wBM ?_
    walk_at "W"
    refine ⟨.inl ⟨rfl, _, SqL.of upd_same⟩, ?_⟩
    walk_at "W"
    refine wTake R9 (by decide) (by decide) fun r1 H10 a1 b1 R10 K10 => ?_
    have q10 := K10 q _ nqp upd_same
    have M10 := M9.map fun _ z => z.keep R9 K10
    walk_at "W"
    refine wTake R10 (by decide) (by decide) fun r2 H11 a2 b2 R11 K11 => ?_
    have q11 := K11 q _ nqp q10
    have M11 := M10.map fun _ z => z.keep R10 K11
    walk_at "W"
    refine ⟨two, fun t9 h9 => ?_⟩
    have M12 := M11.new t9 r1 r2 h9 (by omega)
    have q12 := Same.new (o := .tup [.int r1, .int r2]) h9 _ _ q11
    walk_at "W"
    refine ⟨q, _, _, rfl, rfl, q12, by show (8 : Nat) < sizeLine; decide, ?_⟩
    have M13 := M12.map fun _ z => z.upd (o := .lst ([.ref t1, .ref t2, .ref t3, .ref t4, .ref t5, .ref t6, .ref t7, .ref t8] ++ [.ref t9])) q12
    have R13 := (R11.new (o := .tup [.int r1, .int r2]) h9).upd (o := .lst ([.ref t1, .ref t2, .ref t3, .ref t4, .ref t5, .ref t6, .ref t7, .ref t8] ++ [.ref t9])) nqp.symm
    have K13 := (((K9.trans K10).trans K11).trans (KeepBut.new (o := .tup [.int r1, .int r2]) h9)).upd (o := .lst ([.ref t1, .ref t2, .ref t3, .ref t4, .ref t5, .ref t6, .ref t7, .ref t8] ++ [.ref t9])) q0
    walk_at "W"
    refine wTake R13 (by decide) (by decide) fun r H14 a b R14 K14 => ?_
    have q14 := K14 q _ nqp upd_same
    first | (have zz_ := atI_in (xs := [V.ref t1, V.ref t2, V.ref t3, V.ref t4, V.ref t5, V.ref t6, V.ref t7, V.ref t8] ++ [V.ref t9]) a b; have v := zz_.1; have hv := zz_.2.1; have hm := zz_.2.2; clear zz_) | obtain ⟨v, hv, hm⟩ := atI_in (xs := [V.ref t1, V.ref t2, V.ref t3, V.ref t4, V.ref t5, V.ref t6, V.ref t7, V.ref t8] ++ [V.ref t9]) a b
    refine wIxL q14 hv ?_
    obtain ⟨t, rfl, m⟩ := M13 v hm
    exact k t H14 (m.keep R13 K14) R14 (K13.trans K14)
end

noncomputable def spIsSizeB : Sp := fun vs H Q _ => ∃ n : Nat, vs = [.int n] ∧ Q (.bl (decide (isSize n))) H
theorem inSizesB (n : Nat) : inV (V.int n) [.int 4, .int 8, .int 16, .int 32, .int 64, .int 128, .int 256, .int 512, .int 1024, .int 2048, .int 4096] = decide (isSize n) := by
  have e := inV_intsB (n : Int) [4, 8, 16, 32, 64, 128, 256, 512, 1024, 2048, 4096]
  refine Eq.trans e ?_
  rw [Bool.eq_iff_iff, decide_eq_true_iff, decide_eq_true_iff]
  unfold isSize
  simp only [List.mem_cons, List.not_mem_nil, or_false]
  omega
section
variable {P : Program} {w : World} {K : PySem.W.Frag} {mg : Str → Option Value} {base : Heap} 
theorem F_sizeB (d : Dfn K mg "is_size" s_is_size ["thing"]) (g : Gs K mg) (F_is_whole : Fn P w K mg base "is_whole" 1 ["thing"] spWhole) : Fn P w K mg base "is_size" 2 ["thing"] spIsSizeB := by
  refine d.fn sc_is_size (fun vs H Q E h => ?_) (fun f cdv A outer s H vs Q E hr h => ?_)
  · obtain ⟨n, rfl, _⟩ := h
    rfl
  · obtain ⟨n, rfl, q⟩ := h
    first | (have zz_ := g.c_SIZES; have aS := zz_.1; have hS := zz_.2.1; have tS := zz_.2.2; clear zz_) | obtain ⟨aS, hS, tS⟩ := g.c_SIZES
    refine ⟨_, (B.sone (B.ret (B.and (B.fn F_is_whole (hr.mono (by first | decide | omega)) (B.cons (B.v 0) B.nil)) (B.one (B.cmpI op_in_seq (B.v 0) (B.gref hS)))))), ?_⟩
    walk_at "W"
    refine ⟨_, rfl, ?_⟩
    walk_at "W"
    refine iteT ?_
    walk_at "W"
    refine ⟨aS, _, rfl, .inr (tS _), rfl, by decide, ?_⟩
    rw [if_neg Bool.false_ne_true, inSizesB]
    exact q
end
noncomputable def spPlacesR : Sp := fun vs H Q _ => ∃ (ve vn : V) (S : Sta), vs = [ve, vn] ∧ ElV H ve S.el ∧ RowsV H vn S.nw ∧ Q (.bl (rightP S)) H
noncomputable def spMovedR : Sp := fun vs H Q _ => ∃ (ve : V) (S : Sta), vs = [ve, .int S.mv] ∧ ElV H ve S.el ∧ Q (.bl (rightM S)) H
theorem dec_nat2 {a b : Nat} : decide (V.int (a : Int) = V.int (2 * (b : Int))) = decide (a = 2 * b) := by
  rw [Bool.eq_iff_iff, decide_eq_true_iff, decide_eq_true_iff]
  constructor
  · intro z; injection z with z; omega
  · intro z; rw [show (a : Int) = 2 * (b : Int) by omega]
section
variable {P : Program} {w : World} {K : PySem.W.Frag} {mg : Str → Option Value} {base : Heap} 
theorem F_places (d : Dfn K mg "has_right_places" s_has_right_places ["elder", "newer"]) (g : Gs K mg) (F_is_size : Fn P w K mg base "is_size" 2 ["thing"] spIsSizeB) : Fn P w K mg base "has_right_places" 3 ["elder", "newer"] spPlacesR := by
  refine d.fn sc_has_right_places (fun vs H Q E h => ?_) (fun f cdv A outer s H vs Q E hr h => ?_)
  · obtain ⟨ve, vn, S, rfl, _⟩ := h
    rfl
  · obtain ⟨ve, vn, S, rfl, he, ⟨n, xs, rfl, hn, hr_⟩, q⟩ := h
    have hxl := paired_len hr_
    refine ⟨_, (B.scons (B.ifs (B.tnot (B.tval (B.fn F_is_size (hr.mono (by first | decide | omega)) (B.cons (B.cB call_len_seq g.b_len SW.b_len (B.cons (B.v 1) B.nil)) B.nil)))) (B.sone (B.ret B.bl)) B.snil)
      (B.scons (B.ifs (B.tcmp op_isN (B.v 0) B.non) (B.sone (B.ret B.bl)) B.snil)
      (B.sone (B.ret (B.and (B.fn F_is_size (hr.mono (by first | decide | omega)) (B.cons (B.cB call_len_seq g.b_len SW.b_len (B.cons (B.v 0) B.nil)) B.nil)) (B.one (B.or (B.cmp op_eq (B.cB call_len_seq g.b_len SW.b_len (B.cons (B.v 0) B.nil)) (B.op op_mul B.int (B.cB call_len_seq g.b_len SW.b_len (B.cons (B.v 1) B.nil)))) (B.one (B.cmp op_eq (B.cB call_len_seq g.b_len SW.b_len (B.cons (B.v 1) B.nil)) (B.op op_mul B.int (B.cB call_len_seq g.b_len SW.b_len (B.cons (B.v 0) B.nil)))))))))))), ?_⟩
    walk_at "W"
    refine SW.iLen (.inr (SqT.of hn)) ?_
    walk_at "W"
    refine ⟨xs.length, rfl, ?_⟩
    walk_at "W"
    rw [hxl]
    unfold rightP at q
    cases h1 : decide (isSize S.nw.length) with
    | false =>
      rw [h1] at q
      refine iteT ?_
      walk_at "W"
      exact q
    | true =>
      rw [h1] at q
      refine iteF ?_
      walk_at "W"
      refine ⟨rfl, ?_⟩
      walk_at "W"
      first | (have zz_ := S; have el := zz_.1; have mv := zz_.2.1; have nw := zz_.2.2; clear zz_) | obtain ⟨el, mv, nw⟩ := S
      cases el with
      | none =>
        have he : ve = V.non := he
        subst he
        refine iteY rfl ?_
        walk_at "W"
        exact q
      | some E_ =>
        obtain ⟨a, ys, rfl, ha, hra⟩ := (show RowsV H ve E_ from he)
        have hyl := paired_len hra
        refine iteNo (fun z => nomatch z) ?_
        walk_at "W"
        refine SW.iLen (.inr (SqT.of ha)) ?_
        walk_at "W"
        refine ⟨ys.length, rfl, ?_⟩
        walk_at "W"
        rw [hyl]
        have q : Q (.bl (decide (isSize E_.length) && (decide (E_.length = 2 * nw.length) || decide (nw.length = 2 * E_.length)))) H := q
        cases h2 : decide (isSize E_.length) with
        | false =>
          rw [h2] at q
          exact iteF q
        | true =>
          rw [h2] at q
          refine iteT ?_
          walk_at "W"
          refine SW.iLen (.inr (SqT.of ha)) ?_
          walk_at "W"
          refine SW.iLen (.inr (SqT.of hn)) ?_
          walk_at "W"
          rw [hyl, show xs.length = nw.length from hxl, dec_nat2]
          cases h3 : decide (E_.length = 2 * nw.length) with
          | true =>
            rw [h3] at q
            exact iteT q
          | false =>
            rw [h3] at q
            refine iteF ?_
            walk_at "W"
            refine SW.iLen (.inr (SqT.of hn)) ?_
            walk_at "W"
            refine SW.iLen (.inr (SqT.of ha)) ?_
            walk_at "W"
            rw [hyl, show xs.length = nw.length from hxl, dec_nat2]
            exact q
theorem F_movedR (d : Dfn K mg "has_right_moved" s_has_right_moved ["elder", "moved"]) (g : Gs K mg) : Fn P w K mg base "has_right_moved" 1 ["elder", "moved"] spMovedR := by
  refine d.fn sc_has_right_moved (fun vs H Q E h => ?_) (fun f cdv A outer s H vs Q E hr h => ?_)
  · obtain ⟨ve, S, rfl, _⟩ := h
    rfl
  · obtain ⟨ve, S, rfl, he, q⟩ := h
    unfold rightM at q
    refine ⟨_, (B.sone (B.ret (B.chain op_le op_lt B.int (B.v 1) (B.ifx (B.tcmp op_isN (B.v 0) B.non) B.int (B.cB call_len_seq g.b_len SW.b_len (B.cons (B.v 0) B.nil)))))), ?_⟩
    walk_at "W"
    by_cases h0 : 0 ≤ S.mv
    · rw [decide_eq_true h0] at q
      refine iteY h0 ?_
      walk_at "W"
      refine ⟨rfl, ?_⟩
      walk_at "W"
      first | (have zz_ := S; have el := zz_.1; have mv := zz_.2.1; have nw := zz_.2.2; clear zz_) | obtain ⟨el, mv, nw⟩ := S
      cases el with
      | none =>
        have he : ve = V.non := he
        subst he
        refine iteY rfl ?_
        walk_at "W"
        exact q
      | some E_ =>
        obtain ⟨a, ys, rfl, ha, hra⟩ := (show RowsV H ve E_ from he)
        have hyl := paired_len hra
        refine iteNo (fun z => nomatch z) ?_
        walk_at "W"
        refine SW.iLen (.inr (SqT.of ha)) ?_
        walk_at "W"
        rw [hyl]
        exact q
    · rw [decide_eq_false h0] at q
      exact iteNo h0 q
end

-- StV Any
noncomputable def spWholeA : Sp := fun vs H Q _ => ∃ (v : V) (d : PyData), vs = [v] ∧ Any H v d ∧ Q (.bl (isWhD d)) H
theorem wWholeA {H : Hp} {Q : VK} {E : XK} {v : V} {d : PyData} (h : Any H v d) (q : Q (.bl (isWhD d)) H) : spWholeA ([v] ++ []) H Q E := ⟨v, d, rfl, h, q⟩
noncomputable def spInA (lo : Int) : Sp := fun vs H Q _ => ∃ (v : V) (d : PyData), vs = [v] ∧ Any H v d ∧ Q (.bl (isInD lo d)) H
theorem wInA {lo : Int} {H : Hp} {Q : VK} {E : XK} {v : V} {d : PyData} (h : Any H v d) (q : Q (.bl (isInD lo d)) H) : spInA lo ([v] ++ []) H Q E := ⟨v, d, rfl, h, q⟩
noncomputable def spPairA : Sp := fun vs H Q _ => ∃ (v : V) (d : PyData), vs = [v] ∧ Any H v d ∧ Q (.bl (isPairD d)) H
theorem wPairA {H : Hp} {Q : VK} {E : XK} {v : V} {d : PyData} (h : Any H v d) (q : Q (.bl (isPairD d)) H) : spPairA ([v] ++ []) H Q E := ⟨v, d, rfl, h, q⟩
section
variable {P : Program} {w : World} {K : PySem.W.Frag} {mg : Str → Option Value} {base : Heap} 
theorem F_wholeA (d : Dfn K mg "is_whole" s_is_whole ["thing"]) (g : Gs K mg) : Fn P w K mg base "is_whole" 1 ["thing"] spWholeA := by
  refine d.fn sc_is_whole (fun vs H Q E h => ?_) (fun f cdv A outer s H vs Q E hr h => ?_)
  · obtain ⟨v, dd, rfl, _⟩ := h
    rfl
  · obtain ⟨v, dd, rfl, hd, q⟩ := h
    refine ⟨_, (B.sone (B.ret (B.and (B.cB SW.call_isi g.b_isinstance SW.b_isinstance (B.cons (B.v 0) (B.cons (B.ty g.b_int SW.b_int) B.nil))) (B.one (B.not (B.cB SW.call_isi g.b_isinstance SW.b_isinstance (B.cons (B.v 0) (B.cons (B.ty g.b_bool SW.b_bool) B.nil)))))))), ?_⟩
    walk_at "W"
    refine SW.iIsi hd.ty (isi_d_int dd) ?_
    walk_at "W"
    cases dd with
    | int i =>
      refine iteT ?_
      walk_at "W"
      refine SW.iIsi hd.ty (isi_d_bool _) ?_
      walk_at "W"
      exact q
    | bool b =>
      refine iteT ?_
      walk_at "W"
      refine SW.iIsi hd.ty (isi_d_bool _) ?_
      walk_at "W"
      exact q
    | none => exact iteF q
    | str x => exact iteF q
    | list x => exact iteF q
    | tuple x => exact iteF q
    | dict x => exact iteF q
theorem F_keyA (d : Dfn K mg "is_key" s_is_key ["thing"]) (g : Gs K mg) (F_is_whole : Fn P w K mg base "is_whole" 1 ["thing"] spWholeA) : Fn P w K mg base "is_key" 2 ["thing"] (spInA 0) := by
  refine d.fn sc_is_key (fun vs H Q E h => ?_) (fun f cdv A outer s H vs Q E hr h => ?_)
  · obtain ⟨v, dd, rfl, _⟩ := h
    rfl
  · obtain ⟨v, dd, rfl, hd, q⟩ := h
    refine ⟨_, (B.sone (B.ret (B.and (B.fn F_is_whole (hr.mono (by first | decide | omega)) (B.cons (B.v 0) B.nil)) (B.one (B.chain op_le op_le B.int (B.v 0) (B.gint g.c_GREATEST)))))), ?_⟩
    walk_at "W"
    refine wWholeA hd ?_
    walk_at "W"
    cases dd with
    | int i =>
      cases hd
      refine iteT ?_
      walk_at "W"
      have q : Q (.bl (decide (0 ≤ i) && decide (i ≤ 1000000000))) H := q
      by_cases c : 0 ≤ i
      · rw [decide_eq_true c] at q
        refine iteY c ?_
        walk_at "W"
        exact q
      · rw [decide_eq_false c] at q
        exact iteNo c q
    | bool b => exact iteF q
    | none => exact iteF q
    | str x => exact iteF q
    | list x => exact iteF q
    | tuple x => exact iteF q
    | dict x => exact iteF q
theorem F_worthA (d : Dfn K mg "is_worth" s_is_worth ["thing"]) (g : Gs K mg) (F_is_whole : Fn P w K mg base "is_whole" 1 ["thing"] spWholeA) : Fn P w K mg base "is_worth" 2 ["thing"] (spInA (-1000000000)) := by
  refine d.fn sc_is_worth (fun vs H Q E h => ?_) (fun f cdv A outer s H vs Q E hr h => ?_)
  · obtain ⟨v, dd, rfl, _⟩ := h
    rfl
  · obtain ⟨v, dd, rfl, hd, q⟩ := h
    refine ⟨_, (B.sone (B.ret (B.and (B.fn F_is_whole (hr.mono (by first | decide | omega)) (B.cons (B.v 0) B.nil)) (B.one (B.chain op_le op_le (B.un un_neg (B.gint g.c_GREATEST)) (B.v 0) (B.gint g.c_GREATEST)))))), ?_⟩
    walk_at "W"
    refine wWholeA hd ?_
    walk_at "W"
    cases dd with
    | int i =>
      cases hd
      refine iteT ?_
      walk_at "W"
      have q : Q (.bl (decide (-1000000000 ≤ i) && decide (i ≤ 1000000000))) H := q
      by_cases c : -1000000000 ≤ i
      · rw [decide_eq_true c] at q
        refine iteY c ?_
        walk_at "W"
        exact q
      · rw [decide_eq_false c] at q
        exact iteNo c q
    | bool b => exact iteF q
    | none => exact iteF q
    | str x => exact iteF q
    | list x => exact iteF q
    | tuple x => exact iteF q
    | dict x => exact iteF q
theorem F_pairA (d : Dfn K mg "is_pair" s_is_pair ["thing"]) (g : Gs K mg) (F_is_key : Fn P w K mg base "is_key" 2 ["thing"] (spInA 0)) (F_is_worth : Fn P w K mg base "is_worth" 2 ["thing"] (spInA (-1000000000))) : Fn P w K mg base "is_pair" 3 ["thing"] spPairA := by
  refine d.fn sc_is_pair (fun vs H Q E h => ?_) (fun f cdv A outer s H vs Q E hr h => ?_)
  · obtain ⟨v, dd, rfl, _⟩ := h
    rfl
  · obtain ⟨v, dd, rfl, hd, q⟩ := h
    refine ⟨_, (B.sone (B.ret (B.and (B.cB SW.call_isi g.b_isinstance SW.b_isinstance (B.cons (B.v 0) (B.cons (B.ty g.b_tuple SW.b_tuple) B.nil))) (B.and (B.cmp op_eq (B.cB call_len_seq g.b_len SW.b_len (B.cons (B.v 0) B.nil)) B.int) (B.and (B.fn F_is_key (hr.mono (by first | decide | omega)) (B.cons (B.ix ix_tup (B.v 0) B.int) B.nil)) (B.one (B.fn F_is_worth (hr.mono (by first | decide | omega)) (B.cons (B.ix ix_tup (B.v 0) B.int) B.nil)))))))), ?_⟩
    walk_at "W"
    refine SW.iIsi hd.ty (isi_d_tup dd) ?_
    walk_at "W"
    cases hd with
    | @tup a xs ds h r =>
      have hl := r.len
      refine iteT ?_
      walk_at "W"
      refine SW.iLen (.inr (SqT.of h)) ?_
      walk_at "W"
      rcases r with _ | ⟨h1, r⟩
      · exact iteNo (by decide) q
      rcases r with _ | ⟨h2, r⟩
      · exact iteNo (fun z => by simp at z) q
      rcases r with _ | ⟨h3, r⟩
      · refine iteY rfl ?_
        walk_at "W"
        refine wInA h1 ?_
        walk_at "W"
        rename_i x1 d1 x2 d2
        have q : Q (.bl (isInD 0 d1 && isInD (-1000000000) d2)) H := q
        cases e1 : isInD 0 d1 with
        | false => rw [e1] at q; exact iteF q
        | true =>
          rw [e1] at q
          refine iteT ?_
          walk_at "W"
          refine wInA h2 ?_
          exact q
      · refine iteNo (fun z => ?_) q
        simp at z
        omega
    | non => exact iteF q
    | bl b => exact iteF q
    | int i => exact iteF q
    | str x => exact iteF q
    | lst h r => exact iteF q
    | dic h => exact iteF q
end
noncomputable def spRowA : Sp := fun vs H Q _ => ∃ (v : V) (d : PyData), vs = [v] ∧ Any H v d ∧ (∀ ds, d = .tuple ds → ds.length ≤ 100000) ∧ ∀ H', Same H H' → Q (.bl (isRowD d)) H'
theorem wRowA {H : Hp} {Q : VK} {E : XK} {v : V} {d : PyData} (h : Any H v d) (hl : ∀ ds, d = .tuple ds → ds.length ≤ 100000) (q : ∀ H', Same H H' → Q (.bl (isRowD d)) H') : spRowA ([v] ++ []) H Q E := ⟨v, d, rfl, h, hl, q⟩
section
variable {P : Program} {w : World} {K : PySem.W.Frag} {mg : Str → Option Value} {base : Heap} 
theorem F_rowA (d : Dfn K mg "is_row" s_is_row ["thing"]) (g : Gs K mg) (F_is_pair : Fn P w K mg base "is_pair" 3 ["thing"] spPairA) : Fn P w K mg base "is_row" 4 ["thing"] spRowA := by
  refine d.fn sc_is_row (fun vs H Q E h => ?_) (fun f cdv A outer s H vs Q E hr h => ?_)
  · obtain ⟨v, dd, rfl, _⟩ := h
    rfl
  · obtain ⟨v, dd, rfl, hd, hz, q⟩ := h
    refine ⟨_, (B.sone (B.ret (B.and (B.cB SW.call_isi g.b_isinstance SW.b_isinstance (B.cons (B.v 0) (B.cons (B.ty g.b_tuple SW.b_tuple) B.nil))) (B.one (B.cB SW.call_allL g.b_all SW.b_all (B.cons (SW.B.comp [] ["pair"] (SW.CompScope.of rfl rfl (by decide +kernel) (by decide +kernel) rfl trivial rfl rfl rfl) (by decide +kernel) (B.itup (B.v 0)) (fun _ _ _ _ => (B.fn F_is_pair (hr.mono (by first | decide | omega)) (B.cons (B.v 0) B.nil)))) B.nil)))))), ?_⟩
    walk_at "W"
    refine SW.iIsi hd.ty (isi_d_tup dd) ?_
    walk_at "W"
    cases hd with
    | @tup a xs ds h r =>
      have hl := r.len
      have lim : sizeLine = 16777216 := sizeLine_eq
      have hz' := hz ds rfl
      refine iteT ?_
      walk_at "W"
      refine ⟨a, rfl, ⟨_, SqT.of h⟩, fun D hD => ?_⟩
      refine comp_tupU (xs := xs) (fun i σ' H' => ∃ v, σ' = [v] ∧ Same H H' ∧ H' D = some (.lst (((ds.take i).map isPairD).map V.bl))) ⟨none, rfl, Same.new hD, upd_same⟩ (fun i σ' H' _ ⟨v, _, s', _⟩ => SqT.of (s' _ _ h)) ?_ ?_
      · rintro i x σ' H' hx hi ⟨v, rfl, s', hD'⟩
        first | (have zz_ := r.get hx; have dx := zz_.1; have hdx := zz_.2.1; have hax := zz_.2.2; clear zz_) | obtain ⟨dx, hdx, hax⟩ := r.get hx
        walk_at "W"
        refine wPairA (hax.same s') ?_
        refine CN.mk hi hD' (by rw [List.length_map, List.length_map, List.length_take]; omega) ⟨_, rfl, fun b o e => by rw [upd_ne (ne_of_none e hD)]; exact s' _ _ e, ?_⟩
        rw [upd_same, take_snocF hdx, List.map_append, List.map_append]
        rfl
      · rintro σ' H' ⟨v, rfl, s', hD'⟩
        rw [hl, List.take_length] at hD'
        walk_at "W"
        refine ⟨D, _, rfl, SqL.of hD', rfl, ?_⟩
        have e : (List.map isPairD ds).all id = isRowD (.tuple ds) := by rw [List.all_map]; rfl
        rw [e]
        exact q _ s'
    | non => exact iteF (q _ (Same.refl _))
    | bl b => exact iteF (q _ (Same.refl _))
    | int i => exact iteF (q _ (Same.refl _))
    | str x => exact iteF (q _ (Same.refl _))
    | lst h r => exact iteF (q _ (Same.refl _))
    | dic h => exact iteF (q _ (Same.refl _))
end
noncomputable def Wd1 (d : PyData) : Prop := ∀ ds, d = .tuple ds → ds.length ≤ 100000
noncomputable def Wd2 (d : PyData) : Prop := ∀ ds, d = .tuple ds → ds.length ≤ 100000 ∧ ∀ x ∈ ds, Wd1 x
noncomputable def Wd3 (d : PyData) : Prop := ∀ ds, d = .tuple ds → ∀ x ∈ ds, Wd2 x
noncomputable def spRowsA : Sp := fun vs H Q _ => ∃ (v : V) (d : PyData), vs = [v] ∧ Any H v d ∧ Wd2 d ∧ ∀ H', Same H H' → Q (.bl (areRowsD d)) H'
theorem wRowsA {H : Hp} {Q : VK} {E : XK} {v : V} {d : PyData} (h : Any H v d) (hl : Wd2 d) (q : ∀ H', Same H H' → Q (.bl (areRowsD d)) H') : spRowsA ([v] ++ []) H Q E := ⟨v, d, rfl, h, hl, q⟩
noncomputable def spStateA : Sp := fun vs H Q _ => ∃ (v : V) (d : PyData), vs = [v] ∧ Any H v d ∧ Wd3 d ∧ ∀ H', Same H H' → Q (.bl (isStateD d)) H'
theorem wStateA {H : Hp} {Q : VK} {E : XK} {v : V} {d : PyData} (h : Any H v d) (hl : Wd3 d) (q : ∀ H', Same H H' → Q (.bl (isStateD d)) H') : spStateA ([v] ++ []) H Q E := ⟨v, d, rfl, h, hl, q⟩
section
variable {P : Program} {w : World} {K : PySem.W.Frag} {mg : Str → Option Value} {base : Heap} 
theorem F_rowsA (d : Dfn K mg "are_rows" s_are_rows ["thing"]) (g : Gs K mg) (F_is_row : Fn P w K mg base "is_row" 4 ["thing"] spRowA) : Fn P w K mg base "are_rows" 5 ["thing"] spRowsA := by
  refine d.fn sc_are_rows (fun vs H Q E h => ?_) (fun f cdv A outer s H vs Q E hr h => ?_)
  · obtain ⟨v, dd, rfl, _⟩ := h
    rfl
  · obtain ⟨v, dd, rfl, hd, hz, q⟩ := h
    refine ⟨_, (B.sone (B.ret (B.and (B.cB SW.call_isi g.b_isinstance SW.b_isinstance (B.cons (B.v 0) (B.cons (B.ty g.b_tuple SW.b_tuple) B.nil))) (B.one (B.cB SW.call_allL g.b_all SW.b_all (B.cons (SW.B.comp [] ["row"] (SW.CompScope.of rfl rfl (by decide +kernel) (by decide +kernel) rfl trivial rfl rfl rfl) (by decide +kernel) (B.itup (B.v 0)) (fun _ _ _ _ => (B.fn F_is_row (hr.mono (by first | decide | omega)) (B.cons (B.v 0) B.nil)))) B.nil)))))), ?_⟩
    walk_at "W"
    refine SW.iIsi hd.ty (isi_d_tup dd) ?_
    walk_at "W"
    cases hd with
    | @tup a xs ds h r =>
      have hl := r.len
      have lim : sizeLine = 16777216 := sizeLine_eq
      first | (have zz_ := hz ds rfl; have hz1 := zz_.1; have hz2 := zz_.2; clear zz_) | obtain ⟨hz1, hz2⟩ := hz ds rfl
      refine iteT ?_
      walk_at "W"
      refine ⟨a, rfl, ⟨_, SqT.of h⟩, fun D hD => ?_⟩
      refine comp_tupU (xs := xs) (fun i σ' H' => ∃ v, σ' = [v] ∧ Same H H' ∧ H' D = some (.lst (((ds.take i).map isRowD).map V.bl))) ⟨none, rfl, Same.new hD, upd_same⟩ (fun i σ' H' _ ⟨v, _, s', _⟩ => SqT.of (s' _ _ h)) ?_ ?_
      · rintro i x σ' H' hx hi ⟨v, rfl, s', hD'⟩
        first | (have zz_ := r.get hx; have dx := zz_.1; have hdx := zz_.2.1; have hax := zz_.2.2; clear zz_) | obtain ⟨dx, hdx, hax⟩ := r.get hx
        walk_at "W"
        refine wRowA (hax.same s') (hz2 _ (List.mem_of_getElem? hdx)) fun H5 s5 => ?_
        refine CN.mk hi (s5 _ _ hD') (by rw [List.length_map, List.length_map, List.length_take]; omega) ⟨_, rfl, fun b o e => by rw [upd_ne (ne_of_none e hD)]; exact s5 _ _ (s' _ _ e), ?_⟩
        rw [upd_same, take_snocF hdx, List.map_append, List.map_append]
        rfl
      · rintro σ' H' ⟨v, rfl, s', hD'⟩
        rw [hl, List.take_length] at hD'
        walk_at "W"
        refine ⟨D, _, rfl, SqL.of hD', rfl, ?_⟩
        have e : (List.map isRowD ds).all id = areRowsD (.tuple ds) := by rw [List.all_map]; rfl
        rw [e]
        exact q _ s'
    | non => exact iteF (q _ (Same.refl _))
    | bl b => exact iteF (q _ (Same.refl _))
    | int i => exact iteF (q _ (Same.refl _))
    | str x => exact iteF (q _ (Same.refl _))
    | lst h r => exact iteF (q _ (Same.refl _))
    | dic h => exact iteF (q _ (Same.refl _))
theorem F_stateA (d : Dfn K mg "is_state" s_is_state ["thing"]) (g : Gs K mg) (F_is_whole : Fn P w K mg base "is_whole" 1 ["thing"] spWholeA) (F_are_rows : Fn P w K mg base "are_rows" 5 ["thing"] spRowsA) : Fn P w K mg base "is_state" 6 ["thing"] spStateA := by
  refine d.fn sc_is_state (fun vs H Q E h => ?_) (fun f cdv A outer s H vs Q E hr h => ?_)
  · obtain ⟨v, dd, rfl, _⟩ := h
    rfl
  · obtain ⟨v, dd, rfl, hd, hz, q⟩ := h
    refine ⟨_, (B.scons (B.ifs (B.tw (B.wor (B.tnot (B.tval (B.cB SW.call_isi g.b_isinstance SW.b_isinstance (B.cons (B.v 0) (B.cons (B.ty g.b_tuple SW.b_tuple) B.nil))))) (B.wor1 (B.tcmp op_ne (B.cB call_len_seq g.b_len SW.b_len (B.cons (B.v 0) B.nil)) B.int)))) (B.sone (B.ret B.bl)) B.snil)
      (B.sone (B.ret (B.and (B.or (B.cmp op_isN (B.ix ix_tup (B.v 0) B.int) B.non) (B.one (B.fn F_are_rows (hr.mono (by first | decide | omega)) (B.cons (B.ix ix_tup (B.v 0) B.int) B.nil)))) (B.and (B.fn F_is_whole (hr.mono (by first | decide | omega)) (B.cons (B.ix ix_tup (B.v 0) B.int) B.nil)) (B.one (B.fn F_are_rows (hr.mono (by first | decide | omega)) (B.cons (B.ix ix_tup (B.v 0) B.int) B.nil)))))))), ?_⟩
    walk_at "W"
    refine SW.iIsi hd.ty (isi_d_tup dd) ?_
    walk_at "W"
    have q0 : isStateD dd = false → Q (.bl false) H := fun e => by have := q _ (Same.refl H); rw [e] at this; exact this
    cases hd with
    | @tup a xs ds h r =>
      have hl := r.len
      have hz' := hz ds rfl
      refine iteF ?_
      walk_at "W"
      refine SW.iLen (.inr (SqT.of h)) ?_
      walk_at "W"
      rcases r with _ | ⟨h1, r⟩
      · refine iteNN (fun z => by simp at z) ?_
        walk_at "W"
        exact q0 rfl
      rcases r with _ | ⟨h2, r⟩
      · refine iteNN (fun z => by simp at z) ?_
        walk_at "W"
        exact q0 rfl
      rcases r with _ | ⟨h3, r⟩
      · refine iteNN (fun z => by simp at z) ?_
        walk_at "W"
        exact q0 rfl
      rcases r with _ | ⟨h4, r⟩
      · rename_i x1 d1 x2 d2 x3 d3
        refine iteNS rfl ?_
        walk_at "W"
        refine ⟨rfl, ?_⟩
        walk_at "W"
        have hT := h
        by_cases hx : x1 = V.non
        · subst hx
          have eE : isElD d1 = true := by cases h1; rfl
          refine iteY rfl ?_
          walk_at "W"
          refine iteT ?_
          walk_at "W"
          refine wWholeA (h2.same (Same.refl H)) ?_
          walk_at "W"
          cases e2 : isWhD d2 with
          | false =>
            refine iteF ?_
            have := q _ (Same.refl H)
            rw [show isStateD (.tuple [d1, d2, d3]) = false by show (isElD d1 && isWhD d2 && areRowsD d3) = false; rw [e2]; cases isElD d1 <;> rfl] at this
            exact this
          | true =>
            refine iteT ?_
            walk_at "W"
            refine wRowsA (h3.same (Same.refl H)) (hz' d3 (by simp)) fun H6 s6 => ?_
            have := q _ (Same.trans (Same.refl H) s6)
            rw [show isStateD (.tuple [d1, d2, d3]) = areRowsD d3 by show (isElD d1 && isWhD d2 && areRowsD d3) = areRowsD d3; rw [e2, eE]; rfl] at this
            exact this
        · refine iteNo hx ?_
          walk_at "W"
          refine wRowsA h1 (hz' d1 (by simp)) fun H5 s5 => ?_
          have eN : isElD d1 = areRowsD d1 := by cases h1 <;> first | exact absurd rfl hx | rfl
          walk_at "W"
          cases eR : areRowsD d1 with
          | false =>
            refine iteF ?_
            have := q _ s5
            rw [show isStateD (.tuple [d1, d2, d3]) = false by show (isElD d1 && isWhD d2 && areRowsD d3) = false; rw [eN, eR]; rfl] at this
            exact this
          | true =>
            have eE : isElD d1 = true := eN.trans eR
            have hT5 := s5 _ _ h
            refine iteT ?_
            walk_at "W"
            refine wWholeA (h2.same s5) ?_
            walk_at "W"
            cases e2 : isWhD d2 with
            | false =>
              refine iteF ?_
              have := q _ s5
              rw [show isStateD (.tuple [d1, d2, d3]) = false by show (isElD d1 && isWhD d2 && areRowsD d3) = false; rw [e2]; cases isElD d1 <;> rfl] at this
              exact this
            | true =>
              refine iteT ?_
              walk_at "W"
              refine wRowsA (h3.same s5) (hz' d3 (by simp)) fun H6 s6 => ?_
              have := q _ (Same.trans s5 s6)
              rw [show isStateD (.tuple [d1, d2, d3]) = areRowsD d3 by show (isElD d1 && isWhD d2 && areRowsD d3) = areRowsD d3; rw [e2, eE]; rfl] at this
              exact this
      · refine iteNN (fun z => by simp at z; omega) ?_
        walk_at "W"
        exact q0 rfl
    | non => refine iteT ?_; walk_at "W"; exact q0 rfl
    | bl b => refine iteT ?_; walk_at "W"; exact q0 rfl
    | int i => refine iteT ?_; walk_at "W"; exact q0 rfl
    | str x => refine iteT ?_; walk_at "W"; exact q0 rfl
    | lst h r => refine iteT ?_; walk_at "W"; exact q0 rfl
    | dic h => refine iteT ?_; walk_at "W"; exact q0 rfl
end

theorem or_el {K : PySem.W.Frag} {σ : L2.St} {H : Hp} {Q : VK} {x : V} {el : Option MRows} (h : ElV H x el) (k : ∀ v' H', Same H H' → RowsV H' v' (el.getD []) → Q v' H') :
    (x = .non ∧ tTup tNil σ H Q) ∨ ∃ a xs, x = .ref a ∧ SqT K H a xs ∧ if xs.isEmpty = true then tTup tNil σ H Q else Q x H := by
  have emp : el.getD [] = [] → tTup tNil σ H Q := fun e => ⟨by show (0 : Nat) ≤ sizeLine; decide, fun p hp => k (.ref p) _ (Same.new hp) ⟨p, [], rfl, upd_same, by rw [e]; exact .nil⟩⟩
  cases el with
  | none => exact .inl ⟨h, emp rfl⟩
  | some R =>
    have hh : RowsV H x R := h
    obtain ⟨a, xs, rfl, ha, hp⟩ := id hh
    refine .inr ⟨a, xs, rfl, SqT.of ha, ?_⟩
    cases xs with
    | nil =>
      cases hp
      exact iteT (emp rfl)
    | cons y ys => exact iteF (k _ H (Same.refl _) hh)
theorem mem_tripR {sh : Bool} {i : Nat} {r : MRow} {t : Trip} (h : t ∈ tripR sh i r) : t.1 = sh ∧ t.2.1 = i := by
  obtain ⟨p, _, rfl⟩ := List.mem_map.mp h
  exact ⟨rfl, rfl⟩
theorem mem_tripF {sh : Bool} {t : Trip} : ∀ {R : MRows} {i : Nat}, t ∈ tripF sh i R → t.1 = sh ∧ i ≤ t.2.1 ∧ t.2.1 < i + R.length
  | [], _, h => by cases h
  | r :: R, i, h => by
    rcases List.mem_append.mp (show t ∈ tripR sh i r ++ tripF sh (i + 1) R from h) with z | z
    · have := mem_tripR z
      rw [List.length_cons]
      exact ⟨this.1, by omega, by omega⟩
    · have := mem_tripF z
      rw [List.length_cons]
      exact ⟨this.1, by omega, by omega⟩
theorem tripS_pos {S : Sta} {t : Trip} (h : t ∈ tripS S) : 0 < szOf S t.1 := by
  rcases List.mem_append.mp h with z | z
  · first | (have zz_ := mem_tripF z; have e := zz_.1; have h2 := zz_.2.2; clear zz_) | obtain ⟨e, _, h2⟩ := mem_tripF z
    rw [e]
    show 0 < (S.el.getD []).length
    omega
  · first | (have zz_ := mem_tripF z; have e := zz_.1; have h2 := zz_.2.2; clear zz_) | obtain ⟨e, _, h2⟩ := mem_tripF z
    rw [e]
    show 0 < S.nw.length
    omega
theorem tot_take (R : MRows) (j : Nat) : tot (R.take j) ≤ tot R := by
  have e : tot R = tot (R.take j) + tot (R.drop j) := by
    unfold tot
    rw [← List.sum_append, ← List.map_append, List.take_append_drop]
  omega
noncomputable def Big (S : Sta) : Prop := tot (S.el.getD []) + tot S.nw ≤ 100000
noncomputable def spKeysT : Sp := fun vs H Q _ => ∃ (v : V) (S : Sta), vs = [v] ∧ StV H v S ∧ Big S ∧ ∀ l zs H', Same H H' → H' l = some (.lst zs) → TrVs H' zs (tripS S) → Q (.ref l) H'
theorem wKeysT {H : Hp} {Q : VK} {E : XK} {v : V} {S : Sta} (h1 : StV H v S) (h2 : Big S) (k : ∀ l zs H', Same H H' → H' l = some (.lst zs) → TrVs H' zs (tripS S) → Q (.ref l) H') : spKeysT ([v] ++ []) H Q E := ⟨v, S, rfl, h1, h2, k⟩
section
variable {P : Program} {w : World} {K : PySem.W.Frag} {mg : Str → Option Value} {base : Heap} 
theorem F_keysT (d : Dfn K mg "keys_in_turn" s_keys_in_turn ["state"]) (g : Gs K mg) : Fn P w K mg base "keys_in_turn" 1 ["state"] spKeysT := by
  refine d.fn sc_keys_in_turn (fun vs H Q E h => ?_) (fun f cdv A outer s H vs Q E hr h => ?_)
  · obtain ⟨v, S, rfl, _⟩ := h
    rfl
  · obtain ⟨v, S, rfl, hS, hB, k⟩ := h
    obtain ⟨u, ve, vn, rfl, hu, he, hn⟩ := id hS
    have lim : sizeLine = 16777216 := sizeLine_eq
    have hB : tot (S.el.getD []) + tot S.nw ≤ 100000 := hB
    refine ⟨_, (B.scons (B.set 1 sc_keys_in_turn.nd (B.lst B.nil))
      (B.scons (B.fors (B.itup (B.tup (B.cons (B.tup (B.cons B.str (B.cons (SW.B.orA (B.ix ix_tup (B.v 0) B.int) (B.one (B.tup B.nil))) B.nil))) (B.cons (B.tup (B.cons B.str (B.cons (B.ix ix_tup (B.v 0) B.int) B.nil))) B.nil)))) (B.gtup (B.gcons (B.gname (i := 2) sc_keys_in_turn.nd) (B.gcons (B.gname (i := 3) sc_keys_in_turn.nd) B.gnil))) (B.sone (B.fors (SW.B.ienumT g.b_enumerate (B.cons (B.v 3) B.nil)) (B.gtup (B.gcons (B.gname (i := 4) sc_keys_in_turn.nd) (B.gcons (B.gname (i := 5) sc_keys_in_turn.nd) B.gnil))) (B.sone (B.expr (B.m PySem.F.plainAttrs_list PySem.F.slot_list_extend PySem.F.type_list_extend mt_extend (B.v 1) (B.cons (SW.B.comp [2, 4] ["pair", "shelf", "place"] (SW.CompScope.of rfl rfl (by decide +kernel) (by decide +kernel) rfl ⟨rfl, rfl, trivial⟩ rfl rfl rfl) (by decide +kernel) (B.itup (B.v 5)) (fun _ _ _ _ => (B.tup (B.cons (B.v 1) (B.cons (B.v 2) (B.cons (B.ix (SW.ix_tupK K) (B.v 0) B.int) B.nil)))))) B.nil)))))))
      (B.sone (B.ret (B.v 1))))), ?_⟩
    walk_at "W"
    refine ⟨by show (0 : Nat) ≤ sizeLine; decide, fun l hl => ?_⟩
    have s1 : Same H (upd H l (.lst [])) := Same.new hl
    have hu1 := s1 _ _ hu
    walk_at "W"
    refine or_el (he.keep (SW.Same.tk s1)) fun va H2 s2 ha => ?_
    walk_at "W"
    refine ⟨by show (2 : Nat) ≤ sizeLine; decide, fun t1 ht1 => ?_⟩
    have a3 := Same.new (o := .tup [.str "elder", va]) ht1
    have hu3 := (s2.trans a3) _ _ hu1
    walk_at "W"
    refine ⟨by show (2 : Nat) ≤ sizeLine; decide, fun t2 ht2 => ?_⟩
    have a4 := Same.new (o := .tup [.str "newer", vn]) ht2
    walk_at "W"
    refine ⟨by show (2 : Nat) ≤ sizeLine; decide, fun t3 ht3 => ?_⟩
    have a5 := Same.new (o := .tup [.ref t1, .ref t2]) ht3
    have s15 := s2.trans ((a3.trans a4).trans a5)
    have et1 := (a4.trans a5) _ _ (upd_same (H := H2) (a := t1) (o := .tup [.str "elder", va]))
    have et2 := a5 _ _ (upd_same (a := t2) (o := .tup [.str "newer", vn]))
    have hva := ha.keep (SW.Same.tk ((a3.trans a4).trans a5))
    have hvn := hn.keep (SW.Same.tk (s1.trans s15))
    have el := s15 _ _ (upd_same (H := H) (a := l) (o := .lst []))
    have s05 := s1.trans s15
    have e3 := upd_same (H := upd (upd H2 t1 (.tup [.str "elder", va])) t2 (.tup [.str "newer", vn])) (a := t3) (o := .tup [.ref t1, .ref t2])
    obtain ⟨H5, hH5⟩ : ∃ H5, H5 = upd (upd (upd H2 t1 (.tup [.str "elder", va])) t2 (.tup [.str "newer", vn])) t3 (.tup [.ref t1, .ref t2]) := ⟨_, rfl⟩
    rw [← hH5] at et1 et2 hva hvn el s05 e3 ⊢
    clear hH5 s15 a3 a4 a5 hu3
    have n3 : t3 ≠ l := ne_of e3 el (by intro z; cases z)
    -- what is told ahead of the i-th shelf
    obtain ⟨acc, hacc⟩ : ∃ acc : Nat → List Trip, acc = fun i => if i = 0 then [] else if i = 1 then tripF true 0 (S.el.getD []) else tripS S := ⟨_, rfl⟩
    have itm : ∀ i x, [V.ref t1, V.ref t2][i]? = some x → ∃ (t : Addr) (sh : Bool) (vr : V) (R : MRows), x = .ref t ∧ H5 t = some (.tup [.str (shN sh), vr]) ∧ RowsV H5 vr R ∧ acc (i + 1) = acc i ++ tripF sh 0 R ∧ (acc i).length + tot R ≤ 100000 := by
      intro i x e
      match i, e with
      | 0, e =>
        cases e
        refine ⟨t1, true, va, S.el.getD [], rfl, et1, hva, by rw [hacc]; rfl, ?_⟩
        rw [hacc]; show 0 + _ ≤ _; omega
      | 1, e =>
        cases e
        refine ⟨t2, false, vn, S.nw, rfl, et2, hvn, by rw [hacc]; rfl, ?_⟩
        rw [hacc]; show (tripF true 0 (S.el.getD [])).length + _ ≤ _; rw [tripF_len]; exact hB
      | n + 2, e => simp at e
    refine ⟨t3, rfl, ⟨_, SqT.of e3⟩, ?_⟩
    refine for_tup (xs := [V.ref t1, V.ref t2]) (fun i σ H' => ∃ (zs : List V) (v2 v3 v4 v5 : Option V), σ = [some (.ref u), some (.ref l), v2, v3, v4, v5] ∧ KeepBut l H5 H' ∧ H' l = some (.lst zs) ∧ TrVs H' zs (acc i)) ⟨[], none, none, none, none, rfl, KeepBut.refl _ _, el, by rw [hacc]; exact .nil⟩ (fun i σ H' _ ⟨_, _, _, _, _, _, k', _⟩ => SqT.of (k' _ _ n3 e3)) ?_ ?_
    · rintro i x σ H' hx ⟨zs, v2, v3, v4, v5, rfl, k', hl', hz⟩
      obtain ⟨t, sh, vr, R, rfl, ht, hR, hac, hlen⟩ := itm i x hx
      have tk' : TK H5 H' := fun a xs e => k' _ _ (ne_of e el (by intro z; cases z)) e
      obtain ⟨ra, rs, rfl, hra, hrs⟩ := hR
      have hrl := paired_len hrs
      refine ⟨t, _, rfl, SqT.of (tk' _ _ ht), rfl, _, _, rfl, ?_⟩
      walk_at "W"
      refine ⟨_, _, rfl, ?_⟩
      walk_at "W"
      refine ⟨rfl, ?_⟩
      walk_at "W"
      refine ⟨ra, rfl, ⟨_, SqT.of (tk' _ _ hra)⟩, ?_⟩
      refine for_enumT (xs := rs) (fun j σ H'' => ∃ (zs : List V) (v4 v5 : Option V), σ = [some (.ref u), some (.ref l), some (.str (shN sh)), some (.ref ra), v4, v5] ∧ KeepBut l H5 H'' ∧ H'' l = some (.lst zs) ∧ TrVs H'' zs (acc i ++ tripF sh 0 (R.take j))) ⟨zs, v4, v5, rfl, k', hl', by rw [List.take_zero]; show TrVs H' zs (acc i ++ []); rw [List.append_nil]; exact hz⟩ (fun j σ H'' ⟨_, _, _, _, k'', _⟩ => SqT.of (k'' _ _ (ne_of hra el (by intro z; cases z)) hra)) ?_ ?_
      · rintro j y σ H'' T hy hT ⟨zs, v4, v5, rfl, k'', hl'', hz⟩
        obtain ⟨r, hr_, b, ys, rfl, hb, hps⟩ := paired_get hrs hy
        have tk'' : TK H5 H'' := fun a xs e => k'' _ _ (ne_of e el (by intro z; cases z)) e
        have aT := Same.new (o := .tup [.int (j : Int), .ref b]) hT
        have hb2 := aT _ _ (tk'' _ _ hb)
        have hps2 := (hps.keep tk'').keep (SW.Same.tk aT)
        have hl2 := aT _ _ hl''
        have nlT : T ≠ l := (ne_of_none hl'' hT).symm
        have hyl := hps.len
        have htk := take_snocF hr_
        have hrlen : r.length ≤ tot R := by
          have := tot_take R (j + 1)
          rw [htk] at this
          unfold tot at this ⊢
          rw [List.map_append, List.sum_append] at this
          have h2 : (List.map List.length [r]).sum = r.length := by simp
          omega
        have hzl : zs.length + r.length ≤ 100000 := by
          have h1 := paired_len hz
          rw [List.length_append, tripF_len] at h1
          have h2 := tot_take R (j + 1)
          rw [htk] at h2
          have h3 : tot (R.take j ++ [r]) = tot (R.take j) + r.length := by
            unfold tot
            rw [List.map_append, List.sum_append]
            simp
          omega
        refine ⟨T, _, rfl, SqT.of upd_same, rfl, _, _, rfl, ?_⟩
        walk_at "W"
        refine ⟨_, _, rfl, ?_⟩
        walk_at "W"
        refine ⟨rfl, ?_⟩
        walk_at "W"
        refine wBM ?_
        walk_at "W"
        refine ⟨.inl ⟨rfl, _, SqL.of hl2⟩, ?_⟩
        walk_at "W"
        refine ⟨b, rfl, ⟨_, SqT.of hb2⟩, fun D hD => ?_⟩
        obtain ⟨H6, hH6⟩ : ∃ H6, H6 = upd H'' T (.tup [.int (j : Int), .ref b]) := ⟨_, rfl⟩
        rw [← hH6] at aT hb2 hps2 hl2 hD ⊢
        clear hH6
        refine comp_tupU (xs := ys) (fun q σ' H3 => ∃ (v : Option V) (ds : List V), σ' = [v, some (.str (shN sh)), some (.int (j : Int))] ∧ Same H6 H3 ∧ H3 D = some (.lst ds) ∧ TrVs H3 ds (tripR sh j (r.take q)) ∧ ds.length = q) ⟨none, [], rfl, Same.new hD, upd_same, by rw [List.take_zero]; exact .nil, rfl⟩ (fun q σ' H3 _ ⟨_, _, _, s', _⟩ => SqT.of (s' _ _ hb2)) ?_ ?_
        · rintro q y σ' H3 hy hq ⟨v, ds, rfl, s', hD', hds, hdl⟩
          obtain ⟨⟨k1, y1⟩, hpp, c, rfl, hc⟩ := paired_get hps2 hy
          have hc' := s' _ _ hc
          walk_at "W"
          refine ⟨by show (3 : Nat) ≤ sizeLine; decide, fun t4 ht4 => ?_⟩
          have a7 := Same.new (o := .tup [.str (shN sh), .int (j : Int), .int k1]) ht4
          have hD7 := a7 _ _ hD'
          have n7 : t4 ≠ D := (ne_of_none hD' ht4).symm
          have tk : TK H3 (upd (upd H3 t4 (.tup [.str (shN sh), .int (j : Int), .int k1])) D (.lst (ds ++ [.ref t4]))) := fun a xs e => by
            rw [upd_ne (ne_of e hD' (by intro z; cases z))]
            exact a7 _ _ e
          refine CN.mk hq hD7 (by omega) ⟨_, ds ++ [.ref t4], rfl, fun b o e => by rw [upd_ne (ne_of_none e hD)]; exact a7 _ _ (s' _ _ e), upd_same, ?_, by rw [List.length_append, hdl]; rfl⟩
          rw [take_snocF hpp]
          unfold tripR
          rw [List.map_append]
          exact paired_append (.cons ⟨t4, rfl, by rw [upd_ne n7]; exact upd_same⟩ .nil) (TrVs.keep hds tk)
        · rintro σ' H3 ⟨v, ds, rfl, s', hD', hds, hdl⟩
          rw [hyl, List.take_length] at hds
          have hl3 := s' _ _ hl2
          walk_at "W"
          refine ⟨l, D, zs, ds, rfl, rfl, hl3, hD', by omega, ?_⟩
          have nDl : l ≠ D := ne_of_none hl2 hD
          have tkx : TK H3 (upd H3 l (.lst (zs ++ ds))) := fun a xs e => by rw [upd_ne (ne_of e hl3 (by intro z; cases z))]; exact e
          walk_at "W"
          refine ⟨zs ++ ds, _, _, rfl, fun b o n e => ?_, upd_same, ?_⟩
          · rw [upd_ne n]
            exact s' _ _ (aT _ _ (k'' _ _ n e))
          · rw [htk, tripF_snoc, Nat.zero_add]
            have e5 : (R.take j).length = j := by
              rw [List.length_take]
              have : j < R.length := (List.getElem?_eq_some_iff.mp hr_).1
              omega
            rw [e5, ← List.append_assoc]
            exact paired_append (TrVs.keep hds tkx) (TrVs.keep (TrVs.keep (TrVs.keep hz (SW.Same.tk aT)) (SW.Same.tk s')) tkx)
      · rintro σ H'' ⟨zs, v4, v5, rfl, k'', hl'', hz⟩
        rw [hrl, List.take_length, ← hac] at hz
        exact ⟨zs, _, _, _, _, rfl, k'', hl'', hz⟩
    · rintro σ H' ⟨zs, v2, v3, v4, v5, rfl, k', hl', hz⟩
      walk_at "W"
      refine k l zs H' (fun b o e => k' _ _ (ne_of_none e hl) (s05 _ _ e)) hl' ?_
      have e2 : acc [V.ref t1, V.ref t2].length = tripS S := by rw [hacc]; rfl
      rw [← e2]
      exact hz
end
noncomputable def spPairsF : Sp := fun vs H Q _ => ∃ (v : V) (t : Addr) (f m : Int) (S : Sta), vs = [v, .ref t] ∧ StV H v S ∧ Big S ∧ H t = some (.tup [.int f, .int m]) ∧ (0 ≤ f ∧ f ≤ 65535) ∧ ∀ v' H', Same H H' → FltV H' v' (firstP f m (szOf S) (mvOf S) [] (tripS S)) → Q v' H'
theorem wPairsF {H : Hp} {Q : VK} {E : XK} {v : V} {t : Addr} {f m : Int} {S : Sta} (h1 : StV H v S) (h2 : Big S) (h3 : H t = some (.tup [.int f, .int m])) (h4 : 0 ≤ f ∧ f ≤ 65535) (k : ∀ v' H', Same H H' → FltV H' v' (firstP f m (szOf S) (mvOf S) [] (tripS S)) → Q v' H') : spPairsF ([v, .ref t] ++ []) H Q E := ⟨v, t, f, m, S, rfl, h1, h2, h3, h4, k⟩
noncomputable def spFaultF : Sp := fun vs H Q _ => ∃ (v : V) (t : Addr) (f m : Int) (S : Sta), vs = [v, .ref t] ∧ StV H v S ∧ Big S ∧ H t = some (.tup [.int f, .int m]) ∧ (0 ≤ f ∧ f ≤ 65535) ∧ ∀ v' H', Same H H' → FltV H' v' (faultOf f m S) → Q v' H'
theorem wFaultF {H : Hp} {Q : VK} {E : XK} {v : V} {t : Addr} {f m : Int} {S : Sta} (h1 : StV H v S) (h2 : Big S) (h3 : H t = some (.tup [.int f, .int m])) (h4 : 0 ≤ f ∧ f ≤ 65535) (k : ∀ v' H', Same H H' → FltV H' v' (faultOf f m S) → Q v' H') : spFaultF ([v, .ref t] ++ []) H Q E := ⟨v, t, f, m, S, rfl, h1, h2, h3, h4, k⟩
section
variable {P : Program} {w : World} {K : PySem.W.Frag} {mg : Str → Option Value} {base : Heap} 
theorem F_pairsF (d : Dfn K mg "first_fault_of_pairs" s_first_fault_of_pairs ["state", "mixer"]) (g : Gs K mg) (F_place_of : Fn P w K mg base "place_of" 1 ["mark", "size"] spPlace) (F_mark_of : Fn P w K mg base "mark_of" 1 ["key", "mixer"] spMark) (F_keys_in_turn : Fn P w K mg base "keys_in_turn" 1 ["state"] spKeysT) : Fn P w K mg base "first_fault_of_pairs" 2 ["state", "mixer"] spPairsF := by
  refine d.fn sc_first_fault_of_pairs (fun vs H Q E h => ?_) (fun f cdv A outer s H vs Q E hr h => ?_)
  · obtain ⟨v, t, f, m, S, rfl, _⟩ := h
    rfl
  · obtain ⟨v, t, fa, mo, S, rfl, hS, hB, ht, hf, k⟩ := h
    obtain ⟨u, ve, vn, rfl, hu, he, hn⟩ := id hS
    have lim : sizeLine = 16777216 := sizeLine_eq
    have sab : ((("elder" : PySem.Str)) == ("newer" : PySem.Str)) = false := by decide +kernel
    refine ⟨_, (B.scons (B.set 2 sc_first_fault_of_pairs.nd (SW.B.disp (SW.B.ppcons B.str (B.cB call_len_seq g.b_len SW.b_len (B.cons (SW.B.orA (B.ix ix_tup (B.v 0) B.int) (B.one (B.tup B.nil))) B.nil)) (SW.B.ppcons B.str (B.cB call_len_seq g.b_len SW.b_len (B.cons (B.ix ix_tup (B.v 0) B.int) B.nil)) SW.B.ppnil))))
      (B.scons (B.set 3 sc_first_fault_of_pairs.nd (SW.B.disp (SW.B.ppcons B.str (B.ix ix_tup (B.v 0) B.int) (SW.B.ppcons B.str B.int SW.B.ppnil))))
      (B.scons (B.set 4 sc_first_fault_of_pairs.nd B.dnew)
      (B.scons (B.fors (B.ilist (B.fn F_keys_in_turn (hr.mono (by first | decide | omega)) (B.cons (B.v 0) B.nil))) (B.gtup (B.gcons (B.gname (i := 5) sc_first_fault_of_pairs.nd) (B.gcons (B.gname (i := 6) sc_first_fault_of_pairs.nd) (B.gcons (B.gname (i := 7) sc_first_fault_of_pairs.nd) B.gnil)))) (B.scons (B.ifs (B.tcmp op_ne (B.fn F_place_of (hr.mono (by first | decide | omega)) (B.cons (B.fn F_mark_of (hr.mono (by first | decide | omega)) (B.cons (B.v 7) (B.cons (B.v 1) B.nil))) (B.cons (SW.B.dget (hu_of hr) (B.v 2) (B.v 5)) B.nil))) (B.v 6)) (B.sone (B.ret (B.tup (B.cons B.str (B.cons (B.v 5) (B.cons (B.v 6) B.nil)))))) B.snil)
      (B.scons (B.ifs (B.tcmp op_lt (B.v 6) (SW.B.dget (hu_of hr) (B.v 3) (B.v 5))) (B.sone (B.ret (B.tup (B.cons B.str (B.cons (B.v 5) (B.cons (B.v 6) B.nil)))))) B.snil)
      (B.scons (B.ifs (B.tdin (hu_of hr) (B.v 7) (B.v 4)) (B.sone (B.ret (B.tup (B.cons B.str (B.cons (B.v 5) (B.cons (B.v 6) B.nil)))))) B.snil)
      (B.sone (B.dput (hu_of hr) (B.v 4) (B.v 7) B.bl))))))
      (B.sone (B.ret B.non)))))), ?_⟩
    walk_at "W"
    refine SW.wDisp fun p1 hp1 => ?_
    have s1 : Same H (upd H p1 (.dK [])) := Same.new hp1
    have hu1 := s1 _ _ hu
    walk_at "W"
    refine or_el (he.keep (SW.Same.tk s1)) fun va H2 s2 ha => ?_
    obtain ⟨ra, rs, rfl, hra, hrs⟩ := ha
    have hrl := paired_len hrs
    walk_at "W"
    refine SW.iLen (.inr (SqT.of hra)) ?_
    have s12 := s1.trans s2
    have hu2 := s12 _ _ hu
    obtain ⟨na, ns, rfl, hna, hns⟩ := hn.keep (SW.Same.tk s12)
    have hnl := paired_len hns
    walk_at "W"
    refine SW.iLen (.inr (SqT.of hna)) ?_
    walk_at "W"
    refine disp2 (s2 _ _ upd_same) ?_
    rw [merge2 sab, hrl, hnl]
    have b3 : ∀ b o, b ≠ p1 → H2 b = some o → upd H2 p1 (.dK [(Sum.inr "elder", .int ((S.el.getD []).length : Nat)), (Sum.inr "newer", .int (S.nw.length : Nat))]) b = some o := fun b o n e => by rw [upd_ne n]; exact e
    have e3 := upd_same (H := H2) (a := p1) (o := .dK [(Sum.inr "elder", .int ((S.el.getD []).length : Nat)), (Sum.inr "newer", .int (S.nw.length : Nat))])
    obtain ⟨H3, hH3⟩ : ∃ H3, H3 = upd H2 p1 (.dK [(Sum.inr "elder", .int ((S.el.getD []).length : Nat)), (Sum.inr "newer", .int (S.nw.length : Nat))]) := ⟨_, rfl⟩
    rw [← hH3] at b3 e3 ⊢
    clear hH3
    have s03 : Same H H3 := fun b o e => b3 b o (ne_of_none e hp1) (s12 _ _ e)
    have hu3 := s03 _ _ hu
    walk_at "W"
    refine SW.wDisp fun p4 hp4 => ?_
    have a4 : Same H3 (upd H3 p4 (.dK [])) := Same.new hp4
    have hu4 := a4 _ _ hu3
    walk_at "W"
    refine disp2 upd_same ?_
    rw [merge2 sab]
    have n41 : p1 ≠ p4 := ne_of_none e3 hp4
    have b5 : ∀ b o, b ≠ p4 → H3 b = some o → upd (upd H3 p4 (.dK [])) p4 (.dK [(Sum.inr "elder", .int S.mv), (Sum.inr "newer", .int 0)]) b = some o := fun b o n e => by rw [upd_ne n, upd_ne n]; exact e
    have e5 := upd_same (H := upd H3 p4 (.dK [])) (a := p4) (o := .dK [(Sum.inr "elder", .int S.mv), (Sum.inr "newer", .int 0)])
    obtain ⟨H5, hH5⟩ : ∃ H5, H5 = upd (upd H3 p4 (.dK [])) p4 (.dK [(Sum.inr "elder", .int S.mv), (Sum.inr "newer", .int 0)]) := ⟨_, rfl⟩
    rw [← hH5] at b5 e5 ⊢
    clear hH5
    have s05 : Same H H5 := fun b o e => b5 b o (ne_of_none (s03 _ _ e) hp4) (s03 _ _ e)
    have e35 := b5 _ _ n41 e3
    walk_at "W"
    intro hd_ hhd
    have a6 := Same.new (o := .dK []) hhd
    have s06 := s05.trans a6
    have e36 := a6 _ _ e35
    have e56 := a6 _ _ e5
    have eh6 := upd_same (H := H5) (a := hd_) (o := .dK [])
    have nh : H hd_ = none := s05.free hhd
    obtain ⟨H6, hH6⟩ : ∃ H6, H6 = upd H5 hd_ (.dK []) := ⟨_, rfl⟩
    rw [← hH6] at a6 s06 e36 e56 eh6 ⊢
    have n1h : p1 ≠ hd_ := fun z => by rw [← z, e35] at hhd; cases hhd
    have n4h : p4 ≠ hd_ := fun z => by rw [← z, e5] at hhd; cases hhd
    clear hH6
    walk_at "W"
    refine wKeysT (hS.keep (SW.Same.tk s06)) hB fun l zs H7 s7 hl hz => ?_
    have e37 := s7 _ _ e36
    have e57 := s7 _ _ e56
    have eh7 := s7 _ _ eh6
    have s07 := s06.trans s7
    have hzl := paired_len hz
    have htl : (tripS S).length ≤ 100000 := by
      unfold tripS
      rw [List.length_append, tripF_len, tripF_len]; exact hB
    have nlh : l ≠ hd_ := ne_of hl eh7 (by intro z; cases z)
    have ntr : ∀ {x : Addr} {xs : List V}, H7 x = some (.tup xs) → x ≠ hd_ := fun e => ne_of e eh7 (by intro z; cases z)
    have ht7 := s07 _ _ ht
    refine ⟨l, rfl, ⟨_, SqL.of hl⟩, ?_⟩
    refine L2.for_list (xs := zs) (fun i σ H' => ∃ (v5 v6 v7 : Option V), σ = [some (.ref u), some (.ref t), some (.ref p1), some (.ref p4), some (.ref hd_), v5, v6, v7] ∧ KeepBut hd_ H7 H' ∧ H' hd_ = some (.dK (kbs (((tripS S).take i).map (·.2.2)))) ∧ firstP fa mo (szOf S) (mvOf S) [] (tripS S) = firstP fa mo (szOf S) (mvOf S) (((tripS S).take i).map (·.2.2)) ((tripS S).drop i)) ⟨none, none, none, rfl, KeepBut.refl _ _, eh7, rfl⟩ (fun i σ H' _ ⟨_, _, _, _, k', _⟩ => SqL.of (k' _ _ nlh hl)) ?_ ?_
    · rintro i x σ H' hx ⟨v5, v6, v7, rfl, k', hh', hfp⟩
      obtain ⟨⟨sh, pl, ky⟩, hti, b, rfl, hb⟩ := paired_get hz hx
      have hi : i < (tripS S).length := (List.getElem?_eq_some_iff.mp hti).1
      have hdr : (tripS S).drop i = (sh, pl, ky) :: (tripS S).drop (i + 1) := by
        rw [List.drop_eq_getElem_cons hi]
        rw [List.getElem?_eq_getElem hi] at hti
        rw [Option.some.inj hti]
      rw [hdr, firstP_cons] at hfp
      have hpos := tripS_pos (List.mem_of_getElem? hti)
      have hpos : 0 < szOf S sh := hpos
      have hb' := k' _ _ (ntr hb) hb
      have ht' := k' _ _ (ntr ht7) ht7
      have e3' := k' _ _ n1h e37
      have e5' := k' _ _ n4h e57
      have sH : Same H H' := fun b o e => k' _ _ (ne_of_none e nh) (s07 _ _ e)
      have gS : DGet H' p1 (V.str (shN sh)) (some (V.int (szOf S sh : Nat))) := by
        cases sh with
        | true =>
          have z := DGet.k (k := Sum.inr "elder") e3'
          rw [val2a] at z
          exact z
        | false =>
          have z := DGet.k (k := Sum.inr "newer") e3'
          rw [val2b sab] at z
          exact z
      have gM : DGet H' p4 (V.str (shN sh)) (some (V.int (mvOf S sh))) := by
        cases sh with
        | true =>
          have z := DGet.k (k := Sum.inr "elder") e5'
          rw [val2a] at z
          exact z
        | false =>
          have z := DGet.k (k := Sum.inr "newer") e5'
          rw [val2b sab] at z
          exact z
      have fin : ∀ (kd : Nat) (nm : PySem.Str), nm = fkN kd → firstP fa mo (szOf S) (mvOf S) [] (tripS S) = some (.at_ kd sh pl) → ∀ q, H' q = none → Q (.ref q) (upd H' q (.tup [.str nm, .str (shN sh), .int (pl : Nat)])) := by
        rintro kd nm rfl e q hq
        refine k _ _ (sH.trans (Same.new hq)) ?_
        rw [e]
        exact ⟨q, rfl, upd_same⟩
      refine ⟨b, _, rfl, SqT.of hb', rfl, _, _, rfl, ?_⟩
      walk_at "W"
      refine ⟨_, _, rfl, ?_⟩
      walk_at "W"
      refine ⟨_, _, rfl, ?_⟩
      walk_at "W"
      refine ⟨rfl, ?_⟩
      walk_at "W"
      refine wMark ht' hf ?_
      walk_at "W"
      refine ⟨p1, _, rfl, gS, ?_⟩
      walk_at "W"
      refine wPlace (by omega) ?_
      walk_at "W"
      by_cases h1 : (ky * fa + mo) % 65536 % (szOf S sh : Int) = pl
      · rw [if_neg (fun z => z h1)] at hfp
        refine iteNS (by rw [h1]) ?_
        walk_at "W"
        refine ⟨p4, _, rfl, gM, ?_⟩
        walk_at "W"
        by_cases h2 : (pl : Int) < mvOf S sh
        · rw [if_pos h2] at hfp
          refine iteY h2 ?_
          walk_at "W"
          exact ⟨by show (3 : Nat) ≤ sizeLine; decide, fin 1 "emptied" rfl hfp⟩
        · rw [if_neg h2] at hfp
          refine iteNo h2 ?_
          walk_at "W"
          refine ⟨hd_, _, rfl, DGet.k (k := Sum.inl ky) hh', ?_⟩
          walk_at "W"
          rw [valV_kbs]
          by_cases h3 : ky ∈ ((tripS S).take i).map (·.2.2)
          · rw [if_pos h3] at hfp
            rw [decide_eq_true h3]
            refine iteT ?_
            walk_at "W"
            exact ⟨by show (3 : Nat) ≤ sizeLine; decide, fin 2 "twice" rfl hfp⟩
          · rw [if_neg h3] at hfp
            rw [decide_eq_false h3]
            refine iteF ?_
            walk_at "W"
            refine ⟨hd_, _, rfl, DPut.k (k := Sum.inl ky) hh' (by rw [kbs_len, List.length_map, List.length_take]; omega), ?_⟩
            rw [putK_kbs h3]
            have etk : ((tripS S).take (i + 1)).map (·.2.2) = ((tripS S).take i).map (·.2.2) ++ [ky] := by rw [take_snocF hti, List.map_append]; rfl
            walk_at "W"
            refine ⟨_, _, _, rfl, fun b o n e => by rw [upd_ne n]; exact k' _ _ n e, by rw [etk]; exact upd_same, by rw [etk]; exact hfp⟩
      · rw [if_pos h1] at hfp
        refine iteNN (fun z => h1 (by injection z)) ?_
        walk_at "W"
        exact ⟨by show (3 : Nat) ≤ sizeLine; decide, fin 0 "place" rfl hfp⟩
    · rintro σ H' ⟨v5, v6, v7, rfl, k', hh', hfp⟩
      rw [hzl, List.drop_length] at hfp
      walk_at "W"
      refine k _ _ (fun b o e => k' _ _ (ne_of_none e nh) (s07 _ _ e)) ?_
      rw [hfp]
      rfl
theorem F_faultF (d : Dfn K mg "first_fault" s_first_fault ["state", "mixer"]) (g : Gs K mg) (F_has_right_places : Fn P w K mg base "has_right_places" 3 ["elder", "newer"] spPlacesR) (F_has_right_moved : Fn P w K mg base "has_right_moved" 1 ["elder", "moved"] spMovedR) (F_first_fault_of_pairs : Fn P w K mg base "first_fault_of_pairs" 2 ["state", "mixer"] spPairsF) : Fn P w K mg base "first_fault" 4 ["state", "mixer"] spFaultF := by
  refine d.fn sc_first_fault (fun vs H Q E h => ?_) (fun f cdv A outer s H vs Q E hr h => ?_)
  · obtain ⟨v, t, f, m, S, rfl, _⟩ := h
    rfl
  · obtain ⟨v, t, fa, mo, S, rfl, hS, hB, ht, hf, k⟩ := h
    obtain ⟨u, ve, vn, rfl, hu, he, hn⟩ := id hS
    unfold faultOf at k
    refine ⟨_, (B.scons (B.ifs (B.tnot (B.tval (B.fn F_has_right_places (hr.mono (by first | decide | omega)) (B.cons (B.ix ix_tup (B.v 0) B.int) (B.cons (B.ix ix_tup (B.v 0) B.int) B.nil))))) (B.sone (B.ret (B.tup (B.cons B.str B.nil)))) B.snil)
      (B.scons (B.ifs (B.tnot (B.tval (B.fn F_has_right_moved (hr.mono (by first | decide | omega)) (B.cons (B.ix ix_tup (B.v 0) B.int) (B.cons (B.ix ix_tup (B.v 0) B.int) B.nil))))) (B.sone (B.ret (B.tup (B.cons B.str B.nil)))) B.snil)
      (B.sone (B.ret (B.fn F_first_fault_of_pairs (hr.mono (by first | decide | omega)) (B.cons (B.v 0) (B.cons (B.v 1) B.nil))))))), ?_⟩
    walk_at "W"
    refine ⟨ve, vn, S, rfl, he, hn, ?_⟩
    walk_at "W"
    cases h1 : rightP S with
    | false =>
      rw [h1, if_pos rfl] at k
      refine iteT ?_
      walk_at "W"
      exact ⟨by show (1 : Nat) ≤ sizeLine; decide, fun q hq => k _ _ (Same.new hq) ⟨q, rfl, upd_same⟩⟩
    | true =>
      rw [h1, if_neg (fun z => nomatch z)] at k
      refine iteF ?_
      walk_at "W"
      refine ⟨ve, S, rfl, he, ?_⟩
      walk_at "W"
      cases h2 : rightM S with
      | false =>
        rw [h2, if_pos rfl] at k
        refine iteT ?_
        walk_at "W"
        exact ⟨by show (1 : Nat) ≤ sizeLine; decide, fun q hq => k _ _ (Same.new hq) ⟨q, rfl, upd_same⟩⟩
      | true =>
        rw [h2, if_neg (fun z => nomatch z)] at k
        refine iteF ?_
        walk_at "W"
        exact wPairsF hS hB ht hf k
end

noncomputable def BigD (d : PyData) : Prop := ∀ S, d = stD S → Big S
noncomputable def spSoundA : Sp := fun vs H Q _ => ∃ (v : V) (d : PyData) (t : Addr) (f m : Int), vs = [v, .ref t] ∧ Any H v d ∧ Wd3 d ∧ BigD d ∧ H t = some (.tup [.int f, .int m]) ∧ (0 ≤ f ∧ f ≤ 65535) ∧ ∀ H' b, Same H H' → (isStateD d = false → b = false) → (isStateD d = true → ∀ S, d = stD S → b = (faultOf f m S).isNone) → Q (.bl b) H'
theorem wSoundA {H : Hp} {Q : VK} {E : XK} {v : V} {d : PyData} {t : Addr} {f m : Int} (h1 : Any H v d) (h2 : Wd3 d) (h3 : BigD d) (h4 : H t = some (.tup [.int f, .int m])) (h5 : 0 ≤ f ∧ f ≤ 65535) (q : ∀ H' b, Same H H' → (isStateD d = false → b = false) → (isStateD d = true → ∀ S, d = stD S → b = (faultOf f m S).isNone) → Q (.bl b) H') : spSoundA ([v, .ref t] ++ []) H Q E := ⟨v, d, t, f, m, rfl, h1, h2, h3, h4, h5, q⟩
theorem rowD_inj : ∀ {r s : MRow}, rowD r = rowD s → r = s := by
  intro r s h
  unfold rowD at h
  injection h with h
  induction r generalizing s with
  | nil => cases s with
    | nil => rfl
    | cons b s => cases h
  | cons a r ih => cases s with
    | nil => cases h
    | cons b s =>
      rw [List.map_cons, List.map_cons] at h
      injection h with h1 h2
      injection h1 with h1
      injection h1 with h1 h3
      injection h1 with h1
      injection h3 with h3
      injection h3 with h3
      rw [ih h2, show a = b from Prod.ext h1 h3]
theorem rowsD_inj : ∀ {r s : MRows}, rowsD r = rowsD s → r = s := by
  intro r s h
  unfold rowsD at h
  injection h with h
  induction r generalizing s with
  | nil => cases s with
    | nil => rfl
    | cons b s => cases h
  | cons a r ih => cases s with
    | nil => cases h
    | cons b s =>
      rw [List.map_cons, List.map_cons] at h
      injection h with h1 h2
      rw [ih h2, rowD_inj h1]
theorem elD_inj {a b : Option MRows} (h : elD a = elD b) : a = b := by
  cases a with
  | none => cases b with
    | none => rfl
    | some B => cases h
  | some A => cases b with
    | none => cases h
    | some B => rw [rowsD_inj h]
theorem stD_inj {S T : Sta} (h : stD S = stD T) : S = T := by
  first | (have zz_ := S; have a := zz_.1; have b := zz_.2.1; have c := zz_.2.2; clear zz_) | obtain ⟨a, b, c⟩ := S
  first | (have zz_ := T; have a' := zz_.1; have b' := zz_.2.1; have c' := zz_.2.2; clear zz_) | obtain ⟨a', b', c'⟩ := T
  unfold stD at h
  injection h with h
  injection h with h1 h
  injection h with h2 h
  injection h with h3 h
  injection h2 with h2
  have h1 : elD a = elD a' := h1
  have h3 : rowsD c = rowsD c' := h3
  rw [elD_inj h1, rowsD_inj h3, show b = b' from h2]
section
variable {P : Program} {w : World} {K : PySem.W.Frag} {mg : Str → Option Value} {base : Heap} 
theorem F_soundA (d : Dfn K mg "is_sound" s_is_sound ["state", "mixer"]) (g : Gs K mg) (F_is_state : Fn P w K mg base "is_state" 6 ["thing"] spStateA) (F_first_fault : Fn P w K mg base "first_fault" 4 ["state", "mixer"] spFaultF) : Fn P w K mg base "is_sound" 7 ["state", "mixer"] spSoundA := by
  refine d.fn sc_is_sound (fun vs H Q E h => ?_) (fun f cdv A outer s H vs Q E hr h => ?_)
  · obtain ⟨v, dd, t, fa, mo, rfl, _⟩ := h
    rfl
  · obtain ⟨v, dd, t, fa, mo, rfl, hd, hw, hb, ht, hf, q⟩ := h
    refine ⟨_, (B.sone (B.ret (B.and (B.fn F_is_state (hr.mono (by first | decide | omega)) (B.cons (B.v 0) B.nil)) (B.one (B.cmp op_isN (B.fn F_first_fault (hr.mono (by first | decide | omega)) (B.cons (B.v 0) (B.cons (B.v 1) B.nil))) B.non))))), ?_⟩
    walk_at "W"
    refine wStateA hd hw fun H1 s1 => ?_
    walk_at "W"
    cases e : isStateD dd with
    | false =>
      exact iteF (q _ _ s1 (fun _ => rfl) fun z => by rw [e] at z; cases z)
    | true =>
      first | (have zz_ := state_of hd e; have S := zz_.1; have hS := zz_.2.1; have eS := zz_.2.2; clear zz_) | obtain ⟨S, hS, eS⟩ := state_of hd e
      refine iteT ?_
      walk_at "W"
      refine wFaultF (hS.keep (SW.Same.tk s1)) (hb S eS) (s1 _ _ ht) hf fun v2 H2 s2 hv2 => ?_
      have fin : ∀ b, b = (faultOf fa mo S).isNone → Q (.bl b) H2 := fun b eb => q _ _ (s1.trans s2) (fun z => by rw [e] at z; cases z) fun _ S' eS' => by rw [← stD_inj (eS.symm.trans eS')]; exact eb
      walk_at "W"
      refine ⟨rfl, ?_⟩
      cases ef : faultOf fa mo S with
      | none =>
        rw [ef] at hv2 fin
        rw [show v2 = V.non from hv2]
        exact fin _ rfl
      | some fl =>
        rw [ef] at hv2 fin
        obtain ⟨u, rfl, hu⟩ := hv2
        exact fin _ rfl
end

noncomputable def spNum : Sp := fun vs H Q _ => ∃ (v : V) (d : PyData) (lo : Int), vs = [v, .int lo] ∧ Any H v d ∧ Q (.bl (isInD lo d)) H
theorem wNum {H : Hp} {Q : VK} {E : XK} {v : V} {d : PyData} {lo : Int} (h : Any H v d) (q : Q (.bl (isInD lo d)) H) : spNum ([v, .int lo] ++ []) H Q E := ⟨v, d, lo, rfl, h, q⟩
section
variable {P : Program} {w : World} {K : PySem.W.Frag} {mg : Str → Option Value} {base : Heap} 
theorem F_num (d : Dfn K mg "_law_number" s_law_number ["thing", "least"]) (g : Gs K mg) : Fn P w K mg base "_law_number" 1 ["thing", "least"] spNum := by
  refine d.fn sc_law_number (fun vs H Q E h => ?_) (fun f cdv A outer s H vs Q E hr h => ?_)
  · obtain ⟨v, dd, lo, rfl, _⟩ := h
    rfl
  · obtain ⟨v, dd, lo, rfl, hd, q⟩ := h
    refine ⟨_, (B.sone (B.ret (B.and (B.cB SW.call_isi g.b_isinstance SW.b_isinstance (B.cons (B.v 0) (B.cons (B.ty g.b_int SW.b_int) B.nil))) (B.and (B.not (B.cB SW.call_isi g.b_isinstance SW.b_isinstance (B.cons (B.v 0) (B.cons (B.ty g.b_bool SW.b_bool) B.nil)))) (B.one (B.chain op_le op_le (B.v 1) (B.v 0) (B.op op_pow B.int B.int))))))), ?_⟩
    walk_at "W"
    refine SW.iIsi hd.ty (isi_d_int dd) ?_
    walk_at "W"
    cases dd with
    | int i =>
      refine iteT ?_
      walk_at "W"
      refine SW.iIsi hd.ty (isi_d_bool _) ?_
      cases hd
      walk_at "W"
      refine iteT ?_
      walk_at "W"
      have q : Q (.bl (decide (lo ≤ i) && decide (i ≤ 1000000000))) H := q
      by_cases c : lo ≤ i
      · rw [decide_eq_true c] at q
        refine iteY c ?_
        walk_at "W"
        exact q
      · rw [decide_eq_false c] at q
        exact iteNo c q
    | bool b =>
      refine iteT ?_
      walk_at "W"
      refine SW.iIsi hd.ty (isi_d_bool _) ?_
      walk_at "W"
      exact iteF q
    | none => exact iteF q
    | str x => exact iteF q
    | list x => exact iteF q
    | tuple x => exact iteF q
    | dict x => exact iteF q
end

theorem row_tup {d : PyData} (h : isTupD d = false) : isRowD d = false := by
  cases d with
  | tuple x => cases h
  | _ => rfl
theorem rows_tup {ds : List PyData} (h : ds.all isTupD = false) : areRowsD (.tuple ds) = false := by
  show ds.all isRowD = false
  rw [List.all_eq_false] at h ⊢
  first | (have zz_ := h; have x := zz_.1; have hx := zz_.2.1; have e := zz_.2.2; clear zz_) | obtain ⟨x, hx, e⟩ := h
  refine ⟨x, hx, ?_⟩
  rw [row_tup (by cases z : isTupD x with | true => exact absurd z e | false => rfl)]
  exact Bool.false_ne_true
section
variable {P : Program} {w : World} {K : PySem.W.Frag} {mg : Str → Option Value} {base : Heap} 
theorem F_lawRows (d : Dfn K mg "_law_are_rows" s_law_are_rows ["rows"]) (g : Gs K mg) (F_law_number : Fn P w K mg base "_law_number" 1 ["thing", "least"] spNum) : Fn P w K mg base "_law_are_rows" 2 ["rows"] spRowsA := by
  refine d.fn sc_law_are_rows (fun vs H Q E h => ?_) (fun f cdv A outer s H vs Q E hr h => ?_)
  · obtain ⟨v, dd, rfl, _⟩ := h
    rfl
  · obtain ⟨v, dd, rfl, hd, hz, q⟩ := h
    have lim : sizeLine = 16777216 := sizeLine_eq
    refine ⟨_, (B.scons (B.ifs (B.tw (B.wor (B.tnot (B.tval (B.cB SW.call_isi g.b_isinstance SW.b_isinstance (B.cons (B.v 0) (B.cons (B.ty g.b_tuple SW.b_tuple) B.nil))))) (B.wor1 (B.tcmp (SW.op_neLE (hu1_of hr)) (SW.B.compIf [] ["row"] (SW.CompScope.of rfl rfl (by decide +kernel) (by decide +kernel) rfl trivial rfl rfl rfl) (by decide +kernel) (B.itup (B.v 0)) (fun _ _ _ _ => (B.tnot (B.tval (B.cB (SW.call_isiK K) g.b_isinstance SW.b_isinstance (B.cons (B.v 0) (B.cons (B.ty g.b_tuple SW.b_tuple) B.nil)))))) (fun _ _ _ _ => (B.v 0))) (B.lst B.nil))))) (B.sone (B.ret B.bl)) B.snil)
      (B.scons (B.fors (B.itup (B.v 0)) (B.gname (i := 1) sc_law_are_rows.nd) (B.sone (B.fors (B.itup (B.v 1)) (B.gname (i := 2) sc_law_are_rows.nd) (B.scons (B.ifs (B.tw (B.wor (B.tnot (B.tval (B.cB SW.call_isi g.b_isinstance SW.b_isinstance (B.cons (B.v 2) (B.cons (B.ty g.b_tuple SW.b_tuple) B.nil))))) (B.wor1 (B.tcmp op_ne (B.cB call_len_seq g.b_len SW.b_len (B.cons (B.v 2) B.nil)) B.int)))) (B.sone (B.ret B.bl)) B.snil)
      (B.sone (B.ifs (B.tw (B.wor (B.tnot (B.tval (B.fn F_law_number (hr.mono (by first | decide | omega)) (B.cons (B.ix ix_tup (B.v 2) B.int) (B.cons B.int B.nil))))) (B.wor1 (B.tnot (B.tval (B.fn F_law_number (hr.mono (by first | decide | omega)) (B.cons (B.ix ix_tup (B.v 2) B.int) (B.cons (B.un un_neg (B.op op_pow B.int B.int)) B.nil)))))))) (B.sone (B.ret B.bl)) B.snil))))))
      (B.sone (B.ret B.bl)))), ?_⟩
    walk_at "W"
    refine SW.iIsi hd.ty (isi_d_tup dd) ?_
    walk_at "W"
    have q0 : areRowsD dd = false → ∀ H', Same H H' → Q (.bl false) H' := fun e H' s' => by have := q _ s'; rw [e] at this; exact this
    cases hd with
    | @tup a xs ds h r =>
      have hl := r.len
      first | (have zz_ := hz ds rfl; have hz1 := zz_.1; have hz2 := zz_.2; clear zz_) | obtain ⟨hz1, hz2⟩ := hz ds rfl
      refine iteF ?_
      walk_at "W"
      refine ⟨a, rfl, ⟨_, SqT.of h⟩, fun D hD => ?_⟩
      refine comp_tup (xs := xs) (fun i σ' H' => (∃ v : Option V, σ' = [v]) ∧ Same H H' ∧ ∃ zs : List V, H' D = some (.lst zs) ∧ zs.isEmpty = (ds.take i).all isTupD ∧ zs.length ≤ i) ⟨⟨none, rfl⟩, Same.new hD, [], upd_same, rfl, Nat.le_refl _⟩ (fun i σ' H' _ ⟨_, s', _⟩ => SqT.of (s' _ _ h)) ?_ ?_
      · rintro i x σ' H' hx hi ⟨⟨v, rfl⟩, s', zs, hD', ez, hzl⟩
        first | (have zz_ := r.get hx; have dx := zz_.1; have hdx := zz_.2.1; have hax := zz_.2.2; clear zz_) | obtain ⟨dx, hdx, hax⟩ := r.get hx
        walk_at "W"
        refine SW.iIsi (hax.same s').ty (isi_d_tup dx) ?_
        walk_at "W"
        cases e : isTupD dx with
        | true =>
          refine iteF (CO.mk hi ⟨⟨_, rfl⟩, s', zs, hD', ?_, Nat.le_succ_of_le hzl⟩)
          rw [take_snocF hdx, List.all_append, ← ez]
          show zs.isEmpty = (zs.isEmpty && (isTupD dx && true))
          rw [e]; simp
        | false =>
          refine iteT ?_
          walk_at "W"
          refine CN.mk hi hD' (by omega) ⟨⟨_, rfl⟩, fun b o e => by rw [upd_ne (ne_of_none e hD)]; exact s' _ _ e, _, upd_same, ?_, by rw [List.length_append]; exact Nat.succ_le_succ hzl⟩
          rw [take_snocF hdx, List.all_append]
          show (zs ++ [x]).isEmpty = (_ && (isTupD dx && true))
          rw [e]; simp
      · rintro σ' H1 ⟨⟨v, rfl⟩, s1, zs, hD1, ez, _⟩
        rw [hl, List.take_length] at ez
        walk_at "W"
        refine ⟨by show (0 : Nat) ≤ sizeLine; decide, fun e0 he0 => ?_⟩
        have a1 := Same.new (o := .lst []) he0
        walk_at "W"
        refine ⟨D, e0, zs, rfl, rfl, SqL.of (a1 _ _ hD1), SqL.of upd_same, ?_⟩
        have s2 := s1.trans a1
        walk_at "W"
        rw [ez]
        cases eA : ds.all isTupD with
        | false =>
          refine iteT ?_
          walk_at "W"
          exact q0 (rows_tup eA) _ s2
        | true =>
          refine iteF ?_
          walk_at "W"
          refine ⟨a, rfl, ⟨_, SqT.of (s2 _ _ h)⟩, ?_⟩
          refine for_tup (xs := xs) (fun i σ H' => ∃ v1 v2 : Option V, σ = [some (.ref a), v1, v2] ∧ Same H H' ∧ (ds.take i).all isRowD = true) ⟨none, none, rfl, s2, rfl⟩ (fun i σ H' _ ⟨_, _, _, s', _⟩ => SqT.of (s' _ _ h)) ?_ ?_
          · rintro i x σ H3 hx ⟨v1, v2, rfl, s3, e3⟩
            first | (have zz_ := r.get hx; have dx := zz_.1; have hdx := zz_.2.1; have hax := zz_.2.2; clear zz_) | obtain ⟨dx, hdx, hax⟩ := r.get hx
            have htup : isTupD dx = true := List.all_eq_true.mp eA _ (List.mem_of_getElem? hdx)
            cases hax with
            | @tup b ys es hb rb =>
              walk_at "W"
              refine ⟨b, rfl, ⟨_, SqT.of (s3 _ _ hb)⟩, ?_⟩
              refine for_tup (xs := ys) (fun j σ H' => ∃ v2 : Option V, σ = [some (.ref a), some (.ref b), v2] ∧ Same H H' ∧ (es.take j).all isPairD = true) ⟨v2, rfl, s3, rfl⟩ (fun i σ H' _ ⟨_, _, s', _⟩ => SqT.of (s' _ _ hb)) ?_ ?_
              · rintro j y σ H4 hy ⟨v2, rfl, s4, e4⟩
                first | (have zz_ := rb.get hy; have dy := zz_.1; have hdy := zz_.2.1; have hay := zz_.2.2; clear zz_) | obtain ⟨dy, hdy, hay⟩ := rb.get hy
                have bad : isPairD dy = false → Q (.bl false) H4 := fun e => q0 (by
                  show ds.all isRowD = false
                  refine List.all_eq_false.mpr ⟨_, List.mem_of_getElem? hdx, ?_⟩
                  show ¬ es.all isPairD = true
                  rw [List.all_eq_false.mpr ⟨_, List.mem_of_getElem? hdy, by rw [e]; exact Bool.false_ne_true⟩]
                  exact Bool.false_ne_true) _ s4
                have good : isPairD dy = true → (es.take (j + 1)).all isPairD = true := fun e => by rw [take_snocF hdy, List.all_append, e4]; show (true && (isPairD dy && true)) = true; rw [e]; rfl
                walk_at "W"
                refine SW.iIsi (hay.same s4).ty (isi_d_tup dy) ?_
                walk_at "W"
                cases hay with
                | @tup c ws us hc rc =>
                  have hc4 := s4 _ _ hc
                  refine iteF ?_
                  walk_at "W"
                  refine SW.iLen (.inr (SqT.of hc4)) ?_
                  walk_at "W"
                  rcases rc with _ | ⟨h1, rc⟩
                  · refine iteNN (fun z => by simp at z) ?_
                    walk_at "W"
                    exact bad rfl
                  rcases rc with _ | ⟨h2, rc⟩
                  · refine iteNN (fun z => by simp at z) ?_
                    walk_at "W"
                    exact bad rfl
                  rcases rc with _ | ⟨h3, rc⟩
                  · rename_i x1 d1 x2 d2
                    refine iteNS rfl ?_
                    walk_at "W"
                    refine wNum (h1.same s4) ?_
                    walk_at "W"
                    cases e1 : isInD 0 d1 with
                    | false =>
                      refine iteT ?_
                      walk_at "W"
                      exact bad (by show (isInD 0 d1 && isInD (-1000000000) d2) = false; rw [e1]; rfl)
                    | true =>
                      refine iteF ?_
                      walk_at "W"
                      refine wNum (lo := -1000000000) (h2.same s4) ?_
                      walk_at "W"
                      cases e2 : isInD (-1000000000) d2 with
                      | false =>
                        refine iteT ?_
                        walk_at "W"
                        exact bad (by show (isInD 0 d1 && isInD (-1000000000) d2) = false; rw [e1, e2]; rfl)
                      | true =>
                        refine iteF ?_
                        walk_at "W"
                        exact ⟨_, rfl, s4, good (by show (isInD 0 d1 && isInD (-1000000000) d2) = true; rw [e1, e2]; rfl)⟩
                  · refine iteNN (fun z => by simp at z; omega) ?_
                    walk_at "W"
                    exact bad rfl
                | non => refine iteT ?_; walk_at "W"; exact bad rfl
                | bl b => refine iteT ?_; walk_at "W"; exact bad rfl
                | int i => refine iteT ?_; walk_at "W"; exact bad rfl
                | str x => refine iteT ?_; walk_at "W"; exact bad rfl
                | lst h r => refine iteT ?_; walk_at "W"; exact bad rfl
                | dic h => refine iteT ?_; walk_at "W"; exact bad rfl
              · rintro σ H4 ⟨v2, rfl, s4, e4⟩
                rw [rb.len, List.take_length] at e4
                walk_at "W"
                refine ⟨_, _, rfl, s4, ?_⟩
                rw [take_snocF hdx, List.all_append, e3]
                show (true && (es.all isPairD && true)) = true
                rw [e4]; rfl
            | _ => cases htup
          · rintro σ H3 ⟨v1, v2, rfl, s3, e3⟩
            rw [hl, List.take_length] at e3
            walk_at "W"
            have := q _ s3
            rw [show areRowsD (.tuple ds) = true from e3] at this
            exact this
    | non => refine iteT ?_; walk_at "W"; exact q0 rfl _ (Same.refl _)
    | bl b => refine iteT ?_; walk_at "W"; exact q0 rfl _ (Same.refl _)
    | int i => refine iteT ?_; walk_at "W"; exact q0 rfl _ (Same.refl _)
    | str x => refine iteT ?_; walk_at "W"; exact q0 rfl _ (Same.refl _)
    | lst h r => refine iteT ?_; walk_at "W"; exact q0 rfl _ (Same.refl _)
    | dic h => refine iteT ?_; walk_at "W"; exact q0 rfl _ (Same.refl _)
end

noncomputable def mvS (mv : Int) : Bool → Int := fun b => if b then mv else 0
noncomputable def spShelfFault : Sp := fun vs H Q _ => ∃ (sh : Bool) (vr : V) (mv : Int) (t sa : Addr) (f m : Int) (R : MRows) (ks : List Int), vs = [.str (shN sh), vr, .int mv, .ref t, .ref sa] ∧ RowsV H vr R ∧ H t = some (.tup [.int f, .int m]) ∧ (0 ≤ f ∧ f ≤ 65535) ∧ H sa = some (.dK (kbs ks)) ∧ tot R + ks.length ≤ 100000 ∧ R.length ≤ 100000 ∧
  ∀ v' H', KeepBut sa H H' → FltV H' v' (firstP f m (fun _ => R.length) (mvS mv) ks (tripF sh 0 R)) → (firstP f m (fun _ => R.length) (mvS mv) ks (tripF sh 0 R) = none → H' sa = some (.dK (kbs (ks ++ (tripF sh 0 R).map (·.2.2))))) → Q v' H'
theorem wShelfFault {H : Hp} {Q : VK} {E : XK} {sh : Bool} {vr : V} {mv : Int} {t sa : Addr} {f m : Int} {R : MRows} {ks : List Int} {nm : PySem.Str} (h0 : nm = shN sh) (h1 : RowsV H vr R) (h2 : H t = some (.tup [.int f, .int m])) (h3 : 0 ≤ f ∧ f ≤ 65535) (h4 : H sa = some (.dK (kbs ks))) (h5 : tot R + ks.length ≤ 100000) (h6 : R.length ≤ 100000)
    (k : ∀ v' H', KeepBut sa H H' → FltV H' v' (firstP f m (fun _ => R.length) (mvS mv) ks (tripF sh 0 R)) → (firstP f m (fun _ => R.length) (mvS mv) ks (tripF sh 0 R) = none → H' sa = some (.dK (kbs (ks ++ (tripF sh 0 R).map (·.2.2))))) → Q v' H') : spShelfFault ([.str nm, vr, .int mv, .ref t, .ref sa] ++ []) H Q E := ⟨sh, vr, mv, t, sa, f, m, R, ks, by rw [h0]; rfl, h1, h2, h3, h4, h5, h6, k⟩
theorem drop_cons {α : Type} {xs : List α} {i : Nat} {v : α} (h : xs[i]? = some v) : xs.drop i = v :: xs.drop (i + 1) := by
  have hi : i < xs.length := (List.getElem?_eq_some_iff.mp h).1
  rw [List.drop_eq_getElem_cons hi]
  rw [List.getElem?_eq_getElem hi] at h
  rw [Option.some.inj h]
section
variable {P : Program} {w : World} {K : PySem.W.Frag} {mg : Str → Option Value} {base : Heap} 
theorem F_shelfFault (d : Dfn K mg "_law_shelf_fault" s_law_shelf_fault ["name", "rows", "moved", "mixer", "seen"]) (g : Gs K mg) : Fn P w K mg base "_law_shelf_fault" 1 ["name", "rows", "moved", "mixer", "seen"] spShelfFault := by
  refine d.fn sc_law_shelf_fault (fun vs H Q E h => ?_) (fun f cdv A outer s H vs Q E hr h => ?_)
  · obtain ⟨sh, vr, mv, t, sa, f, m, R, ks, rfl, _⟩ := h
    rfl
  · obtain ⟨sh, vr, mv, t, sa, fa, mo, R, ks, rfl, ⟨ra, rs, rfl, hra, hrs⟩, ht, hf, hsa, hB, hRl, k⟩ := h
    have hrl := paired_len hrs
    have lim : sizeLine = 16777216 := sizeLine_eq
    have nt : ∀ {x : Addr} {xs : List V}, H x = some (.tup xs) → x ≠ sa := fun e => ne_of e hsa (by intro z; cases z)
    obtain ⟨fp, hfp0⟩ : ∃ fp, fp = firstP fa mo (fun _ => R.length) (mvS mv) ks (tripF sh 0 R) := ⟨_, rfl⟩
    rw [← hfp0] at k
    refine ⟨_, (B.scons (B.fors (B.irange g.b_range (B.cons (B.cB call_len_seq g.b_len SW.b_len (B.cons (B.v 1) B.nil)) B.nil)) (B.gname (i := 5) sc_law_shelf_fault.nd) (B.sone (B.fors (B.itup (B.ix ix_tup (B.v 1) (B.v 5))) (B.gtup (B.gcons (B.gname (i := 6) sc_law_shelf_fault.nd) (B.gcons (B.gname (i := 7) sc_law_shelf_fault.nd) B.gnil))) (B.scons (B.ifs (B.tcmp op_ne (B.op op_mod (B.op op_mod (B.op op_add (B.op op_mul (B.v 6) (B.ix ix_tup (B.v 3) B.int)) (B.ix ix_tup (B.v 3) B.int)) B.int) (B.cB call_len_seq g.b_len SW.b_len (B.cons (B.v 1) B.nil))) (B.v 5)) (B.sone (B.ret (B.tup (B.cons B.str (B.cons (B.v 0) (B.cons (B.v 5) B.nil)))))) B.snil)
      (B.scons (B.ifs (B.tw (B.wand (B.tcmp op_eq (B.v 0) B.str) (B.wand1 (B.tcmp op_lt (B.v 5) (B.v 2))))) (B.sone (B.ret (B.tup (B.cons B.str (B.cons (B.v 0) (B.cons (B.v 5) B.nil)))))) B.snil)
      (B.scons (B.ifs (B.tdin (hu_of hr) (B.v 6) (B.v 4)) (B.sone (B.ret (B.tup (B.cons B.str (B.cons (B.v 0) (B.cons (B.v 5) B.nil)))))) B.snil)
      (B.sone (B.dput (hu_of hr) (B.v 4) (B.v 6) B.bl))))))))
      (B.sone (B.ret B.non))), ?_⟩
    walk_at "W"
    refine SW.iLen (.inr (SqT.of hra)) ?_
    walk_at "W"
    refine ⟨((rs.length : Nat) : Int), rfl, by omega, by omega, ?_⟩
    refine SW.forRangeC (fun i σ H' => ∃ (v5 v6 v7 : Option V) (ks' : List Int), σ = [some (.str (shN sh)), some (.ref ra), some (.int mv), some (.ref t), some (.ref sa), v5, v6, v7] ∧ KeepBut sa H H' ∧ H' sa = some (.dK (kbs ks')) ∧ ks' = ks ++ (tripF sh 0 (R.take i)).map (·.2.2) ∧ fp = firstP fa mo (fun _ => R.length) (mvS mv) ks' (tripF sh i (R.drop i))) ⟨none, none, none, ks, rfl, KeepBut.refl _ _, hsa, by rw [List.take_zero]; exact (List.append_nil _).symm, hfp0⟩ ?_ ?_
    · rintro i σ H' hi ⟨v5, v6, v7, ks', rfl, k', hs', hks', hfp⟩
      have hi' : i < rs.length := by
        have : i < ((rs.length : Nat) : Int).toNat := hi
        omega
      have hxi : rs[i]? = some rs[i] := List.getElem?_eq_getElem hi'
      first | (have zz_ := paired_get hrs hxi; have r := zz_.1; have hr_ := zz_.2.1; have b := zz_.2.2.1; have ys := zz_.2.2.2.1; have eb := zz_.2.2.2.2.1; have hb := zz_.2.2.2.2.2.1; have hps := zz_.2.2.2.2.2.2; clear zz_) | obtain ⟨r, hr_, b, ys, eb, hb, hps⟩ := paired_get hrs hxi
      have hyl := hps.len
      have hdr := drop_cons hr_
      rw [hdr] at hfp
      have hfp : fp = firstP fa mo (fun _ => R.length) (mvS mv) ks' (tripR sh i r ++ tripF sh (i + 1) (R.drop (i + 1))) := hfp
      have htk := take_snocF hr_
      have htot : tot (R.take i) + r.length ≤ tot R := by
        have h2 := tot_take R (i + 1)
        rw [htk] at h2
        have h3 : tot (R.take i ++ [r]) = tot (R.take i) + r.length := by
          unfold tot
          rw [List.map_append, List.sum_append]
          simp
        omega
      have hkl : ks'.length = ks.length + tot (R.take i) := by rw [hks', List.length_append, List.length_map, tripF_len]
      walk_at "W"
      refine wIxT (k' _ _ (nt hra) hra) (by rw [Int.zero_add]; exact atI_nat hxi) ?_
      rw [eb]
      refine ⟨b, rfl, ⟨_, SqT.of (k' _ _ (nt hb) hb)⟩, ?_⟩
      refine for_tup (xs := ys) (fun j σ H'' => ∃ (v6 v7 : Option V) (ks'' : List Int), σ = [some (.str (shN sh)), some (.ref ra), some (.int mv), some (.ref t), some (.ref sa), some (.int (0 + (i : Int))), v6, v7] ∧ KeepBut sa H H'' ∧ H'' sa = some (.dK (kbs ks'')) ∧ ks'' = ks' ++ (tripR sh i (r.take j)).map (·.2.2) ∧ fp = firstP fa mo (fun _ => R.length) (mvS mv) ks'' (tripR sh i (r.drop j) ++ tripF sh (i + 1) (R.drop (i + 1)))) ⟨v6, v7, ks', rfl, k', hs', by rw [List.take_zero]; exact (List.append_nil _).symm, hfp⟩ (fun j σ H'' _ ⟨_, _, _, _, k'', _⟩ => SqT.of (k'' _ _ (nt hb) hb)) ?_ ?_
      · rintro j y σ H'' hy ⟨v6, v7, ks'', rfl, k'', hs'', hks'', hfp⟩
        obtain ⟨⟨k1, y1⟩, hpp, c, rfl, hc⟩ := paired_get hps hy
        have hc : H c = some (.tup [.int k1, .int y1]) := hc
        have hj : j < r.length := (List.getElem?_eq_some_iff.mp hpp).1
        have hdj := drop_cons hpp
        rw [hdj] at hfp
        have hfp : fp = firstP fa mo (fun _ => R.length) (mvS mv) ks'' ((sh, i, k1) :: (tripR sh i (r.drop (j + 1)) ++ tripF sh (i + 1) (R.drop (i + 1)))) := hfp
        rw [firstP_cons] at hfp
        have ht'' := k'' _ _ (nt ht) ht
        have fin : ∀ (kd : Nat) (nm : PySem.Str), nm = fkN kd → fp = some (.at_ kd sh i) → ∀ q, H'' q = none → Q (.ref q) (upd H'' q (.tup [.str nm, .str (shN sh), .int (0 + (i : Int))])) := by
          rintro kd nm rfl e q hq
          refine k _ _ (k''.trans (KeepBut.new hq)) ?_ (fun z => by rw [e] at z; cases z)
          rw [e]
          exact ⟨q, rfl, by rw [upd_same, Int.zero_add]; rfl⟩
        refine ⟨c, _, rfl, SqT.of (k'' _ _ (nt hc) hc), rfl, _, _, rfl, ?_⟩
        walk_at "W"
        refine ⟨_, _, rfl, ?_⟩
        walk_at "W"
        refine ⟨rfl, ?_⟩
        walk_at "W"
        refine SW.iLen (.inr (SqT.of (k'' _ _ (nt hra) hra))) ?_
        walk_at "W"
        rw [hrl, Int.zero_add]
        by_cases h1 : (k1 * fa + mo) % 65536 % (R.length : Int) = i
        · rw [if_neg (fun z => z h1)] at hfp
          refine iteNS (by rw [h1]) ?_
          walk_at "W"
          rename_i N1 hN1
          have rest : ¬ (i : Int) < mvS mv sh → N1 [some (.str (shN sh)), some (.ref ra), some (.int mv), some (.ref t), some (.ref sa), some (.int (i : Int)), some (.int k1), some (.int y1)] H'' := by
            intro h2
            rw [if_neg h2] at hfp
            refine SW.wGo hN1 ?_
            walk_at "W"
            refine ⟨sa, _, rfl, DGet.k (k := Sum.inl k1) hs'', ?_⟩
            walk_at "W"
            rw [valV_kbs]
            by_cases h3 : k1 ∈ ks''
            · rw [if_pos h3] at hfp
              rw [decide_eq_true h3]
              refine iteT ?_
              walk_at "W"
              refine ⟨by show (3 : Nat) ≤ sizeLine; decide, fun q hq => ?_⟩
              have z := fin 2 "twice" rfl hfp q hq
              rw [Int.zero_add] at z
              exact z
            · rw [if_neg h3] at hfp
              rw [decide_eq_false h3]
              refine iteF ?_
              walk_at "W"
              refine ⟨sa, _, rfl, DPut.k (k := Sum.inl k1) hs'' ?_, ?_⟩
              · rw [kbs_len, hks'', List.length_append, List.length_map, tripR_len, List.length_take]; omega
              rw [putK_kbs h3]
              walk_at "W"
              refine ⟨_, _, ks'' ++ [k1], by rw [Int.zero_add], fun b o n e => by rw [upd_ne n]; exact k'' _ _ n e, upd_same, ?_, hfp⟩
              rw [take_snocF hpp, hks'']
              unfold tripR
              rw [List.map_append, List.map_append, List.append_assoc]; rfl
          clear hN1
          refine ⟨by cases sh <;> rfl, ?_⟩
          walk_at "W"
          cases sh with
          | true =>
            refine iteY rfl ?_
            walk_at "W"
            rw [Int.zero_add]
            by_cases h2 : (i : Int) < mv
            · have h2' : (i : Int) < mvS mv true := h2
              rw [if_pos h2'] at hfp
              refine iteY h2 ?_
              walk_at "W"
              refine ⟨by show (3 : Nat) ≤ sizeLine; decide, fun q hq => ?_⟩
              have z := fin 1 "emptied" rfl hfp q hq
              rw [Int.zero_add] at z
              exact z
            · refine iteNo h2 ?_
              walk_at "W"
              exact rest h2
          | false =>
            refine iteNo (str_ne (by decide +kernel)) ?_
            refine iteF ?_
            walk_at "W"
            exact rest (by show ¬ (i : Int) < 0; omega)
        · rw [if_pos h1] at hfp
          refine iteNN (fun z => h1 (by injection z)) ?_
          walk_at "W"
          refine ⟨by show (3 : Nat) ≤ sizeLine; decide, fun q hq => ?_⟩
          have z := fin 0 "place" rfl hfp q hq
          rw [Int.zero_add] at z
          exact z
      · rintro σ H'' ⟨v6, v7, ks'', rfl, k'', hs'', hks'', hfp⟩
        rw [hyl, List.drop_length] at hfp
        rw [hyl, List.take_length] at hks''
        walk_at "W"
        refine ⟨_, _, _, ks'', rfl, k'', hs'', ?_, hfp⟩
        rw [hks'', hks', htk, tripF_snoc, List.map_append, Nat.zero_add, ← List.append_assoc]
        have e5 : (R.take i).length = i := by
          rw [List.length_take]; omega
        rw [e5]
    · rintro σ H' ⟨v5, v6, v7, ks', rfl, k', hs', hks', hfp⟩
      rw [show ((rs.length : Nat) : Int).toNat = R.length by rw [Int.toNat_natCast, hrl], List.drop_length] at hfp
      rw [show ((rs.length : Nat) : Int).toNat = R.length by rw [Int.toNat_natCast, hrl], List.take_length] at hks'
      have hfp : fp = none := hfp
      walk_at "W"
      refine k _ _ k' (by rw [hfp]; rfl) (fun _ => by rw [← hks']; exact hs')
end
theorem firstP_congr {f m : Int} {sz sz' : Bool → Nat} {mv mv' : Bool → Int} : ∀ (ts : List Trip) (ks : List Int), (∀ t ∈ ts, sz t.1 = sz' t.1 ∧ mv t.1 = mv' t.1) → firstP f m sz mv ks ts = firstP f m sz' mv' ks ts
  | [], _, _ => rfl
  | (sh, i, k) :: ts, ks, h => by
    have h0 := h (sh, i, k) (List.mem_cons_self ..)
    have h1 : sz sh = sz' sh := h0.1
    have h2 : mv sh = mv' sh := h0.2
    rw [firstP_cons, firstP_cons, h1, h2, firstP_congr ts _ fun t ht => h t (List.mem_cons_of_mem _ ht)]
theorem firstP_shelf {f m : Int} {S : Sta} {sh : Bool} {R : MRows} {ks : List Int} (h1 : szOf S sh = R.length) : firstP f m (fun _ => R.length) (mvS S.mv) ks (tripF sh 0 R) = firstP f m (szOf S) (mvOf S) ks (tripF sh 0 R) :=
  firstP_congr _ _ fun t ht => by
    rw [(mem_tripF ht).1]
    exact ⟨h1.symm, rfl⟩
noncomputable def spDueF : Sp := spFaultF
theorem Big.len {S : Sta} : True := trivial
noncomputable def Fine (S : Sta) : Prop := Big S ∧ (S.el.getD []).length ≤ 100000 ∧ S.nw.length ≤ 100000
section
variable {P : Program} {w : World} {K : PySem.W.Frag} {mg : Str → Option Value} {base : Heap} 
noncomputable def spDue : Sp := fun vs H Q _ => ∃ (v : V) (t : Addr) (f m : Int) (S : Sta), vs = [v, .ref t] ∧ StV H v S ∧ Fine S ∧ H t = some (.tup [.int f, .int m]) ∧ (0 ≤ f ∧ f ≤ 65535) ∧ ∀ v' H', Same H H' → FltV H' v' (faultOf f m S) → Q v' H'
theorem wDue {H : Hp} {Q : VK} {E : XK} {v : V} {t : Addr} {f m : Int} {S : Sta} (h1 : StV H v S) (h2 : Fine S) (h3 : H t = some (.tup [.int f, .int m])) (h4 : 0 ≤ f ∧ f ≤ 65535) (k : ∀ v' H', Same H H' → FltV H' v' (faultOf f m S) → Q v' H') : spDue ([v, .ref t] ++ []) H Q E := ⟨v, t, f, m, S, rfl, h1, h2, h3, h4, k⟩
theorem F_due (d : Dfn K mg "_law_due" s_law_due ["state", "mixer"]) (g : Gs K mg) (F_law_shelf_fault : Fn P w K mg base "_law_shelf_fault" 1 ["name", "rows", "moved", "mixer", "seen"] spShelfFault) : Fn P w K mg base "_law_due" 2 ["state", "mixer"] spDue := by
  refine d.fn sc_law_due (fun vs H Q E h => ?_) (fun f cdv A outer s H vs Q E hr h => ?_)
  · obtain ⟨v, t, f, m, S, rfl, _⟩ := h
    rfl
  · obtain ⟨v, t, fa, mo, S, rfl, hS, ⟨hB, hE_, hN_⟩, ht, hf, k⟩ := h
    obtain ⟨u, ve, vn, rfl, hu, he, hn⟩ := id hS
    have hB : tot (S.el.getD []) + tot S.nw ≤ 100000 := hB
    refine ⟨_, (B.scons (B.asg (B.v 0) (B.gtup (B.gcons (B.gname (i := 2) sc_law_due.nd) (B.gcons (B.gname (i := 3) sc_law_due.nd) (B.gcons (B.gname (i := 4) sc_law_due.nd) B.gnil)))))
      (B.scons (B.set 5 sc_law_due.nd (B.lst (B.cons B.int (B.cons B.int (B.cons B.int (B.cons B.int (B.cons B.int (B.cons B.int (B.cons B.int (B.cons B.int (B.cons B.int (B.cons B.int (B.cons B.int B.nil)))))))))))))
      (B.scons (B.ifs (B.tw (B.wor (B.tcmpI op_notIn_seq (B.cB call_len_seq g.b_len SW.b_len (B.cons (B.v 4) B.nil)) (B.v 5)) (B.wor1 (B.tw (B.wand (B.tcmp op_notN (B.v 2) B.non) (B.wand1 (B.tcmpI op_notIn_seq (B.cB call_len_seq g.b_len SW.b_len (B.cons (B.v 2) B.nil)) (B.v 5)))))))) (B.sone (B.ret (B.tup (B.cons B.str B.nil)))) B.snil)
      (B.scons (B.ifs (B.tw (B.wand (B.tcmp op_notN (B.v 2) B.non) (B.wand (B.tcmp op_ne (B.cB call_len_seq g.b_len SW.b_len (B.cons (B.v 2) B.nil)) (B.op op_mul B.int (B.cB call_len_seq g.b_len SW.b_len (B.cons (B.v 4) B.nil)))) (B.wand1 (B.tcmp op_ne (B.op op_mul B.int (B.cB call_len_seq g.b_len SW.b_len (B.cons (B.v 2) B.nil))) (B.cB call_len_seq g.b_len SW.b_len (B.cons (B.v 4) B.nil))))))) (B.sone (B.ret (B.tup (B.cons B.str B.nil)))) B.snil)
      (B.scons (B.ifs (B.tw (B.wor (B.tw (B.wand (B.tcmp op_isN (B.v 2) B.non) (B.wand1 (B.tcmp op_ne (B.v 3) B.int)))) (B.wor1 (B.tw (B.wand (B.tcmp op_notN (B.v 2) B.non) (B.wand1 (B.tnot (B.tchain op_le op_lt B.int (B.v 3) (B.cB call_len_seq g.b_len SW.b_len (B.cons (B.v 2) B.nil)))))))))) (B.sone (B.ret (B.tup (B.cons B.str B.nil)))) B.snil)
      (B.scons (B.set 6 sc_law_due.nd B.dnew)
      (B.scons (B.set 7 sc_law_due.nd B.non)
      (B.scons (B.ifs (B.tcmp op_notN (B.v 2) B.non) (B.sone (B.set 7 sc_law_due.nd (B.fn F_law_shelf_fault (hr.mono (by first | decide | omega)) (B.cons B.str (B.cons (B.v 2) (B.cons (B.v 3) (B.cons (B.v 1) (B.cons (B.v 6) B.nil)))))))) B.snil)
      (B.scons (B.ifs (B.tcmp op_isN (B.v 7) B.non) (B.sone (B.set 7 sc_law_due.nd (B.fn F_law_shelf_fault (hr.mono (by first | decide | omega)) (B.cons B.str (B.cons (B.v 4) (B.cons (B.v 3) (B.cons (B.v 1) (B.cons (B.v 6) B.nil)))))))) B.snil)
      (B.sone (B.ret (B.v 7)))))))))))), ?_⟩
    walk_at "W"
    refine ⟨u, _, rfl, SqT.of hu, rfl, _, _, rfl, ?_⟩
    walk_at "W"
    refine ⟨_, _, rfl, ?_⟩
    walk_at "W"
    refine ⟨_, _, rfl, ?_⟩
    walk_at "W"
    refine ⟨rfl, ?_⟩
    walk_at "W"
    refine ⟨by show (11 : Nat) ≤ sizeLine; decide, fun sl hsl => ?_⟩
    have s1 : Same H (upd H sl (.lst [.int 4, .int 8, .int 16, .int 32, .int 64, .int 128, .int 256, .int 512, .int 1024, .int 2048, .int 4096])) := Same.new hsl
    have esl := upd_same (H := H) (a := sl) (o := .lst [.int 4, .int 8, .int 16, .int 32, .int 64, .int 128, .int 256, .int 512, .int 1024, .int 2048, .int 4096])
    obtain ⟨H1, hH1⟩ : ∃ H1, H1 = upd H sl (.lst [.int 4, .int 8, .int 16, .int 32, .int 64, .int 128, .int 256, .int 512, .int 1024, .int 2048, .int 4096]) := ⟨_, rfl⟩
    rw [← hH1] at s1 esl ⊢
    clear hH1
    have ht1 := s1 _ _ ht
    have hn1 := hn.keep (SW.Same.tk s1)
    obtain ⟨na, ns, rfl, hna, hns⟩ := id hn1
    have hnl := paired_len hns
    have plc_ : rightP S = false → ∀ H2, Same H1 H2 → ∀ q, H2 q = none → Q (.ref q) (upd H2 q (.tup [.str "places"])) := fun e H2 s2 q hq => by
      refine k _ _ ((s1.trans s2).trans (Same.new hq)) ?_
      unfold faultOf
      rw [if_pos e]
      exact ⟨q, rfl, upd_same⟩
    have mov_ : rightP S = true → rightM S = false → ∀ H2, Same H1 H2 → ∀ q, H2 q = none → Q (.ref q) (upd H2 q (.tup [.str "moved"])) := fun e0 e H2 s2 q hq => by
      refine k _ _ ((s1.trans s2).trans (Same.new hq)) ?_
      unfold faultOf
      rw [if_neg (by rw [e0]; intro z; cases z), if_pos e]
      exact ⟨q, rfl, upd_same⟩
    have one_ : (1 : Nat) ≤ sizeLine := by decide
    walk_at "W"
    refine SW.iLen (.inr (SqT.of hna)) ?_
    walk_at "W"
    refine ⟨sl, _, rfl, .inl (SqL.of esl), rfl, by decide, ?_⟩
    rw [inSizesB, hnl]
    walk_at "W"
    by_cases h1 : isSize S.nw.length
    · rw [decide_eq_true h1]
      refine iteF ?_
      walk_at "W"
      first | (have zz_ := S; have el := zz_.1; have mv := zz_.2.1; have nw := zz_.2.2; clear zz_) | obtain ⟨el, mv, nw⟩ := S
      cases el with
      | none =>
        have he : ve = V.non := he
        subst he
        have hP : rightP ⟨none, mv, nw⟩ = true := by
          show (decide (isSize nw.length) && true) = true
          rw [decide_eq_true h1]; rfl
        refine ⟨rfl, ?_⟩
        walk_at "W"
        refine iteNS rfl ?_
        refine iteF ?_
        walk_at "W"
        refine ⟨rfl, ?_⟩
        walk_at "W"
        refine iteNS rfl ?_
        refine iteF ?_
        walk_at "W"
        refine ⟨rfl, ?_⟩
        walk_at "W"
        refine iteY rfl ?_
        walk_at "W"
        by_cases h2 : mv = 0
        · have hM : rightM ⟨none, mv, nw⟩ = true := by
            show (decide (0 ≤ mv) && decide (mv < 1)) = true
            rw [h2]; rfl
          refine iteNS (by rw [h2]) ?_
          walk_at "W"
          refine ⟨rfl, ?_⟩
          walk_at "W"
          refine iteNS rfl ?_
          refine iteF ?_
          walk_at "W"
          intro sd hsd
          have a2 := Same.new (o := .dK []) hsd
          walk_at "W"
          refine ⟨rfl, ?_⟩
          walk_at "W"
          refine iteNS rfl ?_
          walk_at "W"
          refine ⟨rfl, ?_⟩
          walk_at "W"
          refine iteY rfl ?_
          walk_at "W"
          have s02 := s1.trans a2
          refine wShelfFault (sh := false) (ks := []) rfl (hn.keep (SW.Same.tk s02)) (s02 _ _ ht) hf upd_same (by show tot nw + 0 ≤ _; have : tot (Option.getD none [] : MRows) + tot nw ≤ 100000 := hB; omega) hN_ fun v' H3 k3 hv _ => ?_
          walk_at "W"
          refine k _ _ (fun b o e => k3 _ _ (ne_of_none (s1 _ _ e) hsd) (s02 _ _ e)) ?_
          rw [firstP_shelf (S := ⟨none, mv, nw⟩) (sh := false) rfl] at hv
          unfold faultOf
          rw [if_neg (by rw [hP]; intro z; cases z), if_neg (by rw [hM]; intro z; cases z)]
          exact hv
        · refine iteNN (fun z => h2 (by injection z)) ?_
          refine iteT ?_
          walk_at "W"
          refine ⟨one_, mov_ hP ?_ _ (Same.refl _)⟩
          show (decide (0 ≤ mv) && decide (mv < 1)) = false
          rw [Bool.and_eq_false_iff]
          by_cases h3 : 0 ≤ mv
          · exact .inr (decide_eq_false (by omega))
          · exact .inl (decide_eq_false h3)
      | some E_ =>
        obtain ⟨ea, es, rfl, hea, hes⟩ := (show RowsV H ve E_ from he)
        have hel := paired_len hes
        have hea1 := s1 _ _ hea
        refine ⟨rfl, ?_⟩
        walk_at "W"
        refine iteNN (fun z => nomatch z) ?_
        walk_at "W"
        refine SW.iLen (.inr (SqT.of hea1)) ?_
        walk_at "W"
        refine ⟨sl, _, rfl, .inl (SqL.of esl), rfl, by decide, ?_⟩
        rw [inSizesB, hel]
        walk_at "W"
        by_cases h2 : isSize E_.length
        · rw [decide_eq_true h2]
          refine iteF ?_
          walk_at "W"
          refine ⟨rfl, ?_⟩
          walk_at "W"
          refine iteNN (fun z => nomatch z) ?_
          walk_at "W"
          refine SW.iLen (.inr (SqT.of hea1)) ?_
          walk_at "W"
          refine SW.iLen (.inr (SqT.of hna)) ?_
          walk_at "W"
          rw [hel, show ns.length = nw.length from hnl]
          rename_i N1 hN1
          have rest : rightP ⟨some E_, mv, nw⟩ = true → N1 [some (.ref u), some (.ref t), some (.ref ea), some (.int mv), some (.ref na), some (.ref sl), none, none] H1 := by
            intro hP
            refine SW.wGo hN1 ?_
            walk_at "W"
            refine ⟨rfl, ?_⟩
            walk_at "W"
            refine iteNo (fun z => nomatch z) ?_
            refine iteF ?_
            walk_at "W"
            refine ⟨rfl, ?_⟩
            walk_at "W"
            refine iteNN (fun z => nomatch z) ?_
            walk_at "W"
            have badM : rightM ⟨some E_, mv, nw⟩ = false → ∀ q, H1 q = none → Q (.ref q) (upd H1 q (.tup [.str "moved"])) := fun e => mov_ hP e _ (Same.refl _)
            by_cases h3 : 0 ≤ mv
            · refine iteY h3 ?_
              walk_at "W"
              refine SW.iLen (.inr (SqT.of hea1)) ?_
              walk_at "W"
              rw [hel]
              by_cases h4 : mv < (E_.length : Int)
              · have hM : rightM ⟨some E_, mv, nw⟩ = true := by
                  show (decide (0 ≤ mv) && decide (mv < (E_.length : Int))) = true
                  rw [decide_eq_true h3, decide_eq_true h4]; rfl
                refine iteNS h4 ?_
                walk_at "W"
                intro sd hsd
                have a2 := Same.new (o := .dK []) hsd
                walk_at "W"
                refine ⟨rfl, ?_⟩
                walk_at "W"
                refine iteNN (fun z => nomatch z) ?_
                walk_at "W"
                have s02 := s1.trans a2
                have hB2 : tot E_ + tot nw ≤ 100000 := hB
                refine wShelfFault (sh := true) (ks := []) rfl (RowsV.keep (show RowsV H (V.ref ea) E_ from he) (SW.Same.tk s02)) (s02 _ _ ht) hf upd_same (by show tot E_ + 0 ≤ _; omega) hE_ fun v1 H3 k3 hv1 hks => ?_
                have s03 : Same H H3 := fun b o e => k3 _ _ (ne_of_none (s1 _ _ e) hsd) (s02 _ _ e)
                have e1 := firstP_shelf (f := fa) (m := mo) (S := ⟨some E_, mv, nw⟩) (sh := true) (R := E_) (ks := []) rfl
                have hfl : faultOf fa mo ⟨some E_, mv, nw⟩ = match firstP fa mo (szOf ⟨some E_, mv, nw⟩) (mvOf ⟨some E_, mv, nw⟩) [] (tripF true 0 E_) with | some x => some x | none => firstP fa mo (szOf ⟨some E_, mv, nw⟩) (mvOf ⟨some E_, mv, nw⟩) ([] ++ (tripF true 0 E_).map (·.2.2)) (tripF false 0 nw) := by
                  unfold faultOf
                  rw [if_neg (by rw [hP]; intro z; cases z), if_neg (by rw [hM]; intro z; cases z)]
                  exact firstP_app ..
                rw [← e1] at hfl
                walk_at "W"
                refine ⟨rfl, ?_⟩
                walk_at "W"
                cases hf1 : firstP fa mo (fun _ => E_.length) (mvS mv) [] (tripF true 0 E_) with
                | some x =>
                  have hfl : faultOf fa mo ⟨some E_, mv, nw⟩ = some x := by
                    rw [hfl, show firstP fa mo (fun _ => E_.length) (mvS (Sta.mk (some E_) mv nw).mv) [] (tripF true 0 E_) = some x from hf1]
                  rw [hf1] at hv1
                  obtain ⟨q, rfl, hq⟩ := id hv1
                  refine iteNo (fun z => nomatch z) ?_
                  walk_at "W"
                  refine k _ _ s03 ?_
                  rw [hfl]
                  exact hv1
                | none =>
                  have hfl : faultOf fa mo ⟨some E_, mv, nw⟩ = firstP fa mo (szOf ⟨some E_, mv, nw⟩) (mvOf ⟨some E_, mv, nw⟩) ([] ++ (tripF true 0 E_).map (·.2.2)) (tripF false 0 nw) := by
                    rw [hfl, show firstP fa mo (fun _ => E_.length) (mvS (Sta.mk (some E_) mv nw).mv) [] (tripF true 0 E_) = none from hf1]
                  rw [hf1] at hv1
                  have hv1 : v1 = V.non := hv1
                  subst hv1
                  refine iteY rfl ?_
                  walk_at "W"
                  refine wShelfFault (sh := false) rfl (hn.keep (SW.Same.tk s03)) (s03 _ _ ht) hf (hks hf1) ?_ hN_ fun v2 H4 k4 hv2 _ => ?_
                  · rw [List.length_append, List.length_map, tripF_len]
                    show tot nw + (0 + tot E_) ≤ _
                    omega
                  walk_at "W"
                  refine k _ _ (fun b o e => k4 _ _ (ne_of_none (s1 _ _ e) hsd) (s03 _ _ e)) ?_
                  rw [hfl]
                  rw [firstP_shelf (S := ⟨some E_, mv, nw⟩) (sh := false) rfl] at hv2
                  exact hv2
              · refine iteNN h4 ?_
                walk_at "W"
                refine ⟨one_, badM ?_⟩
                show (decide (0 ≤ mv) && decide (mv < (E_.length : Int))) = false
                rw [decide_eq_false h4, Bool.and_false]
            · refine iteNo h3 ?_
              walk_at "W"
              refine iteT ?_
              walk_at "W"
              refine ⟨one_, badM ?_⟩
              show (decide (0 ≤ mv) && decide (mv < (E_.length : Int))) = false
              rw [decide_eq_false h3, Bool.false_and]
          clear hN1
          have hPe : rightP ⟨some E_, mv, nw⟩ = (decide (E_.length = 2 * nw.length) || decide (nw.length = 2 * E_.length)) := by
            show (decide (isSize nw.length) && (decide (isSize E_.length) && _)) = _
            rw [decide_eq_true h1, decide_eq_true h2]; rfl
          by_cases h5 : E_.length = 2 * nw.length
          · refine iteNS (by rw [show (E_.length : Int) = 2 * (nw.length : Int) by omega]) ?_
            refine iteF ?_
            walk_at "W"
            exact rest (by rw [hPe, decide_eq_true h5]; rfl)
          · refine iteNN (fun z => h5 (by injection z with z; omega)) ?_
            walk_at "W"
            refine SW.iLen (.inr (SqT.of hea1)) ?_
            walk_at "W"
            refine SW.iLen (.inr (SqT.of hna)) ?_
            walk_at "W"
            rw [hel, show ns.length = nw.length from hnl]
            by_cases h6 : nw.length = 2 * E_.length
            · refine iteNS (by rw [show (nw.length : Int) = 2 * (E_.length : Int) by omega]) ?_
              walk_at "W"
              exact rest (by rw [hPe, decide_eq_true h6, Bool.or_true])
            · refine iteNN (fun z => h6 (by injection z with z; omega)) ?_
              walk_at "W"
              exact ⟨one_, plc_ (by rw [hPe, decide_eq_false h5, decide_eq_false h6]; rfl) _ (Same.refl _)⟩
        · rw [decide_eq_false h2]
          refine iteT ?_
          walk_at "W"
          refine ⟨one_, plc_ ?_ _ (Same.refl _)⟩
          show (decide (isSize nw.length) && (decide (isSize E_.length) && _)) = false
          rw [decide_eq_false h2, Bool.false_and, Bool.and_false]
    · rw [decide_eq_false h1]
      refine iteT ?_
      refine iteT ?_
      walk_at "W"
      exact ⟨one_, plc_ (by unfold rightP; rw [decide_eq_false h1]; rfl) _ (Same.refl _)⟩
end

noncomputable def SzR (n : Nat) (R : MRows) : Prop := R.length ≤ n ∧ tot R ≤ n
noncomputable def SzE (n : Nat) (e : Option MRows) : Prop := SzR n (e.getD [])
theorem SzR.mono {n m : Nat} {R : MRows} (h : SzR n R) (k : n ≤ m) : SzR m R := ⟨Nat.le_trans h.1 k, Nat.le_trans h.2 k⟩
theorem tot_app (A B : MRows) : tot (A ++ B) = tot A + tot B := by
  unfold tot
  rw [List.map_append, List.sum_append]
theorem tot_drop (R : MRows) (j : Nat) : tot (R.drop j) ≤ tot R := by
  have e : tot R = tot (R.take j) + tot (R.drop j) := by rw [← tot_app, List.take_append_drop]
  omega
theorem tot_set {R : MRows} {i : Nat} {r q : MRow} (h : R[i]? = some q) : tot (R.set i r) + q.length = tot R + r.length := by
  have hi : i < R.length := (List.getElem?_eq_some_iff.mp h).1
  have e1 : R.set i r = R.take i ++ [r] ++ R.drop (i + 1) := by rw [List.set_eq_take_append_cons_drop, if_pos hi]; simp
  have e2 : R = R.take i ++ [q] ++ R.drop (i + 1) := by
    rw [← take_snocF h, List.take_append_drop]
  have h1 : tot [r] = r.length := by unfold tot; simp
  have h2 : tot [q] = q.length := by unfold tot; simp
  have e3 : tot R = tot (R.take i) + q.length + tot (R.drop (i + 1)) := by
    have := congrArg tot e2
    rw [tot_app, tot_app, h2] at this
    exact this
  rw [e1, tot_app, tot_app, h1]
  omega
noncomputable def spOtherR : Sp := fun vs H Q _ => ∃ (p : Addr) (v : V) (e : Option MRows) (n : Nat), vs = [.ref p, v] ∧ Row H p ∧ ElV H v e ∧ SzE n e ∧ n ≤ 5000 ∧ ∀ v' H' e', ElV H' v' e' → SzE (2 * n + 8) e' → Row H' p → KeepBut p H H' → Q v' H'
theorem wOtherR {H : Hp} {Q : VK} {E : XK} {p : Addr} {v : V} {e : Option MRows} {n : Nat} (h1 : Row H p) (h2 : ElV H v e) (h3 : SzE n e) (h4 : n ≤ 5000) (k : ∀ v' H' e', ElV H' v' e' → SzE (2 * n + 8) e' → Row H' p → KeepBut p H H' → Q v' H') : spOtherR ([.ref p, v] ++ []) H Q E := ⟨p, v, e, n, rfl, h1, h2, h3, h4, k⟩
theorem rowTK {H H' : Hp} {p : Addr} (r : Row H p) (k : KeepBut p H H') : TK H H' := fun a xs e => k _ _ (by
  first | (have zz_ := r; have x := zz_.1; have y := zz_.2.1; have z := zz_.2.2.1; have h := zz_.2.2.2.1; clear zz_) | obtain ⟨x, y, z, h, _⟩ := r
  exact ne_of e h (by intro q; cases q)) e
theorem pr_dat {K : PySem.W.Frag} {H : Hp} {v : V} {p : Int × Int} (h : PrV H v p) : DatV K H v (.tuple [.int p.1, .int p.2]) := by
  obtain ⟨a, rfl, h⟩ := h
  exact .tup (SqT.of h) (.cons (.int _) (.cons (.int _) .nil))
theorem paired_erase {α β : Type} {F : α → β → Prop} : ∀ {xs : List α} {ys : List β} (j : Nat), Paired F xs ys → Paired F (xs.eraseIdx j) (ys.eraseIdx j)
  | _, _, j, .nil => by cases j <;> exact .nil
  | _, _, 0, .cons _ t => t
  | _, _, j + 1, .cons h t => .cons h (paired_erase j t)
noncomputable def cutM (R : MRows) (lo hi : Option Int) : MRows := (R.drop (HT.sIx R.length 0 lo)).take (HT.sIx R.length R.length hi - HT.sIx R.length 0 lo)
theorem cutM_ok {H : Hp} {xs : List V} {R : MRows} (h : Paired (RowV H) xs R) (lo hi : Option Int) : Paired (RowV H) (cutV xs lo hi) (cutM R lo hi) := by
  unfold cutV cutM
  rw [paired_len h]
  exact paired_take _ (paired_drop _ h)
theorem cutM_sz {n : Nat} {R : MRows} (h : SzR n R) (lo hi : Option Int) : SzR n (cutM R lo hi) := by
  unfold cutM
  refine ⟨?_, Nat.le_trans (tot_take _ _) (Nat.le_trans (tot_drop _ _) h.2)⟩
  have := h.1
  rw [List.length_take, List.length_drop]
  omega
theorem SzR.app {n : Nat} {A B : MRows} (h1 : SzR n A) (h2 : SzR n B) : SzR (2 * n) (A ++ B) := by
  refine ⟨?_, ?_⟩
  · rw [List.length_append]; have := h1.1; have := h2.1; omega
  · rw [tot_app]; have := h1.2; have := h2.2; omega
theorem pr_deep (a b : Int) : (PyData.tuple [PyData.int a, PyData.int b]).depth ≤ 1 := by simp [PyData.depth, PyData.depthAll]
theorem prs_layB : ∀ r : MRow, PyData.canLayAll0 (r.map fun p => PyData.tuple [.int p.1, .int p.2]) = true := pairs_lay
theorem prs_deepB (r : MRow) : (PyData.list (r.map fun p => PyData.tuple [.int p.1, .int p.2])).depth ≤ 60 := by
  have := pairs_deep r
  simp only [PyData.depth]
  omega
theorem ne_oL {H H' : Hp} {p q : Addr} (r : Row H p) (s : Same H H') (h : H' q = none) : q ≠ p := ((r.same s).ne0 h).symm
structure OI (H0 : Hp) (p D : Addr) (ls : List Addr) (N j : Nat) (H : Hp) (R : MRows) : Prop where
  r : Row H p
  k : KeepBut p H0 H
  l : LR H D R ls
  nD : D ≠ p
  D0 : H0 D = none
  nl : ∀ y ∈ ls, y ≠ p ∧ H0 y = none
  z1 : R.length = ls.length
  z2 : tot R ≤ N + j
theorem OI.keepP {H0 H H' : Hp} {p D : Addr} {ls : List Addr} {N j : Nat} {R : MRows} (I : OI H0 p D ls N j H R) (R' : Row H' p) (k : KeepBut p H H') : OI H0 p D ls N j H' R :=
  ⟨R', I.k.trans k, I.l.keep (G := fun b => b = p) (fun b o n e => k b o n e) I.nD (fun b hb => (I.nl b hb).1) (fun b xs e => I.r.ne e), I.nD, I.D0, I.nl, I.z1, I.z2⟩
theorem OI.same {H0 H H' : Hp} {p D : Addr} {ls : List Addr} {N j : Nat} {R : MRows} (I : OI H0 p D ls N j H R) (s : Same H H') : OI H0 p D ls N j H' R := I.keepP (I.r.same s) (SW.Same.but s)
theorem OI.set {H0 H : Hp} {p D : Addr} {ls : List Addr} {N j j' : Nat} {R : MRows} {i : Nat} {l : Addr} {xs : List V} {r q : MRow} (I : OI H0 p D ls N j H R) (hl : ls[i]? = some l) (hq : R[i]? = some q) (h2 : Prs H xs r) (hz : r.length + j ≤ q.length + j') :
    OI H0 p D ls N j' (upd H l (.lst xs)) (R.set i r) := by
  have hm := List.mem_of_getElem? hl
  first | (have zz_ := I.l.live hm; have ys := zz_.1; have hly := zz_.2; clear zz_) | obtain ⟨ys, hly⟩ := I.l.live hm
  have tk : TK H (upd H l (.lst xs)) := fun a zs e => by rw [upd_ne (ne_of e hly (by intro z; cases z))]; exact e
  refine ⟨?_, fun b o n e => ?_, I.l.set hl upd_same (h2.keep tk) (fun b o n e => by rw [upd_ne n]; exact e), I.nD, I.D0, I.nl, by rw [List.length_set]; exact I.z1, ?_⟩
  · first | (have zz_ := I.r; have a := zz_.1; have b := zz_.2.1; have c := zz_.2.2.1; have h := zz_.2.2.2.1; have g := zz_.2.2.2.2; clear zz_) | obtain ⟨a, b, c, h, g⟩ := I.r
    exact ⟨a, b, c, by rw [upd_ne (I.nl l hm).1.symm]; exact h, g⟩
  · rw [upd_ne (ne_of_none e (I.nl l hm).2)]
    exact I.k _ _ n e
  · have := tot_set (r := r) hq
    have := I.z2
    omega
section
variable {P : Program} {w : World} {K : PySem.W.Frag} {mg : Str → Option Value} {base : Heap} 
theorem F_otherR (d : Dfn K mg "_law_other_rows" s_law_other_rows ["row", "rows"]) (g : Gs K mg) (F_law_take : Fn P w K mg base "_law_take" 1 ["row", "many"] spTake) (F_law_key : Fn P w K mg base "_law_key" 2 ["row"] spKey) (F_law_worth : Fn P w K mg base "_law_worth" 2 ["row"] spWorth) : Fn P w K mg base "_law_other_rows" 3 ["row", "rows"] spOtherR := by
  refine d.fn sc_law_other_rows (fun vs H Q E h => ?_) (fun f cdv A outer s H vs Q E hr h => ?_)
  · obtain ⟨p, v, e, n, rfl, _⟩ := h
    rfl
  · obtain ⟨p, v, e, n, rfl, hp, he, hsz, hn, k⟩ := h
    have lim : sizeLine = 16777216 := sizeLine_eq
    have zero_ : (0 : Nat) ≤ sizeLine := by decide
    -- four bare rows
    have four : ∀ H0, Same H H0 → tTup (tCons (tTup tNil) (tCons (tTup tNil) (tCons (tTup tNil) (tCons (tTup tNil) tNil)))) [some (.ref p), some v, none, none, none, none, none, none] H0 Q := by
      intro H0 s0
      walk_at "W"
      refine ⟨zero_, fun t1 h1 => ?_⟩
      walk_at "W"
      refine ⟨zero_, fun t2 h2 => ?_⟩
      walk_at "W"
      refine ⟨zero_, fun t3 h3 => ?_⟩
      walk_at "W"
      refine ⟨zero_, fun t4 h4 => ?_⟩
      walk_at "W"
      refine ⟨by show (4 : Nat) ≤ sizeLine; decide, fun t5 h5 => ?_⟩
      have a1 := Same.new (o := .tup []) h1
      have a2 := Same.new (o := .tup []) h2
      have a3 := Same.new (o := .tup []) h3
      have a4 := Same.new (o := .tup []) h4
      have a5 := Same.new (o := .tup [.ref t1, .ref t2, .ref t3, .ref t4]) h5
      have c4 := a4.trans a5
      have c3 := a3.trans c4
      have c2 := a2.trans c3
      have s05 := s0.trans (a1.trans c2)
      refine k _ _ (some [[], [], [], []]) ⟨t5, _, rfl, upd_same, .cons ⟨t1, [], rfl, c2 _ _ upd_same, .nil⟩ (.cons ⟨t2, [], rfl, c3 _ _ upd_same, .nil⟩ (.cons ⟨t3, [], rfl, c4 _ _ upd_same, .nil⟩ (.cons ⟨t4, [], rfl, a5 _ _ upd_same, .nil⟩ .nil)))⟩ ⟨by show 4 ≤ _; omega, by show 0 ≤ _; omega⟩ (hp.same s05) (SW.Same.but s05)
    refine ⟨_, (B.scons (B.ifs (B.tw (B.wor (B.tcmp op_isN (B.v 1) B.non) (B.wor1 (B.tcmp (op_eqTE (hu1_of hr)) (B.v 1) (B.tup B.nil))))) (B.sone (B.ret (B.tup (B.cons (B.tup B.nil) (B.cons (B.tup B.nil) (B.cons (B.tup B.nil) (B.cons (B.tup B.nil) B.nil))))))) B.snil)
      (B.scons (B.set 2 sc_law_other_rows.nd (B.fn F_law_take (hr.mono (by first | decide | omega)) (B.cons (B.v 0) (B.cons (B.cB call_len_seq g.b_len SW.b_len (B.cons (B.v 1) B.nil)) B.nil))))
      (B.scons (B.set 3 sc_law_other_rows.nd (B.fn F_law_take (hr.mono (by first | decide | omega)) (B.cons (B.v 0) (B.cons (B.cB call_len_seq g.b_len SW.b_len (B.cons (B.v 1) B.nil)) B.nil))))
      (B.scons (B.set 4 sc_law_other_rows.nd (B.fn F_law_take (hr.mono (by first | decide | omega)) (B.cons (B.v 0) (B.cons B.int B.nil))))
      (B.scons (B.ifs (B.tcmp op_eq (B.v 4) B.int) (B.sone (B.ret (B.ix ix_list (B.lst (B.cons (B.op op_catA (B.v 1) (B.tup (B.cons (B.tup B.nil) B.nil))) (B.cons (B.slice SW.sl_tupA (B.v 1) (B.part B.int) B.nopart) (B.cons (B.op op_catA (B.v 1) (B.v 1)) (B.cons (B.slice SW.sl_tupA (B.v 1) B.nopart (B.part (B.op op_fdivL (B.cB call_len_seq g.b_len SW.b_len (B.cons (B.v 1) B.nil)) B.int))) (B.cons (B.tup B.nil) (B.cons B.non B.nil))))))) (B.fn F_law_take (hr.mono (by first | decide | omega)) (B.cons (B.v 0) (B.cons B.int B.nil)))))) B.snil)
      (B.scons (B.ifs (B.tcmp op_eq (B.v 4) B.int) (B.sone (B.ret (B.op op_catA (B.slice SW.sl_tupA (B.v 1) (B.part (B.v 3)) B.nopart) (B.slice SW.sl_tupA (B.v 1) B.nopart (B.part (B.v 3)))))) B.snil)
      (B.scons (SW.B.compSet 5 [] ["one"] (SW.CompScope.of rfl rfl (by decide +kernel) (by decide +kernel) rfl trivial rfl rfl rfl) (by decide +kernel) sc_law_other_rows.nd (B.itup (B.v 1)) (fun _ _ _ _ => (B.cT (SW.call_listK K) g.b_list SW.b_list (B.cons (B.v 0) B.nil))))
      (B.scons (B.set 6 sc_law_other_rows.nd (B.tup (B.cons (B.fn F_law_key (hr.mono (by first | decide | omega)) (B.cons (B.v 0) B.nil)) (B.cons (B.fn F_law_worth (hr.mono (by first | decide | omega)) (B.cons (B.v 0) B.nil)) B.nil))))
      (B.scons (B.ifs (B.tcmp (op_neD K hr.units) (B.ix ix_list (B.v 5) (B.v 2)) (B.lst B.nil)) (B.sone (B.set 6 sc_law_other_rows.nd (B.ix ix_list (B.ix ix_list (B.v 5) (B.v 2)) (B.fn F_law_take (hr.mono (by first | decide | omega)) (B.cons (B.v 0) (B.cons (B.cB call_len_seq g.b_len SW.b_len (B.cons (B.ix ix_list (B.v 5) (B.v 2)) B.nil)) B.nil)))))) B.snil)
      (B.scons (B.ifs (B.tcmp op_lt (B.v 4) B.int) (B.sone (B.expr (B.m PySem.F.plainAttrs_list PySem.F.slot_list_append PySem.F.type_list_append mt_append (B.ix ix_list (B.v 5) (B.v 3)) (B.cons (B.v 6) B.nil)))) B.snil)
      (B.scons (B.ifs (B.tw (B.wand (B.tcmpI op_in_seq (B.v 4) (B.tup (B.cons B.int (B.cons B.int (B.cons B.int B.nil))))) (B.wand1 (B.tcmpI (SW.op_inD K hr.units) (B.v 6) (B.ix ix_list (B.v 5) (B.v 2)))))) (B.sone (B.expr (B.m PySem.F.plainAttrs_list PySem.F.slot_list_remove PySem.F.type_list_remove (SW.mt_remove K hr.units) (B.ix ix_list (B.v 5) (B.v 2)) (B.cons (B.v 6) B.nil)))) B.snil)
      (B.scons (B.ifs (B.tcmp op_gt (B.v 4) B.int) (B.scons (B.set 7 sc_law_other_rows.nd (B.lst (B.cons (B.tup (B.cons (B.op op_add (B.ix ix_tup (B.v 6) B.int) B.int) (B.cons (B.ix ix_tup (B.v 6) B.int) B.nil))) (B.cons (B.tup (B.cons (B.op op_add (B.ix ix_tup (B.v 6) B.int) B.int) (B.cons B.int B.nil))) (B.cons (B.tup (B.cons (B.op op_sub B.int (B.ix ix_tup (B.v 6) B.int)) (B.cons B.int B.nil))) (B.cons (B.tup (B.cons (B.ix ix_tup (B.v 6) B.int) (B.cons B.int B.nil))) B.nil))))))
      (B.sone (B.expr (B.m PySem.F.plainAttrs_list PySem.F.slot_list_append PySem.F.type_list_append mt_append (B.ix ix_list (B.v 5) (B.v 2)) (B.cons (B.ix ix_list (B.v 7) (B.fn F_law_take (hr.mono (by first | decide | omega)) (B.cons (B.v 0) (B.cons B.int B.nil)))) B.nil))))) B.snil)
      (B.sone (B.ret (B.cT call_tuple_of g.b_tuple SW.b_tuple (B.cons (SW.B.comp [] ["one"] (SW.CompScope.of rfl rfl (by decide +kernel) (by decide +kernel) rfl trivial rfl rfl rfl) (by decide +kernel) (B.ilist (B.v 5)) (fun _ _ _ _ => (B.cT (SW.call_tupleK K) g.b_tuple SW.b_tuple (B.cons (B.v 0) B.nil)))) B.nil)))))))))))))))), ?_⟩
    walk_at "W"
    refine ⟨rfl, ?_⟩
    walk_at "W"
    cases e with
    | none =>
      have he : v = V.non := he
      subst he
      refine iteY rfl ?_
      refine iteT ?_
      exact wRet (four H (Same.refl _))
    | some R =>
      obtain ⟨a, xs, rfl, ha, hrs⟩ := (show RowsV H v R from he)
      have hsz : R.length ≤ n ∧ tot R ≤ n := hsz
      have hxl := paired_len hrs
      refine iteNo (fun z => nomatch z) ?_
      walk_at "W"
      refine ⟨zero_, fun e0 he0 => ?_⟩
      have s1 := Same.new (o := .tup []) he0
      walk_at "W"
      refine ⟨a, e0, xs, rfl, rfl, SqT.of (s1 _ _ ha), SqT.of upd_same, ?_⟩
      walk_at "W"
      cases hxs : xs with
      | nil =>
        refine iteT ?_
        exact wRet (four _ s1)
      | cons y0 ys0 =>
        refine iteF ?_
        have hpos : 0 < xs.length := by rw [hxs]; exact Nat.zero_lt_succ _
        clear hxs four
        have hp1 := hp.same s1
        have ha1 := s1 _ _ ha
        walk_at "W"
        refine SW.iLen (.inr (SqT.of ha1)) ?_
        walk_at "W"
        refine wTake hp1 (by omega) (by omega) fun at_ H2 a0 a1 R2 K2 => ?_
        have ha2 := K2 _ _ (hp1.ne ha1) ha1
        walk_at "W"
        refine SW.iLen (.inr (SqT.of ha2)) ?_
        walk_at "W"
        refine wTake R2 (by omega) (by omega) fun to_ H3 b0 b1 R3 K3 => ?_
        walk_at "W"
        refine wTake R3 (by decide) (by decide) fun kind H4 c0 c1 R4 K4 => ?_
        have K04 : KeepBut p H H4 := ((SW.Same.but s1).trans K2).trans (K3.trans K4)
        have ha4 := rowTK hp K04 _ _ ha
        have hrs4 := rows_keep hrs (rowTK hp K04)
        clear ha1 ha2 hp1
        have SzRR : SzR n R := hsz
        have fin : ∀ H5 q zs R5, H5 q = some (.tup zs) → Paired (RowV H5) zs R5 → SzR (2 * n + 8) R5 → Row H5 p → KeepBut p H H5 → Q (.ref q) H5 := fun H5 q zs R5 h1 h2 h3 h4 h5 => k _ _ (some R5) ⟨q, zs, rfl, h1, h2⟩ h3 h4 h5
        walk_at "W"
        refine ite2 (fun _ => ?_) (fun _ => ?_)
        · walk_at "W"
          refine ⟨zero_, fun t1 h1 => ?_⟩
          walk_at "W"
          refine ⟨by show (1 : Nat) ≤ sizeLine; decide, fun t2 h2 => ?_⟩
          have d1 := Same.new (o := .tup []) h1
          have d2 := Same.new (o := .tup [.ref t1]) h2
          have d12 := d1.trans d2
          walk_at "W"
          refine ⟨a, t2, _, _, rfl, rfl, d12 _ _ ha4, upd_same, by show _ + 1 ≤ sizeLine; omega, fun q1 H5 s5 hq1 => ?_⟩
          have r1 : Paired (RowV H5) (xs ++ [.ref t1]) (R ++ [[]]) := paired_append (.cons ⟨t1, [], rfl, (d2.trans s5) _ _ upd_same, .nil⟩ .nil) (rows_keep hrs4 (SW.Same.tk (d12.trans s5)))
          have s45 := d12.trans s5
          walk_at "W"
          refine ⟨1, rfl, ?_⟩
          walk_at "W"
          refine ⟨a, xs, rfl, s45 _ _ ha4, fun q2 H6 s6 hq2 => ?_⟩
          have s46 := s45.trans s6
          walk_at "W"
          refine ⟨a, a, _, _, rfl, rfl, s46 _ _ ha4, s46 _ _ ha4, by omega, fun q3 H7 s7 hq3 => ?_⟩
          have s47 := s46.trans s7
          walk_at "W"
          refine SW.iLen (.inr (SqT.of (s47 _ _ ha4))) ?_
          walk_at "W"
          refine ⟨_, rfl, a, xs, rfl, s47 _ _ ha4, fun q4 H8 s8 hq4 => ?_⟩
          have s48 := s47.trans s8
          walk_at "W"
          refine ⟨zero_, fun q5 hq5 => ?_⟩
          have d9 := Same.new (o := .tup []) hq5
          walk_at "W"
          refine ⟨by show (6 : Nat) ≤ sizeLine; decide, fun L hL => ?_⟩
          have d10 := Same.new (o := .lst [.ref q1, .ref q2, .ref q3, .ref q4, .ref q5, .non]) hL
          have s810 := d9.trans d10
          have s410 := s48.trans s810
          have R10 := R4.same s410
          walk_at "W"
          refine wTake R10 (by decide) (by decide) fun r H11 r0 r1_ R11 K11 => ?_
          have nL : L ≠ p := ((R4.same (s48.trans d9)).ne0 hL).symm
          have tk11 := rowTK R10 K11
          have K011 : KeepBut p H H11 := (K04.trans (SW.Same.but s410)).trans K11
          have tk4 : TK H4 H11 := (SW.Same.tk s410).trans tk11
          have tk5 : TK H5 H11 := (SW.Same.tk (s6.trans (s7.trans (s8.trans s810)))).trans tk11
          have tk6 : TK H6 H11 := (SW.Same.tk (s7.trans (s8.trans s810))).trans tk11
          have tk7 : TK H7 H11 := (SW.Same.tk (s8.trans s810)).trans tk11
          have tk8 : TK H8 H11 := (SW.Same.tk s810).trans tk11
          first | (have zz_ := atI_in (xs := [V.ref q1, .ref q2, .ref q3, .ref q4, .ref q5, .non]) r0 r1_; have vv := zz_.1; have hvv := zz_.2.1; have hm := zz_.2.2; clear zz_) | obtain ⟨vv, hvv, hm⟩ := atI_in (xs := [V.ref q1, .ref q2, .ref q3, .ref q4, .ref q5, .non]) r0 r1_
          refine wIxL (K11 _ _ nL upd_same) hvv ?_
          simp only [List.mem_cons, List.not_mem_nil, or_false] at hm
          have hr11 := rows_keep hrs4 tk4
          rcases hm with rfl | rfl | rfl | rfl | rfl | rfl
          · refine fin H11 q1 _ _ (tk5 _ _ hq1) (rows_keep r1 tk5) ⟨?_, ?_⟩ R11 K011
            · rw [List.length_append]; show _ + 1 ≤ _; omega
            · rw [tot_app]; show _ + 0 ≤ _; omega
          · exact fin H11 q2 _ _ (tk6 _ _ hq2) (cutM_ok hr11 _ _) ((cutM_sz SzRR _ _).mono (by omega)) R11 K011
          · exact fin H11 q3 _ _ (tk7 _ _ hq3) (paired_append hr11 hr11) ((SzRR.app SzRR).mono (by omega)) R11 K011
          · exact fin H11 q4 _ _ (tk8 _ _ hq4) (cutM_ok hr11 _ _) ((cutM_sz SzRR _ _).mono (by omega)) R11 K011
          · exact fin H11 q5 _ [] (tk11 _ _ (d10 _ _ upd_same)) .nil ⟨Nat.zero_le _, Nat.zero_le _⟩ R11 K011
          · exact k _ _ none rfl ⟨Nat.zero_le _, Nat.zero_le _⟩ R11 K011
        · walk_at "W"
          refine ite2 (fun _ => ?_) (fun _ => ?_)
          · walk_at "W"
            refine ⟨_, rfl, ?_⟩
            walk_at "W"
            refine ⟨a, xs, rfl, ha4, fun q1 H5 s5 hq1 => ?_⟩
            walk_at "W"
            refine ⟨_, rfl, a, xs, rfl, s5 _ _ ha4, fun q2 H6 s6 hq2 => ?_⟩
            have l1 := cutV_length xs (some to_) none
            have l2 := cutV_length xs none (some to_)
            walk_at "W"
            refine ⟨q1, q2, _, _, rfl, rfl, s6 _ _ hq1, hq2, by omega, fun q3 H7 s7 hq3 => ?_⟩
            have s47 := (s5.trans s6).trans s7
            have hr7 := rows_keep hrs4 (SW.Same.tk s47)
            exact fin H7 q3 _ _ hq3 (paired_append (cutM_ok hr7 _ _) (cutM_ok hr7 _ _)) (((cutM_sz SzRR _ _).app (cutM_sz SzRR _ _)).mono (by omega)) (R4.same s47) (K04.trans (SW.Same.but s47))
          · walk_at "W"
            refine ⟨a, rfl, ⟨_, SqT.of ha4⟩, fun D hD => ?_⟩
            refine comp_tupU (xs := xs) (fun i σ' H' => ∃ (ls : List Addr) (v : Option V), σ' = [v] ∧ ls.length = i ∧ H' D = some (.lst (ls.map V.ref)) ∧ ls.Nodup ∧ (∀ y ∈ ls, H4 y = none ∧ y ≠ D ∧ ∃ o, H' y = some o) ∧ (∀ (j : Nat) l r, ls[j]? = some l → R[j]? = some r → ∃ ys, H' l = some (.lst ys) ∧ Prs H' ys r) ∧ Same H4 H') ⟨[], none, rfl, rfl, upd_same, List.nodup_nil, fun y hy => (List.not_mem_nil hy).elim, fun j l r e => by simp at e, Same.new hD⟩ (fun i σ' H' _ ⟨_, _, _, _, _, _, _, _, s'⟩ => SqT.of (s' _ _ ha4)) ?_ ?_
            · rintro i x σ' H' hx hi ⟨ls, v, rfl, hll, g1, nd, g2, g3, s'⟩
              obtain ⟨r, hr_, b, ys, rfl, hb, hps⟩ := paired_get hrs4 hx
              walk_at "W"
              refine ⟨b, ys, rfl, .inr (SqT.of (s' _ _ hb)), fun y hy => ?_⟩
              have nyD : D ≠ y := ne_of_none g1 hy
              have nin : y ∉ ls := fun z => by
                first | (have zz_ := (g2 y z).2.2; have o := zz_.1; have e := zz_.2; clear zz_) | obtain ⟨o, e⟩ := (g2 y z).2.2
                rw [hy] at e; cases e
              have nw_ : Same H' (upd H' y (.lst ys)) := Same.new hy
              have tk : TK H' (upd (upd H' y (.lst ys)) D (.lst (ls.map V.ref ++ [V.ref y]))) := fun a zs e => by
                rw [upd_ne (ne_of e g1 (by intro z; cases z))]
                exact nw_ _ _ e
              refine CN.mk hi (ys := ls.map V.ref) (by rw [upd_ne nyD]; exact g1) (by rw [List.length_map]; omega) ⟨ls ++ [y], _, rfl, by rw [List.length_append, hll]; rfl, by rw [upd_same, List.map_append]; rfl, nd_snoc nd nin, fun z hz => ?_, fun j l r' e1 e2 => ?_, fun b o e => ?_⟩
              · rcases List.mem_append.mp hz with hz | hz
                · first | (have zz_ := g2 z hz; have c1 := zz_.1; have c2 := zz_.2.1; have o := zz_.2.2.1; have c3 := zz_.2.2.2; clear zz_) | obtain ⟨c1, c2, o, c3⟩ := g2 z hz
                  exact ⟨c1, c2, o, by rw [upd_ne c2]; exact nw_ _ _ c3⟩
                · rw [List.mem_singleton.mp hz]
                  exact ⟨s'.free hy, nyD.symm, _, by rw [upd_ne nyD.symm, upd_same]⟩
              · by_cases hj : j < ls.length
                · rw [List.getElem?_append_left hj] at e1
                  first | (have zz_ := g3 j l r' e1 e2; have zs := zz_.1; have c1 := zz_.2.1; have c2 := zz_.2.2; clear zz_) | obtain ⟨zs, c1, c2⟩ := g3 j l r' e1 e2
                  refine ⟨zs, ?_, c2.keep tk⟩
                  rw [upd_ne (g2 l (List.mem_of_getElem? e1)).2.1]
                  exact nw_ _ _ c1
                · have hj2 : j = ls.length := by
                    have := (List.getElem?_eq_some_iff.mp e1).1
                    rw [List.length_append, List.length_singleton] at this
                    omega
                  subst hj2
                  rw [List.getElem?_append_right (Nat.le_refl _), Nat.sub_self] at e1
                  cases e1
                  rw [hll, hr_] at e2
                  cases e2
                  exact ⟨ys, by rw [upd_ne nyD.symm, upd_same], (hps.keep (SW.Same.tk s')).keep tk⟩
              · rw [upd_ne (ne_of_none e hD)]
                exact nw_ _ _ (s' _ _ e)
            · rintro σ' H5 ⟨ls, v, rfl, hll, g1, nd, g2, g3, s5⟩
              have hlR : ls.length = R.length := by rw [hll, hxl]
              have nDp : D ≠ p := (R4.ne0 hD).symm
              have fr : ∀ y, H4 y = none → y ≠ p ∧ H y = none := fun y hy => ⟨(R4.ne0 hy).symm, by
                cases e : H y with
                | none => rfl
                | some o => rw [K04 y o (R4.ne0 hy).symm e] at hy; cases hy⟩
              have I5 : OI H p D ls n 0 H5 R := ⟨R4.same s5, K04.trans (SW.Same.but s5), ⟨g1, hlR, nd, fun z => (g2 D z).2.1 rfl, g3⟩, nDp, (fr D hD).2, fun y hy => fr y (g2 y hy).1, hlR.symm, hsz.2⟩
              clear g1 g2 g3 s5
              have hat : at_.toNat < ls.length := by omega
              have hto : to_.toNat < ls.length := by omega
              obtain ⟨la, hla⟩ : ∃ la, ls[at_.toNat]? = some la := ⟨_, List.getElem?_eq_getElem hat⟩
              obtain ⟨lt, hlt⟩ : ∃ lt, ls[to_.toNat]? = some lt := ⟨_, List.getElem?_eq_getElem hto⟩
              have ixa : atI (ls.map V.ref) at_ = some (.ref la) := by
                obtain ⟨j, rfl⟩ := Int.eq_ofNat_of_zero_le a0
                rw [Int.toNat_natCast] at hla
                exact atI_nat (by rw [List.getElem?_map, hla]; rfl)
              have ixt : atI (ls.map V.ref) to_ = some (.ref lt) := by
                obtain ⟨j, rfl⟩ := Int.eq_ofNat_of_zero_le b0
                rw [Int.toNat_natCast] at hlt
                exact atI_nat (by rw [List.getElem?_map, hlt]; rfl)
              have rowAt : ∀ {H' : Hp} {R' : MRows} {j i : Nat} {l : Addr}, OI H p D ls n j H' R' → ls[i]? = some l → ∃ ys r, H' l = some (.lst ys) ∧ R'[i]? = some r ∧ Prs H' ys r ∧ r.length ≤ n + j := by
                intro H' R' j i l I hl
                have hi : i < R'.length := by rw [I.z1]; exact (List.getElem?_eq_some_iff.mp hl).1
                first | (have zz_ := I.l.at_ i l _ hl (List.getElem?_eq_getElem hi); have ys := zz_.1; have c1 := zz_.2.1; have c2 := zz_.2.2; clear zz_) | obtain ⟨ys, c1, c2⟩ := I.l.at_ i l _ hl (List.getElem?_eq_getElem hi)
                refine ⟨ys, R'[i], c1, List.getElem?_eq_getElem hi, c2, ?_⟩
                have h3 := tot_take R' (i + 1)
                rw [take_snocF (List.getElem?_eq_getElem hi), tot_app] at h3
                have h4 : tot [R'[i]] = R'[i].length := by unfold tot; simp
                have := I.z2
                omega
              walk_at "W"
              refine wKey I5.r fun ky H6 _ _ R6 K6 => ?_
              have I6 := I5.keepP R6 K6
              walk_at "W"
              refine wWorth I6.r fun wo H7 _ _ R7 K7 => ?_
              have I7 := I6.keepP R7 K7
              walk_at "W"
              refine ⟨by show (2 : Nat) ≤ sizeLine; decide, fun tp htp => ?_⟩
              have I8 := I7.same (Same.new (o := .tup [.int ky, .int wo]) htp)
              have pv8 : PrV (upd H7 tp (.tup [.int ky, .int wo])) (.ref tp) (ky, wo) := ⟨tp, rfl, upd_same⟩
              obtain ⟨H8, hH8⟩ : ∃ H8, H8 = upd H7 tp (.tup [.int ky, .int wo]) := ⟨_, rfl⟩
              rw [← hH8] at I8 pv8 ⊢
              clear hH8
              walk_at "W"
              refine wIxL I8.l.top ixa ?_
              walk_at "W"
              refine ⟨zero_, fun e9 he9 => ?_⟩
              have I9 := I8.same (Same.new (o := .lst []) he9)
              have pv9 := pv8.keep (SW.Same.tk (Same.new (o := .lst []) he9))
              first | (have zz_ := rowAt I9 hla; have ya := zz_.1; have ra := zz_.2.1; have hya := zz_.2.2.1; have hra := zz_.2.2.2.1; have hpa := zz_.2.2.2.2.1; have hrl := zz_.2.2.2.2.2; clear zz_) | obtain ⟨ya, ra, hya, hra, hpa, hrl⟩ := rowAt I9 hla
              refine wNeNil (SqL.of hya) hpa.dat (SqL.of upd_same) (prs_layB ra) (prs_deepB ra) ?_
              obtain ⟨H9, hH9⟩ : ∃ H9, H9 = upd H8 e9 (.lst []) := ⟨_, rfl⟩
              rw [← hH9] at I9 pv9 hya hpa ⊢
              clear hH9
              walk_at "W"
              rename_i N1 hN1
              have rest1 : ∀ H' v pr, OI H p D ls n 0 H' R → PrV H' v pr → N1 [some (.ref p), some (.ref a), some (.int at_), some (.int to_), some (.int kind), some (.ref D), some v, none] H' := by
                intro H' v pr I hv
                refine SW.wGo hN1 ?_
                walk_at "W"
                rename_i N2 hN2
                have rest2 : ∀ H' R', OI H p D ls n 1 H' R' → PrV H' v pr → N2 [some (.ref p), some (.ref a), some (.int at_), some (.int to_), some (.int kind), some (.ref D), some v, none] H' := by
                  intro H' R' I hv
                  refine SW.wGo hN2 ?_
                  walk_at "W"
                  rename_i N3 hN3
                  have rest3 : ∀ H' R', OI H p D ls n 1 H' R' → PrV H' v pr → N3 [some (.ref p), some (.ref a), some (.int at_), some (.int to_), some (.int kind), some (.ref D), some v, none] H' := by
                    intro H' R' I hv
                    refine SW.wGo hN3 ?_
                    walk_at "W"
                    rename_i N4 hN4
                    have rest4 : ∀ H' R' o, OI H p D ls n 2 H' R' → N4 [some (.ref p), some (.ref a), some (.int at_), some (.int to_), some (.int kind), some (.ref D), some v, o] H' := by
                      intro H' R' o I
                      refine SW.wGo hN4 ?_
                      walk_at "W"
                      refine ⟨D, rfl, ⟨_, SqL.of I.l.top⟩, fun D2 hD2 => ?_⟩
                      refine comp_listU (xs := ls.map V.ref) (fun i σ' H'' => ∃ (v : Option V) (zs : List V), σ' = [v] ∧ Same H' H'' ∧ H'' D2 = some (.lst zs) ∧ Paired (RowV H'') zs (R'.take i) ∧ zs.length = i) ⟨none, [], rfl, Same.new hD2, upd_same, by rw [List.take_zero]; exact .nil, rfl⟩ (fun i σ' H'' _ ⟨_, _, _, s', _⟩ => SqL.of (s' _ _ I.l.top)) ?_ ?_
                      · rintro i x σ' H'' hx hi ⟨v, zs, rfl, s', hD', hz, hzl⟩
                        rw [List.getElem?_map] at hx
                        obtain ⟨l, hl, rfl⟩ := Option.map_eq_some_iff.mp hx
                        first | (have zz_ := rowAt I hl; have ys := zz_.1; have r := zz_.2.1; have c1 := zz_.2.2.1; have c2 := zz_.2.2.2.1; have c3 := zz_.2.2.2.2.1; clear zz_) | obtain ⟨ys, r, c1, c2, c3, _⟩ := rowAt I hl
                        walk_at "W"
                        refine ⟨l, ys, rfl, .inl ⟨SqL.of (s' _ _ c1), fun tt htt => ?_⟩⟩
                        have n1 : tt ≠ D2 := (ne_of_none hD' htt).symm
                        have tk : TK H'' (upd (upd H'' tt (.tup ys)) D2 (.lst (zs ++ [.ref tt]))) := fun a us e => by
                          rw [upd_ne (ne_of e hD' (by intro z; cases z))]
                          exact Same.new htt _ _ e
                        refine CN.mk hi (by rw [upd_ne n1.symm]; exact hD') (by rw [List.length_map] at hi; omega) ⟨_, zs ++ [.ref tt], rfl, fun b o e => by rw [upd_ne (ne_of_none e hD2)]; exact Same.new htt _ _ (s' _ _ e), upd_same, ?_, by rw [List.length_append, hzl]; rfl⟩
                        rw [take_snocF c2]
                        exact paired_append (.cons ⟨tt, ys, rfl, by rw [upd_ne n1]; exact upd_same, (c3.keep (SW.Same.tk s')).keep tk⟩ .nil) (rows_keep hz tk)
                      · rintro σ' H'' ⟨v, zs, rfl, s', hD', hz, hzl⟩
                        rw [List.length_map, ← I.z1, List.take_length] at hz
                        walk_at "W"
                        refine ⟨D2, zs, rfl, .inl ⟨SqL.of hD', fun q hq => ?_⟩⟩
                        have s2 := s'.trans (Same.new (o := .tup zs) hq)
                        have z2 := I.z2
                        refine fin _ q zs R' upd_same (rows_keep hz (SW.Same.tk (Same.new hq))) ⟨?_, by omega⟩ (I.r.same s2) (I.k.trans (SW.Same.but s2))
                        rw [I.z1, hlR]; omega
                    clear hN4
                    refine ite2 (fun _ => ?_) (fun _ => ?_)
                    · obtain ⟨pa, rfl, hpa⟩ := id hv
                      walk_at "W"
                      refine ⟨by show (2 : Nat) ≤ sizeLine; decide, fun o1 ho1 => ?_⟩
                      have i1 := Same.new (o := .tup [.int (pr.1 + 4), .int pr.2]) ho1
                      have hpa1 := i1 _ _ hpa
                      walk_at "W"
                      refine ⟨by show (2 : Nat) ≤ sizeLine; decide, fun o2 ho2 => ?_⟩
                      have i2 := Same.new (o := .tup [.int (pr.1 + 65536), .int 1]) ho2
                      have hpa2 := i2 _ _ hpa1
                      walk_at "W"
                      refine ⟨by show (2 : Nat) ≤ sizeLine; decide, fun o3 ho3 => ?_⟩
                      have i3 := Same.new (o := .tup [.int (0 - pr.1), .int 2]) ho3
                      have hpa3 := i3 _ _ hpa2
                      walk_at "W"
                      refine ⟨by show (2 : Nat) ≤ sizeLine; decide, fun o4 ho4 => ?_⟩
                      have i4 := Same.new (o := .tup [.int pr.1, .int 7]) ho4
                      walk_at "W"
                      refine ⟨by show (4 : Nat) ≤ sizeLine; decide, fun oL hoL => ?_⟩
                      have i5 := Same.new (o := .lst [.ref o1, .ref o2, .ref o3, .ref o4]) hoL
                      have j45 := i4.trans i5
                      have j35 := i3.trans j45
                      have j25 := i2.trans j35
                      have I5 := I.same (i1.trans j25)
                      have ww : ∃ pr1 pr2 pr3 pr4, PrV _ (.ref o1) pr1 ∧ PrV _ (.ref o2) pr2 ∧ PrV _ (.ref o3) pr3 ∧ PrV (upd (upd (upd (upd (upd H' o1 (.tup [.int (pr.1 + 4), .int pr.2])) o2 (.tup [.int (pr.1 + 65536), .int 1])) o3 (.tup [.int (0 - pr.1), .int 2])) o4 (.tup [.int pr.1, .int 7])) oL (.lst [.ref o1, .ref o2, .ref o3, .ref o4])) (.ref o4) pr4 :=
                        ⟨(pr.1 + 4, pr.2), (pr.1 + 65536, 1), (0 - pr.1, 2), (pr.1, 7), ⟨o1, rfl, j25 _ _ upd_same⟩, ⟨o2, rfl, j35 _ _ upd_same⟩, ⟨o3, rfl, j45 _ _ upd_same⟩, ⟨o4, rfl, i5 _ _ upd_same⟩⟩
                      have eL := upd_same (H := upd (upd (upd (upd H' o1 (.tup [.int (pr.1 + 4), .int pr.2])) o2 (.tup [.int (pr.1 + 65536), .int 1])) o3 (.tup [.int (0 - pr.1), .int 2])) o4 (.tup [.int pr.1, .int 7])) (a := oL) (o := .lst [.ref o1, .ref o2, .ref o3, .ref o4])
                      have noL : oL ≠ p := ne_oL I.r (i1.trans (i2.trans (i3.trans i4))) hoL
                      obtain ⟨Hx, hHx⟩ : ∃ Hx, Hx = upd (upd (upd (upd (upd H' o1 (.tup [.int (pr.1 + 4), .int pr.2])) o2 (.tup [.int (pr.1 + 65536), .int 1])) o3 (.tup [.int (0 - pr.1), .int 2])) o4 (.tup [.int pr.1, .int 7])) oL (.lst [.ref o1, .ref o2, .ref o3, .ref o4]) := ⟨_, rfl⟩
                      rw [← hHx] at I5 ww eL ⊢
                      clear hHx
                      walk_at "W"
                      refine wBM ?_
                      walk_at "W"
                      refine wIxL I5.l.top ixa ?_
                      first | (have zz_ := rowAt I5 hla; have ys := zz_.1; have r := zz_.2.1; have c1 := zz_.2.2.1; have c2 := zz_.2.2.2.1; have c3 := zz_.2.2.2.2.1; have c4 := zz_.2.2.2.2.2; clear zz_) | obtain ⟨ys, r, c1, c2, c3, c4⟩ := rowAt I5 hla
                      refine ⟨.inl ⟨rfl, _, SqL.of c1⟩, ?_⟩
                      walk_at "W"
                      refine wTake I5.r (by decide) (by decide) fun rr Hy r0 r1 Ry Ky => ?_
                      have I6 := I5.keepP Ry Ky
                      have tky := rowTK I5.r Ky
                      first | (have zz_ := atI_in (xs := [V.ref o1, .ref o2, .ref o3, .ref o4]) r0 r1; have vv := zz_.1; have hvv := zz_.2.1; have hm := zz_.2.2; clear zz_) | obtain ⟨vv, hvv, hm⟩ := atI_in (xs := [V.ref o1, .ref o2, .ref o3, .ref o4]) r0 r1
                      refine wIxL (Ky _ _ noL eL) hvv ?_
                      obtain ⟨prv, hprv⟩ : ∃ prv, PrV Hy vv prv := by
                        first | (have zz_ := ww; have p1 := zz_.1; have p2 := zz_.2.1; have p3 := zz_.2.2.1; have p4 := zz_.2.2.2.1; have w1 := zz_.2.2.2.2.1; have w2 := zz_.2.2.2.2.2.1; have w3 := zz_.2.2.2.2.2.2.1; have w4 := zz_.2.2.2.2.2.2.2; clear zz_) | obtain ⟨p1, p2, p3, p4, w1, w2, w3, w4⟩ := ww
                        simp only [List.mem_cons, List.not_mem_nil, or_false] at hm
                        rcases hm with rfl | rfl | rfl | rfl
                        · exact ⟨p1, w1.keep tky⟩
                        · exact ⟨p2, w2.keep tky⟩
                        · exact ⟨p3, w3.keep tky⟩
                        · exact ⟨p4, w4.keep tky⟩
                      have c1y := Ky _ _ (I5.nl la (List.mem_of_getElem? hla)).1 c1
                      have hyl := c3.len
                      walk_at "W"
                      refine ⟨la, ys, vv, rfl, rfl, c1y, by omega, ?_⟩
                      walk_at "W"
                      exact rest4 _ _ _ (I6.set hla c2 (paired_append (.cons hprv .nil) (c3.keep tky)) (by rw [List.length_append]; exact Nat.le_refl _))
                    · walk_at "W"
                      exact rest4 _ _ _ ⟨I.r, I.k, I.l, I.nD, I.D0, I.nl, I.z1, Nat.le_succ_of_le I.z2⟩
                  clear hN3
                  refine ⟨by show (3 : Nat) ≤ sizeLine; decide, fun t3 ht3 => ?_⟩
                  have i3 := Same.new (o := .tup [.int 3, .int 4, .int 5]) ht3
                  have I3 := I.same i3
                  have hv3 := hv.keep (SW.Same.tk i3)
                  refine ⟨t3, _, rfl, .inr (SqT.of upd_same), rfl, rfl, ?_⟩
                  obtain ⟨Hx, hHx⟩ : ∃ Hx, Hx = upd H' t3 (.tup [.int 3, .int 4, .int 5]) := ⟨_, rfl⟩
                  rw [← hHx] at I3 hv3 ⊢
                  clear hHx
                  walk_at "W"
                  refine iteB (fun _ => ?_) (fun _ => ?_)
                  · walk_at "W"
                    refine wIxL I3.l.top ixa ?_
                    first | (have zz_ := rowAt I3 hla; have ys := zz_.1; have r := zz_.2.1; have c1 := zz_.2.2.1; have c2 := zz_.2.2.2.1; have c3 := zz_.2.2.2.2.1; have c4 := zz_.2.2.2.2.2; clear zz_) | obtain ⟨ys, r, c1, c2, c3, c4⟩ := rowAt I3 hla
                    refine ⟨_, la, ys, _, pr_dat hv3, rfl, SqL.of c1, c3.dat, rfl, prs_layB r, Nat.le_trans (pr_deep _ _) (by decide), ?_⟩
                    walk_at "W"
                    refine iteB (fun hb => ?_) (fun _ => ?_)
                    · walk_at "W"
                      refine wBM ?_
                      walk_at "W"
                      refine wIxL I3.l.top ixa ?_
                      refine ⟨.inl ⟨rfl, _, SqL.of c1⟩, ?_⟩
                      walk_at "W"
                      refine ⟨la, v, _, ys, _, rfl, rfl, c1, pr_dat hv3, c3.dat, rfl, prs_layB r, Nat.le_trans (pr_deep _ _) (by decide), hb, fun j hj => ?_⟩
                      have tk : TK Hx (upd Hx la (.lst (ys.eraseIdx j))) := fun a us e => by rw [upd_ne (ne_of e c1 (by intro z; cases z))]; exact e
                      walk_at "W"
                      refine rest3 _ _ (I3.set hla c2 (paired_erase j c3) ?_) (hv3.keep tk)
                      have := len_erase r j
                      omega
                    · walk_at "W"
                      exact rest3 _ _ I3 hv3
                  · refine iteF ?_
                    walk_at "W"
                    exact rest3 _ _ I3 hv3
                clear hN2
                refine ite2 (fun _ => ?_) (fun _ => ?_)
                · walk_at "W"
                  refine wBM ?_
                  walk_at "W"
                  refine wIxL I.l.top ixt ?_
                  first | (have zz_ := rowAt I hlt; have ys := zz_.1; have r := zz_.2.1; have c1 := zz_.2.2.1; have c2 := zz_.2.2.2.1; have c3 := zz_.2.2.2.2.1; have c4 := zz_.2.2.2.2.2; clear zz_) | obtain ⟨ys, r, c1, c2, c3, c4⟩ := rowAt I hlt
                  refine ⟨.inl ⟨rfl, _, SqL.of c1⟩, ?_⟩
                  have hyl := c3.len
                  walk_at "W"
                  refine ⟨lt, ys, v, rfl, rfl, c1, by omega, ?_⟩
                  have tk : TK H' (upd H' lt (.lst (ys ++ [v]))) := fun a us e => by rw [upd_ne (ne_of e c1 (by intro z; cases z))]; exact e
                  walk_at "W"
                  exact rest2 _ _ (I.set hlt c2 (paired_append (.cons hv .nil) c3) (by rw [List.length_append]; exact Nat.le_refl _)) (hv.keep tk)
                · walk_at "W"
                  exact rest2 _ _ ⟨I.r, I.k, I.l, I.nD, I.D0, I.nl, I.z1, Nat.le_succ_of_le I.z2⟩ hv
              clear hN1
              refine iteB (fun hb => ?_) (fun _ => ?_)
              · walk_at "W"
                refine wIxL I9.l.top ixa ?_
                walk_at "W"
                refine wIxL I9.l.top ixa ?_
                refine SW.iLen (.inl (SqL.of hya)) ?_
                walk_at "W"
                have hyl := hpa.len
                have hne : 0 < ya.length := by
                  cases hra' : ra with
                  | nil => rw [hra'] at hb; cases hb
                  | cons z zs => rw [hyl, hra']; exact Nat.zero_lt_succ _
                refine wTake I9.r (by omega) (by omega) fun ri H10 i0 i1 R10 K10 => ?_
                have I10 := I9.keepP R10 K10
                first | (have zz_ := atI_in (xs := ya) i0 i1; have vv := zz_.1; have hvv := zz_.2.1; have hm := zz_.2.2; clear zz_) | obtain ⟨vv, hvv, hm⟩ := atI_in (xs := ya) i0 i1
                first | (have zz_ := List.mem_iff_getElem?.mp hm; have j := zz_.1; have hj := zz_.2; clear zz_) | obtain ⟨j, hj⟩ := List.mem_iff_getElem?.mp hm
                first | (have zz_ := paired_get hpa hj; have pr := zz_.1; have hpr := zz_.2.2; clear zz_) | obtain ⟨pr, _, hpr⟩ := paired_get hpa hj
                refine wIxL (K10 _ _ (I9.nl la (List.mem_of_getElem? hla)).1 hya) hvv ?_
                walk_at "W"
                exact rest1 _ _ pr I10 (hpr.keep (rowTK I9.r K10))
              · walk_at "W"
                exact rest1 _ _ _ I9 pv9
end
noncomputable def SzS (n : Nat) (S : Sta) : Prop := SzE n S.el ∧ SzR n S.nw
theorem SzS.fine {n : Nat} {S : Sta} (h : SzS n S) (hn : n ≤ 5000) : Fine S := by
  have h1 : (S.el.getD []).length ≤ n ∧ tot (S.el.getD []) ≤ n := h.1
  have h2 : S.nw.length ≤ n ∧ tot S.nw ≤ n := h.2
  exact ⟨by unfold Big; omega, by omega, by omega⟩
noncomputable def spBentR : Sp := fun vs H Q _ => ∃ (p : Addr) (v : V) (S : Sta) (n : Nat), vs = [.ref p, v] ∧ Row H p ∧ StV H v S ∧ SzS n S ∧ n ≤ 2000 ∧ ∀ v' H' S', StV H' v' S' → SzS (2 * n + 8) S' → Row H' p → KeepBut p H H' → Q v' H'
theorem wBentR {H : Hp} {Q : VK} {E : XK} {p : Addr} {v : V} {S : Sta} {n : Nat} (h1 : Row H p) (h2 : StV H v S) (h3 : SzS n S) (h4 : n ≤ 2000) (k : ∀ v' H' S', StV H' v' S' → SzS (2 * n + 8) S' → Row H' p → KeepBut p H H' → Q v' H') : spBentR ([.ref p, v] ++ []) H Q E := ⟨p, v, S, n, rfl, h1, h2, h3, h4, k⟩
theorem or_elT {K : PySem.W.Frag} {σ : L2.St} {H : Hp} {Q : VK} {x : V} {el : Option MRows} {tb : TE} (h : ElV H x el) (kb : tb σ H Q) (k : ∀ R, el = some R → RowsV H x R → Q x H) :
    (x = .non ∧ tb σ H Q) ∨ ∃ a xs, x = .ref a ∧ SqT K H a xs ∧ if xs.isEmpty = true then tb σ H Q else Q x H := by
  cases el with
  | none => exact .inl ⟨h, kb⟩
  | some R =>
    have hh : RowsV H x R := h
    obtain ⟨a, xs, rfl, ha, hp⟩ := id hh
    refine .inr ⟨a, xs, rfl, SqT.of ha, ?_⟩
    cases xs with
    | nil => exact iteT kb
    | cons y ys => exact iteF (k R rfl hh)
theorem rep_bare (n : Nat) (H : Hp) (t : Addr) (h : H t = some (.tup [])) : Paired (RowV H) (List.replicate n [V.ref t]).flatten (List.replicate n []) := by
  induction n with
  | zero => exact .nil
  | succ n ih => rw [List.replicate_succ, List.flatten_cons, List.replicate_succ]; exact .cons ⟨t, [], rfl, h, .nil⟩ ih
theorem tot_bare (n : Nat) : tot (List.replicate n []) = 0 := by
  unfold tot
  rw [List.map_replicate]
  simp
section
variable {P : Program} {w : World} {K : PySem.W.Frag} {mg : Str → Option Value} {base : Heap} 
theorem F_bentR (d : Dfn K mg "_law_bent" s_law_bent ["row", "state"]) (g : Gs K mg) (F_law_take : Fn P w K mg base "_law_take" 1 ["row", "many"] spTake) (F_law_other_rows : Fn P w K mg base "_law_other_rows" 3 ["row", "rows"] spOtherR) : Fn P w K mg base "_law_bent" 4 ["row", "state"] spBentR := by
  refine d.fn sc_law_bent (fun vs H Q E h => ?_) (fun f cdv A outer s H vs Q E hr h => ?_)
  · obtain ⟨p, v, S, n, rfl, _⟩ := h
    rfl
  · obtain ⟨p, v, S, n, rfl, hp, ⟨u, ve, vn, rfl, hu, he, hn⟩, ⟨z1, z2⟩, hnl, k⟩ := h
    have three : (3 : Nat) ≤ sizeLine := by decide
    have z2' : SzR (2 * n + 8) S.nw := z2.mono (by omega)
    have z1' : SzE (2 * n + 8) S.el := SzR.mono z1 (by omega)
    have fin : ∀ H5 v1 v2 S5, ElV H5 v1 S5.el → RowsV H5 v2 S5.nw → SzS (2 * n + 8) S5 → Row H5 p → KeepBut p H H5 → ∀ t, H5 t = none → Q (.ref t) (upd H5 t (.tup [v1, .int S5.mv, v2])) := fun H5 v1 v2 S5 h1 h2 h3 h4 h5 t ht => by
      have i := Same.new (o := .tup [v1, .int S5.mv, v2]) ht
      exact k _ _ S5 ⟨t, v1, v2, rfl, upd_same, h1.keep (SW.Same.tk i), h2.keep (SW.Same.tk i)⟩ h3 (h4.same i) (h5.trans (KeepBut.new ht))
    refine ⟨_, (B.scons (B.asg (B.v 1) (B.gtup (B.gcons (B.gname (i := 2) sc_law_bent.nd) (B.gcons (B.gname (i := 3) sc_law_bent.nd) (B.gcons (B.gname (i := 4) sc_law_bent.nd) B.gnil)))))
      (B.scons (B.set 5 sc_law_bent.nd (B.fn F_law_take (hr.mono (by first | decide | omega)) (B.cons (B.v 0) (B.cons B.int B.nil))))
      (B.scons (B.ifs (B.tcmp op_lt (B.v 5) B.int) (B.sone (B.ret (B.tup (B.cons (B.v 2) (B.cons (B.v 3) (B.cons (SW.B.orA (B.fn F_law_other_rows (hr.mono (by first | decide | omega)) (B.cons (B.v 0) (B.cons (B.v 4) B.nil))) (B.one (B.tup B.nil))) B.nil)))))) B.snil)
      (B.scons (B.ifs (B.tcmp op_lt (B.v 5) B.int) (B.sone (B.ret (B.tup (B.cons (B.fn F_law_other_rows (hr.mono (by first | decide | omega)) (B.cons (B.v 0) (B.cons (B.v 2) B.nil))) (B.cons (B.v 3) (B.cons (B.v 4) B.nil)))))) B.snil)
      (B.scons (B.ifs (B.tcmp op_eq (B.v 5) B.int) (B.sone (B.ret (B.tup (B.cons (B.v 2) (B.cons (B.ix ix_list (B.lst (B.cons (B.op op_add (B.v 3) B.int) (B.cons (B.un un_neg B.int) (B.cons B.int (B.cons (B.op op_sub (B.v 3) B.int) (B.cons B.int (B.cons (B.op op_pow B.int B.int) (B.cons (B.op op_add (B.v 3) B.int) B.nil)))))))) (B.fn F_law_take (hr.mono (by first | decide | omega)) (B.cons (B.v 0) (B.cons B.int B.nil)))) (B.cons (B.v 4) B.nil)))))) B.snil)
      (B.sone (B.ret (B.tup (B.cons (B.v 4) (B.cons (B.v 3) (B.cons (SW.B.orA (B.v 2) (B.one (B.op SW.op_repT (B.tup (B.cons (B.tup B.nil) B.nil)) B.int))) B.nil))))))))))), ?_⟩
    walk_at "W"
    refine ⟨u, _, rfl, SqT.of hu, rfl, _, _, rfl, ?_⟩
    walk_at "W"
    refine ⟨_, _, rfl, ?_⟩
    walk_at "W"
    refine ⟨_, _, rfl, ?_⟩
    walk_at "W"
    refine ⟨rfl, ?_⟩
    walk_at "W"
    refine wTake hp (by decide) (by decide) fun kind H1 c0 c1 R1 K1 => ?_
    have tk1 := rowTK hp K1
    have he1 := he.keep tk1
    have hn1 := hn.keep tk1
    walk_at "W"
    refine ite2 (fun _ => ?_) (fun _ => ?_)
    · walk_at "W"
      refine wOtherR (e := some S.nw) R1 hn1 z2 (by omega) fun v2 H2 e2 hv2 zz R2 K2 => ?_
      have he2 := he1.keep (rowTK R1 K2)
      refine or_el hv2 fun v3 H3 s3 hv3 => ?_
      walk_at "W"
      exact ⟨three, fin H3 ve v3 ⟨S.el, S.mv, e2.getD []⟩ (he2.keep (SW.Same.tk s3)) hv3 ⟨z1', zz⟩ (R2.same s3) ((K1.trans K2).trans (SW.Same.but s3))⟩
    · walk_at "W"
      refine ite2 (fun _ => ?_) (fun _ => ?_)
      · walk_at "W"
        refine wOtherR R1 he1 z1 (by omega) fun v2 H2 e2 hv2 zz R2 K2 => ?_
        walk_at "W"
        exact ⟨three, fin H2 v2 vn ⟨e2, S.mv, S.nw⟩ hv2 (hn1.keep (rowTK R1 K2)) ⟨zz, z2'⟩ R2 (K1.trans K2)⟩
      · walk_at "W"
        refine ite2 (fun _ => ?_) (fun _ => ?_)
        · walk_at "W"
          refine ⟨by show (7 : Nat) ≤ sizeLine; decide, fun L hL => ?_⟩
          have i2 := Same.new (o := .lst [.int (S.mv + 1), .int (-1), .int 0, .int (S.mv - 1), .int 4, .int (10 ^ Int.toNat 30), .int (S.mv + 8)]) hL
          have nL : L ≠ p := (R1.ne0 hL).symm
          walk_at "W"
          refine wTake (R1.same i2) (by decide) (by decide) fun r H3 r0 r1 R3 K3 => ?_
          first | (have zz_ := atI_in (xs := [V.int (S.mv + 1), .int (-1), .int 0, .int (S.mv - 1), .int 4, .int (10 ^ Int.toNat 30), .int (S.mv + 8)]) r0 r1; have vv := zz_.1; have hvv := zz_.2.1; have hm := zz_.2.2; clear zz_) | obtain ⟨vv, hvv, hm⟩ := atI_in (xs := [V.int (S.mv + 1), .int (-1), .int 0, .int (S.mv - 1), .int 4, .int (10 ^ Int.toNat 30), .int (S.mv + 8)]) r0 r1
          obtain ⟨z, rfl⟩ : ∃ z, vv = V.int z := by
            simp only [List.mem_cons, List.not_mem_nil, or_false] at hm
            rcases hm with rfl | rfl | rfl | rfl | rfl | rfl | rfl <;> exact ⟨_, rfl⟩
          refine wIxL (K3 _ _ nL upd_same) hvv ?_
          have K13 := (SW.Same.but (p := p) i2).trans K3
          have tk3 := rowTK R1 K13
          walk_at "W"
          exact ⟨three, fin H3 ve vn ⟨S.el, z, S.nw⟩ (he1.keep tk3) (hn1.keep tk3) ⟨z1', z2'⟩ R3 (K1.trans K13)⟩
        · walk_at "W"
          refine or_elT he1 ?_ (fun R5 e5 hR5 => ?_)
          · walk_at "W"
            refine ⟨by show (0 : Nat) ≤ sizeLine; decide, fun t1 h1 => ?_⟩
            walk_at "W"
            refine ⟨by show (1 : Nat) ≤ sizeLine; decide, fun t2 h2 => ?_⟩
            have i1 := Same.new (o := .tup []) h1
            have i2 := Same.new (o := .tup [.ref t1]) h2
            walk_at "W"
            refine ⟨t2, 8, [.ref t1], rfl, rfl, upd_same, List.cons_ne_nil _ _, by decide, by decide, by show 1 * (8 : Int).toNat ≤ sizeLine; decide, fun t3 h3 => ?_⟩
            have i3 := Same.new (o := .tup (List.replicate (8 : Int).toNat [V.ref t1]).flatten) h3
            have s13 := (i1.trans i2).trans i3
            walk_at "W"
            refine ⟨three, fin _ vn (.ref t3) ⟨some S.nw, S.mv, List.replicate 8 []⟩ (hn1.keep (SW.Same.tk s13)) ⟨t3, _, rfl, upd_same, rep_bare 8 _ t1 ((i2.trans i3) _ _ upd_same)⟩ ⟨z2', ⟨by rw [List.length_replicate]; omega, by rw [tot_bare]; exact Nat.zero_le _⟩⟩ (R1.same s13) (K1.trans (SW.Same.but s13))⟩
          · walk_at "W"
            have z5 : SzR (2 * n + 8) R5 := by rw [e5] at z1'; exact z1'
            exact ⟨three, fin H1 vn ve ⟨some S.nw, S.mv, R5⟩ hn1 hR5 ⟨z2', z5⟩ R1 K1⟩
end

structure TS (H0 : Hp) (p rl : Addr) (n : Nat) (q : Nat → Addr) (ls : Nat → List Addr) (R : Nat → MRows) (H : Hp) : Prop where
  r : Row H p
  k : KeepBut p H0 H
  top : H rl = some (.lst ((List.range n).map fun s => V.ref (q s)))
  lr : ∀ s, s < n → LR H (q s) (R s) (ls s)
  x1 : ∀ s s', s < n → s' < n → s ≠ s' → ∀ l ∈ ls s, l ∉ ls s'
  x2 : ∀ s s', s < n → s' < n → ∀ l ∈ ls s, l ≠ q s'
  x3 : ∀ s, s < n → ∀ l ∈ ls s, l ≠ rl ∧ l ≠ p ∧ H0 l = none
  x4 : rl ≠ p
  x5 : ∀ s, s < n → q s ≠ p
section
variable {H0 H H' : Hp} {p rl : Addr} {n : Nat} {q : Nat → Addr} {ls : Nat → List Addr} {R : Nat → MRows}
theorem TS.keepP (I : TS H0 p rl n q ls R H) (R' : Row H' p) (k : KeepBut p H H') : TS H0 p rl n q ls R H' :=
  ⟨R', I.k.trans k, k _ _ I.x4 I.top, fun s hs => (I.lr s hs).keep (G := fun b => b = p) (fun b o n e => k b o n e) (I.x5 s hs) (fun b hb => (I.x3 s hs b hb).2.1) (fun b xs e => I.r.ne e), I.x1, I.x2, I.x3, I.x4, I.x5⟩
theorem TS.same (I : TS H0 p rl n q ls R H) (s : Same H H') : TS H0 p rl n q ls R H' := I.keepP (I.r.same s) (SW.Same.but s)
theorem TS.keepD {sd : Addr} {kv kv' : List (Key × V)} (I : TS H0 p rl n q ls R H) (hsd : H sd = some (.dK kv)) (h0 : H0 sd = none) : TS H0 p rl n q ls R (upd H sd (.dK kv')) := by
  have kk : ∀ b o, b ≠ sd → H b = some o → upd H sd (.dK kv') b = some o := fun b o n e => by rw [upd_ne n]; exact e
  refine ⟨?_, fun b o n e => kk _ _ (ne_of_none e h0) (I.k _ _ n e), kk _ _ (ne_of I.top hsd (by intro z; cases z)) I.top, fun s hs => (I.lr s hs).keep (G := fun b => b = sd) (fun b o n e => kk b o n e) (ne_of (I.lr s hs).top hsd (by intro z; cases z)) (fun b hb => ?_) (fun b xs e => ne_of e hsd (by intro z; cases z)), I.x1, I.x2, I.x3, I.x4, I.x5⟩
  · first | (have zz_ := I.r; have a := zz_.1; have b := zz_.2.1; have c := zz_.2.2.1; have h := zz_.2.2.2.1; have g := zz_.2.2.2.2; clear zz_) | obtain ⟨a, b, c, h, g⟩ := I.r
    exact ⟨a, b, c, kk _ _ (ne_of h hsd (by intro z; cases z)) h, g⟩
  · first | (have zz_ := (I.lr s hs).live hb; have xs := zz_.1; have h := zz_.2; clear zz_) | obtain ⟨xs, h⟩ := (I.lr s hs).live hb
    exact ne_of h hsd (by intro z; cases z)
theorem TS.set {s i : Nat} {l : Addr} {xs : List V} {r : MRow} (I : TS H0 p rl n q ls R H) (hs : s < n) (hl : (ls s)[i]? = some l) (h2 : Prs H xs r) : TS H0 p rl n q ls (fun s' => if s' = s then (R s).set i r else R s') (upd H l (.lst xs)) := by
  have hm := List.mem_of_getElem? hl
  first | (have zz_ := (I.lr s hs).live hm; have ys := zz_.1; have hly := zz_.2; clear zz_) | obtain ⟨ys, hly⟩ := (I.lr s hs).live hm
  have kk : ∀ b o, b ≠ l → H b = some o → upd H l (.lst xs) b = some o := fun b o n e => by rw [upd_ne n]; exact e
  have tk : TK H (upd H l (.lst xs)) := fun a zs e => kk _ _ (ne_of e hly (by intro z; cases z)) e
  first | (have zz_ := I.x3 s hs l hm; have y1 := zz_.1; have y2 := zz_.2.1; have y3 := zz_.2.2; clear zz_) | obtain ⟨y1, y2, y3⟩ := I.x3 s hs l hm
  refine ⟨?_, fun b o n e => kk _ _ (ne_of_none e y3) (I.k _ _ n e), kk _ _ y1.symm I.top, fun s' hs' => ?_, I.x1, I.x2, I.x3, I.x4, I.x5⟩
  · first | (have zz_ := I.r; have a := zz_.1; have b := zz_.2.1; have c := zz_.2.2.1; have h := zz_.2.2.2.1; have g := zz_.2.2.2.2; clear zz_) | obtain ⟨a, b, c, h, g⟩ := I.r
    exact ⟨a, b, c, kk _ _ y2.symm h, g⟩
  · by_cases e : s' = s
    · subst e
      rw [if_pos rfl]
      exact (I.lr s' hs).set hl upd_same (h2.keep tk) kk
    · rw [if_neg e]
      exact (I.lr s' hs').keep (G := fun b => b = l) (fun b o n e => kk b o n e) (I.x2 s s' hs hs' l hm).symm (fun b hb z => I.x1 s s' hs hs' (fun y => e y.symm) l hm (z ▸ hb)) (fun b zs e => ne_of e hly (by intro z; cases z))
end
noncomputable def kall (R : MRows) : List Int := R.flatMap fun r => r.map (·.1)
theorem kall_app (A B : MRows) : kall (A ++ B) = kall A ++ kall B := List.flatMap_append
theorem kall_one (r : MRow) : kall [r] = r.map (·.1) := by unfold kall; rw [List.flatMap_cons, List.flatMap_nil, List.append_nil]
theorem tripR_keys (sh : Bool) (i : Nat) (r : MRow) : (tripR sh i r).map (·.2.2) = r.map (·.1) := by
  unfold tripR
  rw [List.map_map]; rfl
theorem tripF_keys (sh : Bool) : ∀ (R : MRows) (i : Nat), (tripF sh i R).map (·.2.2) = kall R
  | [], _ => rfl
  | r :: R, i => by
    show (tripR sh i r ++ tripF sh (i + 1) R).map (·.2.2) = r.map (·.1) ++ kall R
    rw [List.map_append, tripR_keys, tripF_keys sh R]
theorem kall_set {R : MRows} {i : Nat} {r : MRow} {pr : Int × Int} (h : R[i]? = some r) : (kall (R.set i (r ++ [pr]))).Perm (pr.1 :: kall R) := by
  have hi : i < R.length := (List.getElem?_eq_some_iff.mp h).1
  have e1 : R.set i (r ++ [pr]) = R.take i ++ [r ++ [pr]] ++ R.drop (i + 1) := by rw [List.set_eq_take_append_cons_drop, if_pos hi]; simp
  have e2 : R = R.take i ++ [r] ++ R.drop (i + 1) := by rw [← take_snocF h, List.take_append_drop]
  have e3 : kall R = kall (R.take i) ++ r.map (·.1) ++ kall (R.drop (i + 1)) := by
    have := congrArg kall e2
    rw [kall_app, kall_app, kall_one] at this
    exact this
  rw [e1, e3, kall_app, kall_app, kall_one, List.map_append]
  show (kall (R.take i) ++ (r.map (·.1) ++ [pr.1]) ++ kall (R.drop (i + 1))).Perm _
  rw [← List.append_assoc, List.append_assoc, List.singleton_append]
  exact List.perm_middle
noncomputable def InPl (f m mv : Int) (R : MRows) : Prop := ∀ (i : Nat) (r : MRow), R[i]? = some r → ∀ x ∈ r, (x.1 * f + m) % 65536 % (R.length : Int) = i ∧ ¬ (i : Int) < mv
theorem InPl.set {f m mv : Int} {R : MRows} {i : Nat} {r : MRow} {pr : Int × Int} (h : InPl f m mv R) (hr : R[i]? = some r) (h1 : (pr.1 * f + m) % 65536 % (R.length : Int) = i) (h2 : ¬ (i : Int) < mv) : InPl f m mv (R.set i (r ++ [pr])) := by
  have hi : i < R.length := (List.getElem?_eq_some_iff.mp hr).1
  intro j r' e x hx
  rw [List.length_set]
  by_cases z : i = j
  · subst z
    rw [List.getElem?_set_self hi] at e
    cases e
    rcases List.mem_append.mp hx with y | y
    · exact h i r hr x y
    · rw [List.mem_singleton.mp y]; exact ⟨h1, h2⟩
  · rw [List.getElem?_set_ne z] at e
    exact h j r' e x hx
theorem firstP_none {f m : Int} {sz : Bool → Nat} {mv : Bool → Int} : ∀ (ts : List Trip) (ks : List Int), (∀ t ∈ ts, (t.2.2 * f + m) % 65536 % (sz t.1 : Int) = t.2.1 ∧ ¬ (t.2.1 : Int) < mv t.1) → (ks ++ ts.map (·.2.2)).Nodup → firstP f m sz mv ks ts = none
  | [], _, _, _ => rfl
  | (sh, i, k) :: ts, ks, h, nd => by
    have h0 := h (sh, i, k) (List.mem_cons_self ..)
    have h1 : (k * f + m) % 65536 % (sz sh : Int) = i := h0.1
    have h2 : ¬ (i : Int) < mv sh := h0.2
    rw [firstP_cons, if_neg (fun z => z h1), if_neg h2]
    have e : ks ++ ((sh, i, k) :: ts).map (·.2.2) = (ks ++ [k]) ++ ts.map (·.2.2) := by rw [List.map_cons, List.append_assoc]; rfl
    rw [e] at nd
    have h3 : k ∉ ks := fun z => by
      have nd2 := (List.nodup_append.mp nd).1
      exact (List.nodup_append.mp nd2).2.2 k z k (List.mem_singleton.mpr rfl) rfl
    rw [if_neg h3]
    exact firstP_none ts _ (fun t ht => h t (List.mem_cons_of_mem _ ht)) nd
theorem tripF_inpl {f m mv : Int} {R : MRows} (h : InPl f m mv R) (sh : Bool) : ∀ t ∈ tripF sh 0 R, (t.2.2 * f + m) % 65536 % (R.length : Int) = t.2.1 ∧ ¬ (t.2.1 : Int) < mv := by
  have gen : ∀ (A : MRows) (i : Nat), (∀ j r, A[j]? = some r → R[i + j]? = some r) → ∀ t ∈ tripF sh i A, (t.2.2 * f + m) % 65536 % (R.length : Int) = t.2.1 ∧ ¬ (t.2.1 : Int) < mv := by
    intro A
    induction A with
    | nil => intro i _ t ht; cases ht
    | cons r A ih =>
      intro i hA t ht
      rcases List.mem_append.mp (show t ∈ tripR sh i r ++ tripF sh (i + 1) A from ht) with z | z
      · obtain ⟨x, hx, rfl⟩ := List.mem_map.mp z
        exact h i r (hA 0 r rfl) x hx
      · exact ih (i + 1) (fun j r' e => by have := hA (j + 1) r' e; rw [show i + 1 + j = i + (j + 1) by omega]; exact this) t z
  exact gen R 0 fun j r e => by rw [Nat.zero_add]; exact e
theorem right_of {f m : Int} {S : Sta} (h1 : rightP S = true) (h2 : rightM S = true) (h3 : InPl f m S.mv (S.el.getD [])) (h4 : InPl f m 0 S.nw) (h5 : (kall (S.el.getD []) ++ kall S.nw).Nodup) : faultOf f m S = none := by
  unfold faultOf
  rw [if_neg (by rw [h1]; intro z; cases z), if_neg (by rw [h2]; intro z; cases z)]
  refine firstP_none _ _ (fun t ht => ?_) ?_
  · rcases List.mem_append.mp ht with z | z
    · have := tripF_inpl h3 true t z
      rw [(mem_tripF z).1]
      exact this
    · have := tripF_inpl h4 false t z
      rw [(mem_tripF z).1]
      exact this
  · rw [List.nil_append]
    unfold tripS
    rw [List.map_append, tripF_keys, tripF_keys]
    exact h5
noncomputable def spTabSt : Sp := fun vs H Q _ => ∃ (p t : Addr) (f m : Int), vs = [.ref p, .ref t] ∧ Row H p ∧ H t = some (.tup [.int f, .int m]) ∧ (0 ≤ f ∧ f ≤ 65535) ∧ ∀ v' H' S, StV H' v' S → SzS 64 S → faultOf f m S = none → Row H' p → KeepBut p H H' → Q v' H'
theorem wTabSt {H : Hp} {Q : VK} {E : XK} {p t : Addr} {f m : Int} (h1 : Row H p) (h2 : H t = some (.tup [.int f, .int m])) (h3 : 0 ≤ f ∧ f ≤ 65535) (k : ∀ v' H' S, StV H' v' S → SzS 64 S → faultOf f m S = none → Row H' p → KeepBut p H H' → Q v' H') : spTabSt ([.ref p, .ref t] ++ []) H Q E := ⟨p, t, f, m, rfl, h1, h2, h3, k⟩
theorem LR.bare {H : Hp} {D : Addr} {ls : List Addr} {n : Nat} (h1 : H D = some (.lst (ls.map V.ref))) (h2 : ls.length = n) (nd : ls.Nodup) (g : ∀ y ∈ ls, H y = some (.lst []) ∧ y ≠ D) : LR H D (List.replicate n []) ls :=
  ⟨h1, by rw [h2, List.length_replicate], nd, fun z => (g D z).2 rfl, fun i y r e1 e2 => by
    have er : r = [] := List.eq_of_mem_replicate (List.mem_of_getElem? e2)
    subst er
    exact ⟨[], (g y (List.mem_of_getElem? e1)).1, .nil⟩⟩
theorem inpl_bare {f m mv : Int} (n : Nat) : InPl f m mv (List.replicate n []) := fun i r e x hx => by
  have er : r = [] := List.eq_of_mem_replicate (List.mem_of_getElem? e)
  subst er
  cases hx
theorem kall_bare (n : Nat) : kall (List.replicate n []) = [] := by
  induction n with
  | zero => rfl
  | succ n ih => rw [List.replicate_succ]; show [] ++ kall (List.replicate n []) = []; rw [ih]; rfl
structure TV where
  R : Nat → MRows
  ks : List Int
structure TI_ (H0 : Hp) (p rl sd : Addr) (n : Nat) (q : Nat → Addr) (ls : Nat → List Addr) (sz : Nat → Nat) (f m mv : Int) (i : Nat) (x : TV) (H : Hp) : Prop where
  t : TS H0 p rl n q ls x.R H
  sd : H sd = some (.dK (kbs x.ks))
  kl : x.ks.length ≤ i
  len : ∀ s, (x.R s).length = sz s
  p0 : InPl f m mv (x.R 0)
  p1 : InPl f m 0 (x.R 1)
  nd : (kall (x.R 0) ++ kall (x.R 1)).Nodup
  inn : ∀ k ∈ kall (x.R 0) ++ kall (x.R 1), k ∈ x.ks
  tt : tot (x.R 0) + tot (x.R 1) ≤ i
section
variable {H0 H H' : Hp} {p rl sd : Addr} {n : Nat} {q : Nat → Addr} {ls : Nat → List Addr} {sz : Nat → Nat} {f m mv : Int} {i : Nat} {x : TV}
theorem TI_.keepP (I : TI_ H0 p rl sd n q ls sz f m mv i x H) (R' : Row H' p) (k : KeepBut p H H') : TI_ H0 p rl sd n q ls sz f m mv i x H' :=
  ⟨I.t.keepP R' k, k _ _ (by obtain ⟨a, b, c, h, _⟩ := I.t.r; exact ne_of I.sd h (by intro z; cases z)) I.sd, I.kl, I.len, I.p0, I.p1, I.nd, I.inn, I.tt⟩
theorem TI_.same (I : TI_ H0 p rl sd n q ls sz f m mv i x H) (s : Same H H') : TI_ H0 p rl sd n q ls sz f m mv i x H' := I.keepP (I.t.r.same s) (SW.Same.but s)
theorem TI_.next (I : TI_ H0 p rl sd n q ls sz f m mv i x H) : TI_ H0 p rl sd n q ls sz f m mv (i + 1) x H := ⟨I.t, I.sd, Nat.le_succ_of_le I.kl, I.len, I.p0, I.p1, I.nd, I.inn, Nat.le_succ_of_le I.tt⟩
end
theorem perm_mid (a : Int) (A B : List Int) : (A ++ a :: B).Perm (a :: (A ++ B)) := List.perm_middle
theorem nodup_new {A B A' B' ks : List Int} {k : Int} (h : (A ++ B).Nodup) (hin : ∀ z ∈ A ++ B, z ∈ ks) (hk : k ∉ ks) (hp : (A' ++ B').Perm (k :: (A ++ B))) : (A' ++ B').Nodup ∧ ∀ z ∈ A' ++ B', z ∈ ks ++ [k] := by
  refine ⟨hp.nodup_iff.mpr (List.nodup_cons.mpr ⟨fun z => hk (hin k z), h⟩), fun z hz => ?_⟩
  rcases List.mem_cons.mp (hp.mem_iff.mp hz) with rfl | y
  · exact List.mem_append_right _ (List.mem_singleton.mpr rfl)
  · exact List.mem_append_left _ (hin z y)
section
variable {P : Program} {w : World} {K : PySem.W.Frag} {mg : Str → Option Value} {base : Heap} 
theorem F_tabSt (d : Dfn K mg "_law_table_state" s_law_table_state ["row", "mixer"]) (g : Gs K mg) (F_law_take : Fn P w K mg base "_law_take" 1 ["row", "many"] spTake) (F_law_key : Fn P w K mg base "_law_key" 2 ["row"] spKey) (F_law_worth : Fn P w K mg base "_law_worth" 2 ["row"] spWorth) : Fn P w K mg base "_law_table_state" 3 ["row", "mixer"] spTabSt := by
  refine d.fn sc_law_table_state (fun vs H Q E h => ?_) (fun f cdv A outer s H vs Q E hr h => ?_)
  · obtain ⟨p, t, f, m, rfl, _⟩ := h
    rfl
  · obtain ⟨p, t, fa, mo, rfl, hp, ht, hf, k⟩ := h
    have lim : sizeLine = 16777216 := sizeLine_eq
    refine ⟨_, (B.scons (B.set 2 sc_law_table_state.nd (B.ix ix_list (B.lst (B.cons B.int (B.cons B.int (B.cons B.int (B.cons B.int B.nil))))) (B.fn F_law_take (hr.mono (by first | decide | omega)) (B.cons (B.v 0) (B.cons B.int B.nil)))))
      (B.scons (B.set 3 sc_law_table_state.nd (B.ix ix_list (B.lst (B.cons B.non (B.cons (B.op op_mul B.int (B.v 2)) (B.cons (B.op op_fdivL (B.v 2) B.int) B.nil)))) (B.fn F_law_take (hr.mono (by first | decide | omega)) (B.cons (B.v 0) (B.cons B.int B.nil)))))
      (B.scons (B.ifs (B.tcmp op_eq (B.v 3) B.int) (B.sone (B.set 3 sc_law_table_state.nd B.int)) B.snil)
      (B.scons (B.set 4 sc_law_table_state.nd B.int)
      (B.scons (B.set 5 sc_law_table_state.nd (B.lst (B.cons (SW.B.comp [] ["place"] (SW.CompScope.of rfl rfl (by decide +kernel) (by decide +kernel) rfl trivial rfl rfl rfl) (by decide +kernel) (B.irange g.b_range (B.cons (B.v 2) B.nil)) (fun _ _ _ _ => (B.lst B.nil))) B.nil)))
      (B.scons (B.ifs (B.tcmp op_notN (B.v 3) B.non) (B.scons (B.set 4 sc_law_table_state.nd (B.fn F_law_take (hr.mono (by first | decide | omega)) (B.cons (B.v 0) (B.cons (B.v 2) B.nil))))
      (B.sone (B.expr (B.m PySem.F.plainAttrs_list PySem.F.slot_list_append PySem.F.type_list_append mt_append (B.v 5) (B.cons (SW.B.comp [] ["place"] (SW.CompScope.of rfl rfl (by decide +kernel) (by decide +kernel) rfl trivial rfl rfl rfl) (by decide +kernel) (B.irange g.b_range (B.cons (B.v 3) B.nil)) (fun _ _ _ _ => (B.lst B.nil))) B.nil))))) B.snil)
      (B.scons (B.set 6 sc_law_table_state.nd B.dnew)
      (B.scons (B.fors (B.irange g.b_range (B.cons (B.fn F_law_take (hr.mono (by first | decide | omega)) (B.cons (B.v 0) (B.cons (B.ix ix_list (B.lst (B.cons B.int (B.cons B.int B.nil))) (B.fn F_law_take (hr.mono (by first | decide | omega)) (B.cons (B.v 0) (B.cons B.int B.nil)))) B.nil))) B.nil)) (B.gname (i := 7) sc_law_table_state.nd) (B.scons (B.set 8 sc_law_table_state.nd (B.fn F_law_key (hr.mono (by first | decide | omega)) (B.cons (B.v 0) B.nil)))
      (B.scons (B.set 9 sc_law_table_state.nd (B.op op_mod (B.op op_add (B.op op_mul (B.v 8) (B.ix ix_tup (B.v 1) B.int)) (B.ix ix_tup (B.v 1) B.int)) B.int))
      (B.scons (B.set 10 sc_law_table_state.nd (B.fn F_law_take (hr.mono (by first | decide | omega)) (B.cons (B.v 0) (B.cons (B.cB call_len_seq g.b_len SW.b_len (B.cons (B.v 5) B.nil)) B.nil))))
      (B.scons (B.ifs (B.tw (B.wand (B.tcmp op_eq (B.v 10) B.int) (B.wand1 (B.tcmp op_lt (B.op op_mod (B.v 9) (B.v 2)) (B.v 4))))) (B.sone (B.set 10 sc_law_table_state.nd B.int)) B.snil)
      (B.sone (B.ifs (B.tdnotin (hu_of hr) (B.v 8) (B.v 6)) (B.scons (B.dput (hu_of hr) (B.v 6) (B.v 8) B.bl)
      (B.sone (B.expr (B.m PySem.F.plainAttrs_list PySem.F.slot_list_append PySem.F.type_list_append mt_append (B.ix ix_list (B.ix ix_list (B.v 5) (B.v 10)) (B.op op_mod (B.v 9) (B.cB call_len_seq g.b_len SW.b_len (B.cons (B.ix ix_list (B.v 5) (B.v 10)) B.nil)))) (B.cons (B.tup (B.cons (B.v 8) (B.cons (B.fn F_law_worth (hr.mono (by first | decide | omega)) (B.cons (B.v 0) B.nil)) B.nil))) B.nil))))) B.snil)))))))
      (B.scons (SW.B.compSet 11 [] ["shelf"] (SW.CompScope.of rfl rfl (by decide +kernel) (by decide +kernel) rfl trivial rfl rfl rfl) (by decide +kernel) sc_law_table_state.nd (B.ilist (B.v 5)) (fun _ _ _ _ => (B.cT (SW.call_tupleK K) g.b_tuple SW.b_tuple (B.cons (SW.B.comp [] ["one"] (SW.CompScope.of rfl rfl (by decide +kernel) (by decide +kernel) rfl trivial rfl rfl rfl) (by decide +kernel) (SW.B.ilistK K (B.v 0)) (fun _ _ _ _ => (B.cT (SW.call_tupleK K) g.b_tuple SW.b_tuple (B.cons (B.v 0) B.nil)))) B.nil))))
      (B.scons (B.ifs (B.tcmp op_eq (B.cB call_len_seq g.b_len SW.b_len (B.cons (B.v 11) B.nil)) B.int) (B.sone (B.ret (B.tup (B.cons B.non (B.cons B.int (B.cons (B.ix ix_list (B.v 11) B.int) B.nil)))))) B.snil)
      (B.sone (B.ret (B.tup (B.cons (B.ix ix_list (B.v 11) B.int) (B.cons (B.v 4) (B.cons (B.ix ix_list (B.v 11) B.int) B.nil)))))))))))))))), ?_⟩
    walk_at "W"
    refine ⟨by show (4 : Nat) ≤ sizeLine; decide, fun L1 hL1 => ?_⟩
    have i1 := Same.new (o := .lst [.int 4, .int 8, .int 16, .int 32]) hL1
    have nL1 : L1 ≠ p := (hp.ne0 hL1).symm
    walk_at "W"
    refine wTake (hp.same i1) (by decide) (by decide) fun r1 H1 a1 b1 R1 K1 => ?_
    first | (have zz_ := atI_in (xs := [V.int 4, .int 8, .int 16, .int 32]) a1 b1; have vz := zz_.1; have hvz := zz_.2.1; have hmz := zz_.2.2; clear zz_) | obtain ⟨vz, hvz, hmz⟩ := atI_in (xs := [V.int 4, .int 8, .int 16, .int 32]) a1 b1
    obtain ⟨n0, rfl, hn0⟩ : ∃ n0 : Nat, vz = V.int (n0 : Int) ∧ (n0 = 4 ∨ n0 = 8 ∨ n0 = 16 ∨ n0 = 32) := by
      simp only [List.mem_cons, List.not_mem_nil, or_false] at hmz
      rcases hmz with rfl | rfl | rfl | rfl
      · exact ⟨4, rfl, .inl rfl⟩
      · exact ⟨8, rfl, .inr (.inl rfl)⟩
      · exact ⟨16, rfl, .inr (.inr (.inl rfl))⟩
      · exact ⟨32, rfl, .inr (.inr (.inr rfl))⟩
    refine wIxL (K1 _ _ nL1 upd_same) hvz ?_
    have K01 := (SW.Same.but (p := p) i1).trans K1
    walk_at "W"
    refine ⟨by show (3 : Nat) ≤ sizeLine; decide, fun L2 hL2 => ?_⟩
    have i2 := Same.new (o := .lst [.non, .int (2 * (n0 : Int)), .int ((n0 : Int) / 2)]) hL2
    have nL2 : L2 ≠ p := (R1.ne0 hL2).symm
    walk_at "W"
    refine wTake (R1.same i2) (by decide) (by decide) fun r2 H2 a2 b2 R2 K2 => ?_
    have K02 := (K01.trans (SW.Same.but (p := p) i2)).trans K2
    first | (have zz_ := atI_in (xs := [V.non, .int (2 * (n0 : Int)), .int ((n0 : Int) / 2)]) a2 b2; have vo := zz_.1; have hvo := zz_.2.1; have hmo := zz_.2.2; clear zz_) | obtain ⟨vo, hvo, hmo⟩ := atI_in (xs := [V.non, .int (2 * (n0 : Int)), .int ((n0 : Int) / 2)]) a2 b2
    refine wIxL (K2 _ _ nL2 upd_same) hvo ?_
    walk_at "W"
    rename_i N1 hN1
    have rest1 : ∀ o : Option Nat, (∀ x, o = some x → isSize x ∧ (x = 2 * n0 ∨ n0 = 2 * x) ∧ x ≤ 64) → N1 [some (.ref p), some (.ref t), some (.int (n0 : Int)), some (oN o), none, none, none, none, none, none, none, none] H2 := by
      intro o ho
      refine SW.wGo hN1 ?_
      walk_at "W"
      refine ⟨(n0 : Int), rfl, by omega, by omega, fun D hD => ?_⟩
      refine comp_rangeU (fun i σ' H' => ∃ (ls : List Addr) (v : Option V), σ' = [v] ∧ ls.length = i ∧ H' D = some (.lst (ls.map V.ref)) ∧ ls.Nodup ∧ (∀ y ∈ ls, H' y = some (.lst []) ∧ H2 y = none ∧ y ≠ D) ∧ Same H2 H') ⟨[], none, rfl, rfl, upd_same, List.nodup_nil, fun y hy => (List.not_mem_nil hy).elim, Same.new hD⟩ ?_ ?_
      · rintro i σ' H' hi ⟨ls, v, rfl, hl, g1, nd, g2, s'⟩
        refine ⟨by show (0 : Nat) ≤ sizeLine; decide, fun y hy => ?_⟩
        have nyD : D ≠ y := ne_of_none g1 hy
        have nin : y ∉ ls := fun z => by
          have := (g2 y z).1
          rw [hy] at this
          cases this
        refine CN.mk hi (ys := ls.map V.ref) (by rw [upd_ne nyD]; exact g1) (by rw [List.length_map]; omega) ⟨ls ++ [y], _, rfl, by rw [List.length_append, hl]; rfl, by rw [upd_same, List.map_append]; rfl, nd_snoc nd nin, fun z hz => ?_, fun b o e => ?_⟩
        · rcases List.mem_append.mp hz with hz | hz
          · first | (have zz_ := g2 z hz; have c1 := zz_.1; have c2 := zz_.2.1; have c3 := zz_.2.2; clear zz_) | obtain ⟨c1, c2, c3⟩ := g2 z hz
            refine ⟨?_, c2, c3⟩
            rw [upd_ne c3, upd_ne (fun e : z = y => nin (e ▸ hz))]; exact c1
          · rw [List.mem_singleton.mp hz]
            exact ⟨by rw [upd_ne nyD.symm, upd_same], s'.free hy, nyD.symm⟩
        · rw [upd_ne (ne_of_none e hD), upd_ne (ne_of_none (s' b o e) hy)]
          exact s' b o e
      · rintro σ' H3 ⟨l0, v, rfl, hl0, g1, nd0, g2, s3⟩
        have hl0 : l0.length = n0 := by
          have : l0.length = (n0 : Int).toNat := hl0
          omega
        walk_at "W"
        refine ⟨by show (1 : Nat) ≤ sizeLine; decide, fun rl hrl => ?_⟩
        have i4 := Same.new (o := .lst [.ref D]) hrl
        have s24 := s3.trans i4
        have R4 := R2.same s24
        have K04 := K02.trans (SW.Same.but (p := p) s24)
        have fr2 : ∀ y, H2 y = none → y ≠ p ∧ H y = none := fun y hy => ⟨(R2.ne0 hy).symm, by
          cases e : H y with
          | none => rfl
          | some o => rw [K02 y o (R2.ne0 hy).symm e] at hy; cases hy⟩
        have nrp : rl ≠ p := ((R2.same s3).ne0 hrl).symm
        have nDp : D ≠ p := (fr2 D hD).1
        have lr0 : LR (upd H3 rl (.lst [.ref D])) D (List.replicate n0 []) l0 := (LR.bare g1 hl0 nd0 fun y hy => ⟨(g2 y hy).1, (g2 y hy).2.2⟩).same i4
        have nrl : ∀ y ∈ l0, y ≠ rl := fun y hy => ne_of_none (g2 y hy).1 hrl
        have nDl : ∀ y ∈ l0, y ≠ D := fun y hy => (g2 y hy).2.2
        have live4 : ∀ y ∈ l0, upd H3 rl (.lst [.ref D]) y = some (.lst []) := fun y hy => i4 _ _ (g2 y hy).1
        have fr0 : ∀ y ∈ l0, y ≠ p ∧ H y = none := fun y hy => fr2 y (g2 y hy).2.1
        have eD4 := i4 _ _ g1
        have erl := upd_same (H := H3) (a := rl) (o := .lst [.ref D])
        obtain ⟨H4, hH4⟩ : ∃ H4, H4 = upd H3 rl (.lst [.ref D]) := ⟨_, rfl⟩
        rw [← hH4] at R4 K04 lr0 live4 eD4 erl ⊢
        clear hH4 i4 s24 g1 g2
        walk_at "W"
        rename_i N2 hN2
        have rest2 : ∀ (H' : Hp) (n : Nat) (q : Nat → Addr) (ls : Nat → List Addr) (sz : Nat → Nat) (mv : Int), (n = 1 ∧ o = none ∧ mv = 0 ∧ sz 1 = 0 ∨ n = 2 ∧ o = some (sz 1) ∧ 0 ≤ mv ∧ mv < n0) → sz 0 = n0 → TS H p rl n q ls (fun s => List.replicate (sz s) []) H' → N2 [some (.ref p), some (.ref t), some (.int (n0 : Int)), some (oN o), some (.int mv), some (.ref rl), none, none, none, none, none, none] H' := by
          intro H' n q ls sz mv hcase hsz0 T
          have hn2 : n = 1 ∨ n = 2 := by omega
          have hmv : 0 ≤ mv ∧ mv < n0 := by omega
          have hsz64 : ∀ s, s < n → sz s ≤ 64 := fun s hs => by
            rcases (show s = 0 ∨ s = 1 by omega) with rfl | rfl
            · omega
            · rcases hcase with y | y
              · omega
              · exact (ho (sz 1) y.2.1).2.2
          refine SW.wGo hN2 ?_
          walk_at "W"
          intro sd hsd
          have nsp : sd ≠ p := (T.r.ne0 hsd).symm
          have sd0 : H sd = none := by
            cases e : H sd with
            | none => rfl
            | some o => rw [T.k sd o nsp e] at hsd; cases hsd
          have Ta := T.same (Same.new (o := .dK []) hsd)
          have esd := upd_same (H := H') (a := sd) (o := .dK [])
          obtain ⟨Ha, hHa⟩ : ∃ Ha, Ha = upd H' sd (.dK []) := ⟨_, rfl⟩
          rw [← hHa] at Ta esd ⊢
          clear hHa
          walk_at "W"
          refine ⟨by show (2 : Nat) ≤ sizeLine; decide, fun L3 hL3 => ?_⟩
          have i3 := Same.new (o := .lst [.int 6, .int 40]) hL3
          have nL3 : L3 ≠ p := (Ta.r.ne0 hL3).symm
          have Tb := Ta.same i3
          walk_at "W"
          refine wTake Tb.r (by decide) (by decide) fun r3 Hb a3 b3 Rb Kb => ?_
          have Tc := Tb.keepP Rb Kb
          first | (have zz_ := atI_in (xs := [V.int 6, .int 40]) a3 b3; have vc := zz_.1; have hvc := zz_.2.1; have hmc := zz_.2.2; clear zz_) | obtain ⟨vc, hvc, hmc⟩ := atI_in (xs := [V.int 6, .int 40]) a3 b3
          obtain ⟨cc, rfl, hcc⟩ : ∃ cc : Int, vc = V.int cc ∧ (cc = 6 ∨ cc = 40) := by
            simp only [List.mem_cons, List.not_mem_nil, or_false] at hmc
            rcases hmc with rfl | rfl
            · exact ⟨6, rfl, .inl rfl⟩
            · exact ⟨40, rfl, .inr rfl⟩
          refine wIxL (Kb _ _ nL3 upd_same) hvc ?_
          walk_at "W"
          refine wTake Tc.r (by omega) (by omega) fun c Hc c0 c1 Rc Kc => ?_
          have Td := Tc.keepP Rc Kc
          have esd' := Kc _ _ nsp (Kb _ _ nsp (i3 _ _ esd))
          walk_at "W"
          refine ⟨c, rfl, by omega, by omega, ?_⟩
          refine SW.forRangeC (fun i σ H3 => ∃ (x : TV) (v7 v8 v9 v10 : Option V), σ = [some (.ref p), some (.ref t), some (.int (n0 : Int)), some (oN o), some (.int mv), some (.ref rl), some (.ref sd), v7, v8, v9, v10, none] ∧ TI_ H p rl sd n q ls sz fa mo mv i x H3) ⟨⟨fun s => List.replicate (sz s) [], []⟩, none, none, none, none, rfl, ⟨Td, esd', Nat.le_refl _, fun s => List.length_replicate, inpl_bare _, inpl_bare _, by rw [kall_bare, kall_bare]; exact List.nodup_nil, fun k hk => (by rw [kall_bare, kall_bare] at hk; cases hk), by rw [tot_bare, tot_bare]; exact Nat.le_refl _⟩⟩ ?_ ?_
          · rintro i σ H3 hi ⟨x, v7, v8, v9, v10, rfl, I⟩
            have hi40 : i < 40 := by
              have : i < c.toNat := hi
              omega
            walk_at "W"
            refine wKey I.t.r fun ky H4 _ _ R4 K4 => ?_
            have I4 := I.keepP R4 K4
            have ht4 := I4.t.k _ _ (hp.ne ht) ht
            walk_at "W"
            refine SW.iLen (.inl (SqL.of I4.t.top)) ?_
            walk_at "W"
            rw [List.length_map, List.length_range]
            refine wTake I4.t.r (by omega) (by omega) fun at_ H5 a0 a1 R5 K5 => ?_
            have I5 := I4.keepP R5 K5
            have hmk : 0 ≤ (ky * fa + mo) % 65536 := Int.emod_nonneg _ (by decide)
            walk_at "W"
            rename_i N3 hN3
            have rest3 : ∀ s : Nat, s < n → (s = 0 → ¬ (ky * fa + mo) % 65536 % (n0 : Int) < mv) → N3 [some (.ref p), some (.ref t), some (.int (n0 : Int)), some (oN o), some (.int mv), some (.ref rl), some (.ref sd), some (.int (0 + (i : Int))), some (.int ky), some (.int ((ky * fa + mo) % 65536)), some (.int (s : Int)), none] H5 := by
              intro s hs hs0
              have hszs : 0 < sz s := by
                rcases hn2 with e | e
                · have : s = 0 := by omega
                  subst this; omega
                · by_cases z : s = 0
                  · subst z; omega
                  · have : s = 1 := by omega
                    subst this
                    rcases hcase with y | y
                    · omega
                    · have := (ho (sz 1) y.2.1).1
                      unfold isSize at this
                      simp only [List.mem_cons, List.not_mem_nil, or_false] at this
                      omega
              refine SW.wGo hN3 ?_
              walk_at "W"
              refine ⟨sd, _, rfl, DGet.k (k := Sum.inl ky) I5.sd, ?_⟩
              walk_at "W"
              rw [valV_kbs]
              by_cases hk : ky ∈ x.ks
              · rw [decide_eq_true hk]
                refine iteF ?_
                walk_at "W"
                exact ⟨x, _, _, _, _, rfl, I5.next⟩
              · rw [decide_eq_false hk]
                refine iteT ?_
                walk_at "W"
                refine ⟨sd, _, rfl, DPut.k (k := Sum.inl ky) I5.sd (by rw [kbs_len]; have := I5.kl; omega), ?_⟩
                rw [putK_kbs hk]
                have T6 := I5.t.keepD (kv' := kbs (x.ks ++ [ky])) I5.sd sd0
                have esd6 := upd_same (H := H5) (a := sd) (o := .dK (kbs (x.ks ++ [ky])))
                obtain ⟨H6, hH6⟩ : ∃ H6, H6 = upd H5 sd (.dK (kbs (x.ks ++ [ky]))) := ⟨_, rfl⟩
                rw [← hH6] at T6 esd6 ⊢
                clear hH6
                have ixs : atI ((List.range n).map fun s => V.ref (q s)) (s : Int) = some (.ref (q s)) := atI_nat (by rw [List.getElem?_map, List.getElem?_range hs]; rfl)
                have lrs := T6.lr s hs
                have hll : (ls s).length = sz s := by rw [lrs.len]; exact I5.len s
                obtain ⟨j, hj⟩ : ∃ j, j = plc fa mo (sz s) ky := ⟨_, rfl⟩
                have hjI : (ky * fa + mo) % 65536 % (sz s : Int) = (j : Int) := by rw [hj]; exact (plc_int hszs).symm
                have hjl : j < sz s := by rw [hj]; exact plc_lt hszs
                first | (have zz_ := lrs.place (i := j) (by rw [I5.len s]; exact hjl); have l := zz_.1; have ys := zz_.2.1; have e1 := zz_.2.2.1; have e2 := zz_.2.2.2.1; have e3 := zz_.2.2.2.2; clear zz_) | obtain ⟨l, ys, e1, e2, e3⟩ := lrs.place (i := j) (by rw [I5.len s]; exact hjl)
                have hrj : (x.R s)[j]? = some ((x.R s).getD j []) := getD_get (by rw [I5.len s]; exact hjl)
                obtain ⟨r, hr_⟩ : ∃ r, r = (x.R s).getD j [] := ⟨_, rfl⟩
                rw [← hr_] at e3 hrj
                have hrl : r.length ≤ i := by
                  have h3 := tot_take (x.R s) (j + 1)
                  rw [take_snocF hrj, tot_app] at h3
                  have h4 : tot [r] = r.length := by unfold tot; simp
                  have h5 := I5.tt
                  rcases (show s = 0 ∨ s = 1 by omega) with rfl | rfl <;> omega
                walk_at "W"
                refine wBM ?_
                walk_at "W"
                refine wIxL T6.top ixs ?_
                walk_at "W"
                refine wIxL T6.top ixs ?_
                refine SW.iLen (.inl (SqL.of lrs.top)) ?_
                walk_at "W"
                rw [List.length_map, hll]
                refine wMod (by omega) ?_
                rw [hjI]
                refine wIxL lrs.top (v := .ref l) (atI_nat (by rw [List.getElem?_map, e1]; rfl)) ?_
                refine ⟨.inl ⟨rfl, _, SqL.of e2⟩, ?_⟩
                walk_at "W"
                refine wWorth T6.r fun wo H7 _ _ R7 K7 => ?_
                have T7 := T6.keepP R7 K7
                walk_at "W"
                refine ⟨by show (2 : Nat) ≤ sizeLine; decide, fun tp htp => ?_⟩
                have i8 := Same.new (o := .tup [.int ky, .int wo]) htp
                have T8 := T7.same i8
                have hm := List.mem_of_getElem? e1
                have e28 := i8 _ _ (K7 _ _ (T6.x3 s hs l hm).2.1 e2)
                have e38 := (e3.keep (rowTK T6.r K7)).keep (SW.Same.tk i8)
                have esd8 := i8 _ _ (K7 _ _ nsp esd6)
                have nsl : sd ≠ l := ne_of esd8 e28 (by intro z; cases z)
                have hyl := e3.len
                have T9 := T8.set (xs := ys ++ [.ref tp]) (r := r ++ [(ky, wo)]) hs e1 (paired_append (.cons ⟨tp, rfl, upd_same⟩ .nil) e38)
                walk_at "W"
                refine ⟨l, ys, .ref tp, rfl, rfl, e28, by omega, ?_⟩
                walk_at "W"
                have nw : s = 0 ∨ s = 1 := by omega
                have ts := tot_set (r := r ++ [(ky, wo)]) hrj
                rw [List.length_append] at ts
                have ts : tot ((x.R s).set j (r ++ [(ky, wo)])) = tot (x.R s) + 1 := by
                  have : (r.length + [(ky, wo)].length) = r.length + 1 := rfl
                  omega
                have hkl := I5.kl
                have htt := I5.tt
                refine ⟨⟨fun s' => if s' = s then (x.R s).set j (r ++ [(ky, wo)]) else x.R s', x.ks ++ [ky]⟩, _, _, _, _, rfl, ⟨T9, by rw [upd_ne nsl]; exact esd8, by rw [List.length_append]; exact Nat.succ_le_succ hkl, fun s' => ?_, ?_, ?_, ?_, ?_, ?_⟩⟩
                · show (if s' = s then (x.R s).set j (r ++ [(ky, wo)]) else x.R s').length = sz s'
                  by_cases e : s' = s
                  · rw [if_pos e, List.length_set, e]; exact I5.len s
                  · rw [if_neg e]; exact I5.len s'
                · rcases nw with rfl | rfl
                  · show InPl fa mo mv (if (0 : Nat) = 0 then (x.R 0).set j (r ++ [(ky, wo)]) else x.R 0)
                    rw [if_pos rfl]
                    refine I5.p0.set hrj (by rw [I5.len 0]; exact hjI) ?_
                    rw [hsz0] at hjI
                    rw [← hjI]
                    exact hs0 rfl
                  · exact I5.p0
                · rcases nw with rfl | rfl
                  · exact I5.p1
                  · show InPl fa mo 0 (if (1 : Nat) = 1 then (x.R 1).set j (r ++ [(ky, wo)]) else x.R 1)
                    rw [if_pos rfl]
                    exact I5.p1.set hrj (by rw [I5.len 1]; exact hjI) (by omega)
                · rcases nw with rfl | rfl
                  · exact (nodup_new I5.nd I5.inn hk (by show (kall ((x.R 0).set j (r ++ [(ky, wo)])) ++ kall (x.R 1)).Perm _; exact ((kall_set hrj).append_right _))).1
                  · exact (nodup_new I5.nd I5.inn hk (by show (kall (x.R 0) ++ kall ((x.R 1).set j (r ++ [(ky, wo)]))).Perm _; exact ((kall_set hrj).append_left _).trans (perm_mid _ _ _))).1
                · rcases nw with rfl | rfl
                  · exact (nodup_new I5.nd I5.inn hk (by show (kall ((x.R 0).set j (r ++ [(ky, wo)])) ++ kall (x.R 1)).Perm _; exact ((kall_set hrj).append_right _))).2
                  · exact (nodup_new I5.nd I5.inn hk (by show (kall (x.R 0) ++ kall ((x.R 1).set j (r ++ [(ky, wo)]))).Perm _; exact ((kall_set hrj).append_left _).trans (perm_mid _ _ _))).2
                · rcases nw with rfl | rfl
                  · show tot ((x.R 0).set j (r ++ [(ky, wo)])) + tot (x.R 1) ≤ _
                    omega
                  · show tot (x.R 0) + tot ((x.R 1).set j (r ++ [(ky, wo)])) ≤ _
                    omega
            clear hN3
            by_cases h0 : at_ = 0
            · refine iteY (by rw [h0]) ?_
              walk_at "W"
              by_cases h1 : (ky * fa + mo) % 65536 % (n0 : Int) < mv
              · refine iteY h1 ?_
                walk_at "W"
                have h2 : n = 2 := by
                  rcases hcase with y | y
                  · have : 0 ≤ (ky * fa + mo) % 65536 % (n0 : Int) := Int.emod_nonneg _ (by omega)
                    omega
                  · exact y.1
                exact rest3 1 (by omega) (fun z => by omega)
              · refine iteNo h1 ?_
                walk_at "W"
                have := rest3 0 (by omega) (fun _ => h1)
                rw [h0]
                exact this
            · refine iteNo (fun z => h0 (by injection z)) ?_
              refine iteF ?_
              walk_at "W"
              obtain ⟨sa, rfl⟩ := Int.eq_ofNat_of_zero_le a0
              exact rest3 sa (by omega) (fun z => absurd (by rw [z]; rfl) h0)
          · rintro σ H8 ⟨x, v7, v8, v9, v10, rfl, I⟩
            have htt := I.tt
            have hc40 : c.toNat ≤ 40 := by omega
            walk_at "W"
            refine ⟨rl, rfl, ⟨_, SqL.of I.t.top⟩, fun D3 hD3 => ?_⟩
            refine comp_listU (xs := (List.range n).map fun s => V.ref (q s)) (fun i σ' H9 => ∃ (v : Option V) (zs : List V), σ' = [v] ∧ Same H8 H9 ∧ H9 D3 = some (.lst zs) ∧ Paired (RowsV H9) zs ((List.range i).map x.R) ∧ zs.length = i) ⟨none, [], rfl, Same.new hD3, upd_same, .nil, rfl⟩ (fun i σ' H9 _ ⟨_, _, _, s', _⟩ => SqL.of (s' _ _ I.t.top)) ?_ ?_
            · rintro s y σ' H9 hy hs ⟨v, zs, rfl, s9, hD9, hz, hzl⟩
              rw [List.length_map, List.length_range] at hs
              rw [List.getElem?_map, List.getElem?_range hs] at hy
              cases hy
              have lrs := I.t.lr s hs
              walk_at "W"
              refine ⟨q s, rfl, ⟨_, SqL.of (s9 _ _ lrs.top)⟩, fun D4 hD4 => ?_⟩
              refine comp_listU (xs := (ls s).map V.ref) (fun i σ' Hx => ∃ (v : Option V) (us : List V), σ' = [v] ∧ Same H9 Hx ∧ Hx D4 = some (.lst us) ∧ Paired (RowV Hx) us ((x.R s).take i) ∧ us.length = i) ⟨none, [], rfl, Same.new hD4, upd_same, by rw [List.take_zero]; exact .nil, rfl⟩ (fun i σ' Hx _ ⟨_, _, _, s', _⟩ => SqL.of (s' _ _ (s9 _ _ lrs.top))) ?_ ?_
              · rintro i y σ' Hx hy hi ⟨v, us, rfl, sx, hDx, hu, hul⟩
                rw [List.getElem?_map] at hy
                obtain ⟨l, hl, rfl⟩ := Option.map_eq_some_iff.mp hy
                have hil : i < (x.R s).length := by rw [← lrs.len]; exact (List.getElem?_eq_some_iff.mp hl).1
                first | (have zz_ := lrs.at_ i l _ hl (List.getElem?_eq_getElem hil); have ys := zz_.1; have c1 := zz_.2.1; have c3 := zz_.2.2; clear zz_) | obtain ⟨ys, c1, c3⟩ := lrs.at_ i l _ hl (List.getElem?_eq_getElem hil)
                have s8x := s9.trans sx
                walk_at "W"
                refine ⟨l, ys, rfl, .inl ⟨SqL.of (s8x _ _ c1), fun tt htt => ?_⟩⟩
                have n1 : tt ≠ D4 := (ne_of_none hDx htt).symm
                have tk : TK Hx (upd (upd Hx tt (.tup ys)) D4 (.lst (us ++ [.ref tt]))) := fun a ws e => by
                  rw [upd_ne (ne_of e hDx (by intro z; cases z))]
                  exact Same.new htt _ _ e
                refine CN.mk hi (by rw [upd_ne n1.symm]; exact hDx) (by rw [List.length_map, lrs.len, I.len s] at hi; rw [hul]; have : sz s ≤ 64 := hsz64 s hs; omega) ⟨_, us ++ [.ref tt], rfl, fun b o e => by rw [upd_ne (ne_of_none e hD4)]; exact Same.new htt _ _ (sx _ _ e), upd_same, ?_, by rw [List.length_append, hul]; rfl⟩
                rw [take_snocF (List.getElem?_eq_getElem hil)]
                exact paired_append (.cons ⟨tt, ys, rfl, by rw [upd_ne n1]; exact upd_same, (c3.keep (SW.Same.tk s8x)).keep tk⟩ .nil) (rows_keep hu tk)
              · rintro σ' Hx ⟨v, us, rfl, sx, hDx, hu, hul⟩
                rw [List.length_map, lrs.len, List.take_length] at hu
                walk_at "W"
                refine ⟨D4, us, rfl, .inl ⟨SqL.of hDx, fun tt htt => ?_⟩⟩
                have s8x := s9.trans sx
                have hDx3 := sx _ _ hD9
                have n1 : tt ≠ D3 := (ne_of_none hDx3 htt).symm
                have tk : TK Hx (upd (upd Hx tt (.tup us)) D3 (.lst (zs ++ [.ref tt]))) := fun a ws e => by
                  rw [upd_ne (ne_of e hDx3 (by intro z; cases z))]
                  exact Same.new htt _ _ e
                refine CN.mk (by rw [List.length_map, List.length_range]; exact hs) (by rw [upd_ne n1.symm]; exact hDx3) (by rw [hzl]; omega) ⟨_, zs ++ [.ref tt], rfl, fun b o e => by rw [upd_ne (ne_of_none e hD3)]; exact Same.new htt _ _ (s8x _ _ e), upd_same, ?_, by rw [List.length_append, hzl]; rfl⟩
                rw [List.range_succ, List.map_append]
                exact paired_append (.cons ⟨tt, us, rfl, by rw [upd_ne n1]; exact upd_same, rows_keep hu tk⟩ .nil) (Paired.mapP hz fun _ _ y => (y.keep (SW.Same.tk sx)).keep tk)
            · rintro σ' H9 ⟨v, zs, rfl, s9, hD9, hz, hzl⟩
              rw [List.length_map, List.length_range] at hz hzl
              have T9 := I.t.same s9
              have z0 : ∀ (s : Nat) (y : V), zs[s]? = some y → RowsV H9 y (x.R s) := fun s y e => by
                first | (have zz_ := paired_get hz e; have d := zz_.1; have e1 := zz_.2.1; have e2 := zz_.2.2; clear zz_) | obtain ⟨d, e1, e2⟩ := paired_get hz e
                have hs : s < n := by rw [← hzl]; exact (List.getElem?_eq_some_iff.mp e).1
                rw [List.getElem?_map, List.getElem?_range hs] at e1
                cases e1
                exact e2
              have l0 := I.len 0
              have l1 := I.len 1
              walk_at "W"
              refine SW.iLen (.inl (SqL.of hD9)) ?_
              walk_at "W"
              rw [hzl]
              rcases hcase with ⟨rfl, rfl, rfl, h1⟩ | ⟨rfl, ho2, h2, h3⟩
              · refine iteY rfl ?_
                have e0 : zs[0]? = some zs[0] := List.getElem?_eq_getElem (by omega)
                walk_at "W"
                refine wIxL hD9 (atI_nat (j := 0) e0) ?_
                walk_at "W"
                refine ⟨by show (3 : Nat) ≤ sizeLine; decide, fun q5 hq5 => ?_⟩
                have i5 := Same.new (o := .tup [.non, .int 0, zs[0]]) hq5
                have hR1 : x.R 1 = [] := List.eq_nil_of_length_eq_zero (by rw [l1]; exact h1)
                have nd := I.nd
                rw [hR1] at nd
                have nd : (kall (x.R 0) ++ []).Nodup := nd
                rw [List.append_nil] at nd
                refine k _ _ ⟨none, 0, x.R 0⟩ ⟨q5, .non, zs[0], rfl, upd_same, rfl, (z0 0 _ e0).keep (SW.Same.tk i5)⟩ ⟨⟨Nat.zero_le _, Nat.zero_le _⟩, ⟨by show (x.R 0).length ≤ 64; omega, by show tot (x.R 0) ≤ 64; omega⟩⟩ ?_ (T9.r.same i5) (T9.k.trans (SW.Same.but i5))
                refine right_of ?_ rfl (fun i r e => by simp at e) I.p0 nd
                show (decide (isSize (x.R 0).length) && true) = true
                rw [l0, hsz0, decide_eq_true (by rcases hn0 with rfl | rfl | rfl | rfl <;> decide)]; rfl
              · refine iteNo (fun z => by injection z with z; omega) ?_
                have e0 : zs[0]? = some zs[0] := List.getElem?_eq_getElem (by omega)
                have e1 : zs[1]? = some zs[1] := List.getElem?_eq_getElem (by omega)
                first | (have zz_ := ho (sz 1) ho2; have y1 := zz_.1; have y2 := zz_.2.1; have y3 := zz_.2.2; clear zz_) | obtain ⟨y1, y2, y3⟩ := ho (sz 1) ho2
                walk_at "W"
                refine wIxL hD9 (atI_nat (j := 0) e0) ?_
                walk_at "W"
                refine wIxL hD9 (atI_nat (j := 1) e1) ?_
                walk_at "W"
                refine ⟨by show (3 : Nat) ≤ sizeLine; decide, fun q5 hq5 => ?_⟩
                have i5 := Same.new (o := .tup [zs[0], .int mv, zs[1]]) hq5
                refine k _ _ ⟨some (x.R 0), mv, x.R 1⟩ ⟨q5, zs[0], zs[1], rfl, upd_same, (z0 0 _ e0).keep (SW.Same.tk i5), (z0 1 _ e1).keep (SW.Same.tk i5)⟩ ⟨⟨by show (x.R 0).length ≤ 64; omega, by show tot (x.R 0) ≤ 64; omega⟩, ⟨by show (x.R 1).length ≤ 64; omega, by show tot (x.R 1) ≤ 64; omega⟩⟩ ?_ (T9.r.same i5) (T9.k.trans (SW.Same.but i5))
                refine right_of ?_ ?_ I.p0 I.p1 I.nd
                · show (decide (isSize (x.R 1).length) && (decide (isSize (x.R 0).length) && (decide ((x.R 0).length = 2 * (x.R 1).length) || decide ((x.R 1).length = 2 * (x.R 0).length)))) = true
                  rw [l0, l1, hsz0, decide_eq_true y1, decide_eq_true (show isSize n0 by rcases hn0 with rfl | rfl | rfl | rfl <;> decide)]
                  rcases y2 with y2 | y2
                  · rw [decide_eq_true y2, Bool.or_true]; rfl
                  · rw [decide_eq_true y2, Bool.true_or]; rfl
                · show (decide (0 ≤ mv) && decide (mv < ((x.R 0).length : Int))) = true
                  rw [l0, hsz0, decide_eq_true h2, decide_eq_true h3]; rfl
        clear hN2
        have ts1 : TS H p rl 1 (fun _ => D) (fun _ => l0) (fun s => List.replicate (if s = 0 then n0 else 0) []) H4 := ⟨R4, K04, erl, fun s hs => by rw [Nat.lt_one_iff.mp hs]; exact lr0, fun s s' hs hs' hne => absurd (by omega : s = s') hne, fun s s' _ _ l hl => nDl l hl, fun s _ l hl => ⟨nrl l hl, fr0 l hl⟩, nrp, fun s _ => nDp⟩
        refine ⟨rfl, ?_⟩
        walk_at "W"
        cases o with
        | none =>
          refine iteNS rfl ?_
          walk_at "W"
          exact rest2 H4 1 _ _ _ 0 (.inl ⟨rfl, rfl, rfl, rfl⟩) rfl ts1
        | some x =>
          first | (have zz_ := ho x rfl; have hx1 := zz_.1; have hx2 := zz_.2.1; have hx3 := zz_.2.2; clear zz_) | obtain ⟨hx1, hx2, hx3⟩ := ho x rfl
          refine iteNN (fun z => nomatch z) ?_
          walk_at "W"
          refine wTake ts1.r (by omega) (by omega) fun mv H5 m0 m1 R5 K5 => ?_
          have ts5 := ts1.keepP R5 K5
          walk_at "W"
          refine wBM ?_
          walk_at "W"
          refine ⟨.inl ⟨rfl, _, SqL.of ts5.top⟩, ?_⟩
          walk_at "W"
          refine ⟨(x : Int), rfl, by omega, by omega, fun D2 hD2 => ?_⟩
          refine comp_rangeU (fun i σ' H' => ∃ (ls : List Addr) (v : Option V), σ' = [v] ∧ ls.length = i ∧ H' D2 = some (.lst (ls.map V.ref)) ∧ ls.Nodup ∧ (∀ y ∈ ls, H' y = some (.lst []) ∧ H5 y = none ∧ y ≠ D2) ∧ Same H5 H') ⟨[], none, rfl, rfl, upd_same, List.nodup_nil, fun y hy => (List.not_mem_nil hy).elim, Same.new hD2⟩ ?_ ?_
          · rintro i σ' H' hi ⟨ls, v, rfl, hl, g1, nd, g2, s'⟩
            refine ⟨by show (0 : Nat) ≤ sizeLine; decide, fun y hy => ?_⟩
            have nyD : D2 ≠ y := ne_of_none g1 hy
            have nin : y ∉ ls := fun z => by
              have := (g2 y z).1
              rw [hy] at this
              cases this
            refine CN.mk hi (ys := ls.map V.ref) (by rw [upd_ne nyD]; exact g1) (by rw [List.length_map]; omega) ⟨ls ++ [y], _, rfl, by rw [List.length_append, hl]; rfl, by rw [upd_same, List.map_append]; rfl, nd_snoc nd nin, fun z hz => ?_, fun b o e => ?_⟩
            · rcases List.mem_append.mp hz with hz | hz
              · first | (have zz_ := g2 z hz; have c1 := zz_.1; have c2 := zz_.2.1; have c3 := zz_.2.2; clear zz_) | obtain ⟨c1, c2, c3⟩ := g2 z hz
                refine ⟨?_, c2, c3⟩
                rw [upd_ne c3, upd_ne (fun e : z = y => nin (e ▸ hz))]; exact c1
              · rw [List.mem_singleton.mp hz]
                exact ⟨by rw [upd_ne nyD.symm, upd_same], s'.free hy, nyD.symm⟩
            · rw [upd_ne (ne_of_none e hD2), upd_ne (ne_of_none (s' b o e) hy)]
              exact s' b o e
          · rintro σ' H6 ⟨l1, v, rfl, hl1, g1, nd1, g2, s6⟩
            have hl1 : l1.length = x := by
              have : l1.length = (x : Int).toNat := hl1
              omega
            walk_at "W"
            have ts6 := ts5.same s6
            refine ⟨rl, _, _, rfl, rfl, ts6.top, by show (1 : Nat) < sizeLine; omega, ?_⟩
            have kk : ∀ b o, b ≠ rl → H6 b = some o → upd H6 rl (.lst [.ref D, .ref D2]) b = some o := fun b o n e => by rw [upd_ne n]; exact e
            have old : ∀ y ∈ l0, H5 y = some (.lst []) := fun y hy => K5 _ _ (fr0 y hy).1 (live4 y hy)
            have new1 : ∀ y ∈ l1, y ≠ rl ∧ y ≠ p ∧ H y = none := fun y hy => by
              have h5 := (g2 y hy).2.1
              refine ⟨fun z => (by rw [z, ts5.top] at h5; cases h5), (R5.ne0 h5).symm, ?_⟩
              cases e : H y with
              | none => rfl
              | some o => rw [ts5.k y o (R5.ne0 h5).symm e] at h5; cases h5
            have nD2 : D2 ≠ rl := fun z => by rw [z, ts5.top] at hD2; cases hD2
            have lr6 := ts6.lr 0 Nat.zero_lt_one
            have lr1 : LR H6 D2 (List.replicate x []) l1 := LR.bare g1 hl1 nd1 fun y hy => ⟨(g2 y hy).1, (g2 y hy).2.2⟩
            have trl : ∀ b xs, H6 b = some (.tup xs) → ¬ b = rl := fun b xs e => ne_of e ts6.top (by intro z; cases z)
            have nDrl : D ≠ rl := fun z => by
              have h1 := lr6.top
              have h2 := ts6.top
              have h1 : H6 D = some (.lst (l0.map V.ref)) := h1
              rw [z, h2] at h1
              have h3 : [V.ref D] = l0.map V.ref := by
                have := Option.some.inj h1
                injection this
              have : V.ref D ∈ l0.map V.ref := by rw [← h3]; exact List.mem_singleton.mpr rfl
              first | (have zz_ := List.mem_map.mp this; have y := zz_.1; have hy := zz_.2.1; have e := zz_.2.2; clear zz_) | obtain ⟨y, hy, e⟩ := List.mem_map.mp this
              injection e with e
              exact nDl y hy e
            walk_at "W"
            refine rest2 _ 2 (fun s => if s = 0 then D else D2) (fun s => if s = 0 then l0 else l1) (fun s => if s = 0 then n0 else x) mv (.inr ⟨rfl, rfl, m0, m1⟩) rfl ⟨?_, fun b o n e => ?_, upd_same, fun s hs => ?_, fun s s' hs hs' hne l hl hl' => ?_, fun s s' hs hs' l hl => ?_, fun s hs l hl => ?_, nrp, fun s hs => ?_⟩
            · first | (have zz_ := ts6.r; have a := zz_.1; have b := zz_.2.1; have c := zz_.2.2.1; have h := zz_.2.2.2.1; have gg := zz_.2.2.2.2; clear zz_) | obtain ⟨a, b, c, h, gg⟩ := ts6.r
              exact ⟨a, b, c, kk _ _ nrp.symm h, gg⟩
            · exact kk _ _ (fun z => by
                have := fr2 rl (s3.free hrl)
                rw [z, this.2] at e; cases e) (ts6.k _ _ n e)
            · by_cases e : s = 0
              · subst e
                exact lr6.keep (G := fun b => b = rl) (fun b o n e => kk b o n e) nDrl (fun b hb z => nrl b hb z) trl
              · have : s = 1 := by omega
                subst this
                exact lr1.keep (G := fun b => b = rl) (fun b o n e => kk b o n e) nD2 (fun b hb => (new1 b hb).1) trl
            · have both : ∀ y, y ∈ l0 → y ∈ l1 → False := fun y y0 y1 => by
                have := old y y0
                rw [(g2 y y1).2.1] at this
                cases this
              by_cases e : s = 0
              · subst e
                have e' : s' = 1 := by omega
                subst e'
                exact both l hl hl'
              · have e1 : s = 1 := by omega
                subst e1
                have e' : s' = 0 := by omega
                subst e'
                exact both l hl' hl
            · have c01 : ∀ y ∈ l0, y ≠ D2 := fun y y0 z => by
                have := old y y0
                rw [z, hD2] at this
                cases this
              have c10 : ∀ y ∈ l1, y ≠ D := fun y y1 z => by
                have h5 := (g2 y y1).2.1
                have h6 : H5 D = some (.lst (l0.map V.ref)) := (ts5.lr 0 Nat.zero_lt_one).top
                rw [z, h6] at h5
                cases h5
              by_cases e : s = 0
              · subst e
                by_cases e' : s' = 0
                · subst e'; exact nDl l hl
                · show l ≠ if s' = 0 then D else D2
                  rw [if_neg e']; exact c01 l hl
              · have e1 : s = 1 := by omega
                subst e1
                by_cases e' : s' = 0
                · subst e'; exact c10 l hl
                · show l ≠ if s' = 0 then D else D2
                  rw [if_neg e']; exact (g2 l hl).2.2
            · by_cases e : s = 0
              · subst e; exact ⟨nrl l hl, fr0 l hl⟩
              · have e1 : s = 1 := by omega
                subst e1; exact new1 l hl
            · show (if s = 0 then D else D2) ≠ p
              by_cases e : s = 0
              · rw [if_pos e]; exact nDp
              · rw [if_neg e]; exact (R5.ne0 hD2).symm
    clear hN1
    have hb2 : ∀ x : Nat, (V.int (x : Int) = V.int 2) → x = 2 := fun x z => by injection z with z; omega
    simp only [List.mem_cons, List.not_mem_nil, or_false] at hmo
    rcases hmo with rfl | rfl | rfl
    · refine ⟨rfl, ?_⟩
      walk_at "W"
      refine iteNo (fun z => nomatch z) ?_
      walk_at "W"
      exact rest1 none (fun x e => nomatch e)
    · refine ⟨rfl, ?_⟩
      walk_at "W"
      refine iteNo (fun z => by injection z with z; omega) ?_
      walk_at "W"
      have := rest1 (some (2 * n0)) (fun x e => by cases e; refine ⟨?_, .inl rfl, by omega⟩; rcases hn0 with rfl | rfl | rfl | rfl <;> decide)
      rw [show oN (some (2 * n0)) = V.int (2 * (n0 : Int)) from rfl] at this
      exact this
    · refine ⟨rfl, ?_⟩
      walk_at "W"
      by_cases h4 : n0 = 4
      · refine iteY (by rw [h4]; rfl) ?_
        walk_at "W"
        exact rest1 (some 8) (fun x e => by cases e; exact ⟨by decide, .inl (by omega), by decide⟩)
      · refine iteNo (fun z => by injection z with z; omega) ?_
        walk_at "W"
        have := rest1 (some (n0 / 2)) (fun x e => by cases e; refine ⟨?_, .inr (by omega), by omega⟩; rcases hn0 with rfl | rfl | rfl | rfl <;> first | exact absurd rfl h4 | decide)
        rw [show oN (some (n0 / 2)) = V.int ((n0 : Int) / 2) from rfl] at this
        exact this
end

theorem wh_b {d : PyData} (h : isBoolD d = true) : isWhD d = false := by
  cases d with
  | bool b => rfl
  | _ => cases h
theorem wh_i {d : PyData} (h : isIntD d = false) : isWhD d = false := by
  cases d with
  | bool b => rfl
  | int i => cases h
  | _ => rfl
theorem wh_y {d : PyData} (h : isBoolD d = false) (h2 : isIntD d = true) : isWhD d = true := by
  cases d with
  | bool b => cases h
  | int i => rfl
  | _ => cases h2
noncomputable def FineD (d : PyData) : Prop := ∀ S, d = stD S → Fine S
theorem wd1_of {d : PyData} (h : szD d ≤ 100000) : Wd1 d := fun ds e => by
  subst e
  rw [sz_tup] at h
  have := szL_len ds
  omega
theorem wd2_of {d : PyData} (h : szD d ≤ 100000) : Wd2 d := fun ds e => ⟨wd1_of h ds e, fun x hx => wd1_of (by
  subst e
  rw [sz_tup] at h
  have := szL_mem hx
  omega)⟩
theorem wd3_of {d : PyData} (h : szD d ≤ 100000) : Wd3 d := fun ds e x hx => wd2_of (by
  subst e
  rw [sz_tup] at h
  have := szL_mem hx
  omega)
theorem fine_of {d : PyData} (h : szD d ≤ 100000) : FineD d := fun S e => by
  subst e
  rw [sz_stD, sz_elD, sz_rowsD] at h
  exact ⟨by unfold Big; omega, by omega, by omega⟩
theorem big_of {d : PyData} (h : szD d ≤ 100000) : BigD d := fun S e => (fine_of h S e).1
noncomputable def spIsA : Sp := fun vs H Q _ => ∃ (v : V) (d : PyData) (t : Addr) (f m : Int), vs = [v, .ref t] ∧ Any H v d ∧ Wd3 d ∧ FineD d ∧ H t = some (.tup [.int f, .int m]) ∧ (0 ≤ f ∧ f ≤ 65535) ∧ ∀ H' b, Same H H' → (isStateD d = false → b = false) → (isStateD d = true → ∀ S, d = stD S → b = (faultOf f m S).isNone) → Q (.bl b) H'
theorem wIsA {H : Hp} {Q : VK} {E : XK} {v : V} {d : PyData} {t : Addr} {f m : Int} (h1 : Any H v d) (h2 : Wd3 d) (h3 : FineD d) (h4 : H t = some (.tup [.int f, .int m])) (h5 : 0 ≤ f ∧ f ≤ 65535) (q : ∀ H' b, Same H H' → (isStateD d = false → b = false) → (isStateD d = true → ∀ S, d = stD S → b = (faultOf f m S).isNone) → Q (.bl b) H') : spIsA ([v, .ref t] ++ []) H Q E := ⟨v, d, t, f, m, rfl, h1, h2, h3, h4, h5, q⟩
section
variable {P : Program} {w : World} {K : PySem.W.Frag} {mg : Str → Option Value} {base : Heap} 
theorem F_isA (d : Dfn K mg "_law_is" s_law_is ["thing", "mixer"]) (g : Gs K mg) (F_law_are_rows : Fn P w K mg base "_law_are_rows" 2 ["rows"] spRowsA) (F_law_due : Fn P w K mg base "_law_due" 2 ["state", "mixer"] spDue) : Fn P w K mg base "_law_is" 3 ["thing", "mixer"] spIsA := by
  refine d.fn sc_law_is (fun vs H Q E h => ?_) (fun f cdv A outer s H vs Q E hr h => ?_)
  · obtain ⟨v, dd, t, fa, mo, rfl, _⟩ := h
    rfl
  · obtain ⟨v, dd, t, fa, mo, rfl, hd, hw, hb, ht, hf, q⟩ := h
    have hd0 := hd
    have q0 : isStateD dd = false → ∀ H', Same H H' → Q (.bl false) H' := fun e H' s' => q _ _ s' (fun _ => rfl) fun z => by rw [e] at z; cases z
    refine ⟨_, (B.scons (B.ifs (B.tw (B.wor (B.tnot (B.tval (B.cB SW.call_isi g.b_isinstance SW.b_isinstance (B.cons (B.v 0) (B.cons (B.ty g.b_tuple SW.b_tuple) B.nil))))) (B.wor1 (B.tcmp op_ne (B.cB call_len_seq g.b_len SW.b_len (B.cons (B.v 0) B.nil)) B.int)))) (B.sone (B.ret B.bl)) B.snil)
      (B.scons (B.asg (B.v 0) (B.gtup (B.gcons (B.gname (i := 2) sc_law_is.nd) (B.gcons (B.gname (i := 3) sc_law_is.nd) (B.gcons (B.gname (i := 4) sc_law_is.nd) B.gnil)))))
      (B.scons (B.ifs (B.tw (B.wor (B.tval (B.cB SW.call_isi g.b_isinstance SW.b_isinstance (B.cons (B.v 3) (B.cons (B.ty g.b_bool SW.b_bool) B.nil)))) (B.wor (B.tnot (B.tval (B.cB SW.call_isi g.b_isinstance SW.b_isinstance (B.cons (B.v 3) (B.cons (B.ty g.b_int SW.b_int) B.nil))))) (B.wor1 (B.tnot (B.tval (B.fn F_law_are_rows (hr.mono (by first | decide | omega)) (B.cons (B.v 4) B.nil)))))))) (B.sone (B.ret B.bl)) B.snil)
      (B.scons (B.ifs (B.tw (B.wand (B.tcmp op_notN (B.v 2) B.non) (B.wand1 (B.tnot (B.tval (B.fn F_law_are_rows (hr.mono (by first | decide | omega)) (B.cons (B.v 2) B.nil))))))) (B.sone (B.ret B.bl)) B.snil)
      (B.sone (B.ret (B.cmp op_isN (B.fn F_law_due (hr.mono (by first | decide | omega)) (B.cons (B.v 0) (B.cons (B.v 1) B.nil))) B.non))))))), ?_⟩
    walk_at "W"
    refine SW.iIsi hd.ty (isi_d_tup dd) ?_
    walk_at "W"
    cases hd with
    | @tup a xs ds h r =>
      have hw' := hw ds rfl
      refine iteF ?_
      walk_at "W"
      refine SW.iLen (.inr (SqT.of h)) ?_
      walk_at "W"
      rcases r with _ | ⟨h1, r⟩
      · refine iteNN (fun z => by simp at z) ?_
        walk_at "W"
        exact q0 rfl _ (Same.refl _)
      rcases r with _ | ⟨h2, r⟩
      · refine iteNN (fun z => by simp at z) ?_
        walk_at "W"
        exact q0 rfl _ (Same.refl _)
      rcases r with _ | ⟨h3, r⟩
      · refine iteNN (fun z => by simp at z) ?_
        walk_at "W"
        exact q0 rfl _ (Same.refl _)
      rcases r with _ | ⟨h4, r⟩
      · rename_i x1 d1 x2 d2 x3 d3
        have eS : isStateD (.tuple [d1, d2, d3]) = (isElD d1 && isWhD d2 && areRowsD d3) := rfl
        refine iteNS rfl ?_
        walk_at "W"
        refine ⟨a, _, rfl, SqT.of h, rfl, _, _, rfl, ?_⟩
        walk_at "W"
        refine ⟨_, _, rfl, ?_⟩
        walk_at "W"
        refine ⟨_, _, rfl, ?_⟩
        walk_at "W"
        refine ⟨rfl, ?_⟩
        walk_at "W"
        refine SW.iIsi h2.ty (isi_d_bool d2) ?_
        walk_at "W"
        cases eB : isBoolD d2 with
        | true =>
          have e2 : isWhD d2 = false := wh_b eB
          refine iteT ?_
          walk_at "W"
          exact q0 (by rw [eS, e2, Bool.and_false, Bool.false_and]) _ (Same.refl _)
        | false =>
          refine iteF ?_
          walk_at "W"
          refine SW.iIsi h2.ty (isi_d_int d2) ?_
          walk_at "W"
          cases eI : isIntD d2 with
          | false =>
            have e2 : isWhD d2 = false := wh_i eI
            refine iteT ?_
            walk_at "W"
            exact q0 (by rw [eS, e2, Bool.and_false, Bool.false_and]) _ (Same.refl _)
          | true =>
            have e2 : isWhD d2 = true := wh_y eB eI
            refine iteF ?_
            walk_at "W"
            refine wRowsA h3 (hw' d3 (by simp)) fun H1 s1 => ?_
            walk_at "W"
            cases e3 : areRowsD d3 with
            | false =>
              refine iteT ?_
              walk_at "W"
              exact q0 (by rw [eS, e3, Bool.and_false]) _ s1
            | true =>
              refine iteF ?_
              walk_at "W"
              rename_i N1 hN1
              have rest : isElD d1 = true → ∀ H2, Same H H2 → N1 [some (.ref a), some (.ref t), some x1, some x2, some x3] H2 := by
                intro e1 H2 s2
                refine SW.wGo hN1 ?_
                have eT : isStateD (.tuple [d1, d2, d3]) = true := by rw [eS, e1, e2, e3]; rfl
                first | (have zz_ := state_of hd0 eT; have S := zz_.1; have hS := zz_.2.1; have eSt := zz_.2.2; clear zz_) | obtain ⟨S, hS, eSt⟩ := state_of hd0 eT
                walk_at "W"
                refine wDue (hS.keep (SW.Same.tk s2)) (hb S eSt) (s2 _ _ ht) hf fun v2 H3 s3 hv2 => ?_
                have fin : ∀ b, b = (faultOf fa mo S).isNone → Q (.bl b) H3 := fun b eb => q _ _ (s2.trans s3) (fun z => by rw [eT] at z; cases z) fun _ S' eS' => by rw [← stD_inj (eSt.symm.trans eS')]; exact eb
                walk_at "W"
                refine ⟨rfl, ?_⟩
                cases ef : faultOf fa mo S with
                | none =>
                  rw [ef] at hv2 fin
                  rw [show v2 = V.non from hv2]
                  exact fin _ rfl
                | some fl =>
                  rw [ef] at hv2 fin
                  obtain ⟨u, rfl, hu⟩ := hv2
                  exact fin _ rfl
              clear hN1
              refine ⟨rfl, ?_⟩
              walk_at "W"
              by_cases hx : x1 = V.non
              · subst hx
                refine iteNS rfl ?_
                refine iteF ?_
                walk_at "W"
                exact rest (by cases h1; rfl) _ s1
              · have eN : isElD d1 = areRowsD d1 := by cases h1 <;> first | exact absurd rfl hx | rfl
                refine iteNN hx ?_
                walk_at "W"
                refine wRowsA (h1.same s1) (hw' d1 (by simp)) fun H2 s2 => ?_
                walk_at "W"
                cases e1 : areRowsD d1 with
                | false =>
                  refine iteT ?_
                  walk_at "W"
                  exact q0 (by rw [eS, eN, e1, Bool.false_and, Bool.false_and]) _ (s1.trans s2)
                | true =>
                  refine iteF ?_
                  walk_at "W"
                  exact rest (eN.trans e1) _ (s1.trans s2)
      · refine iteNN (fun z => by simp at z; omega) ?_
        walk_at "W"
        exact q0 rfl _ (Same.refl _)
    | non => refine iteT ?_; walk_at "W"; exact q0 rfl _ (Same.refl _)
    | bl b => refine iteT ?_; walk_at "W"; exact q0 rfl _ (Same.refl _)
    | int i => refine iteT ?_; walk_at "W"; exact q0 rfl _ (Same.refl _)
    | str x => refine iteT ?_; walk_at "W"; exact q0 rfl _ (Same.refl _)
    | lst h r => refine iteT ?_; walk_at "W"; exact q0 rfl _ (Same.refl _)
    | dic h => refine iteT ?_; walk_at "W"; exact q0 rfl _ (Same.refl _)
end
noncomputable def spRightA : Sp := fun vs H Q _ => ∃ (v : V) (d : PyData) (t : Addr) (f m : Int), vs = [v, .ref t] ∧ Any H v d ∧ szD d ≤ 100000 ∧ H t = some (.tup [.int f, .int m]) ∧ (0 ≤ f ∧ f ≤ 65535) ∧ ∀ H', Same H H' → Q (.bl true) H'
theorem wRightA {H : Hp} {Q : VK} {E : XK} {v : V} {d : PyData} {t : Addr} {f m : Int} (h1 : Any H v d) (h2 : szD d ≤ 100000) (h4 : H t = some (.tup [.int f, .int m])) (h5 : 0 ≤ f ∧ f ≤ 65535) (q : ∀ H', Same H H' → Q (.bl true) H') : spRightA ([v, .ref t] ++ []) H Q E := ⟨v, d, t, f, m, rfl, h1, h2, h4, h5, q⟩
theorem isi_bl_bool {K : PySem.W.Frag} : PySem.W.kitOne K (.type "bool") (.type "bool") = some true := by
  show PySem.W.kitOne [] (.type "bool") (.type "bool") = some true; decide +kernel
section
variable {P : Program} {w : World} {K : PySem.W.Frag} {mg : Str → Option Value} {base : Heap} 
theorem F_rightA (d : Dfn K mg "_law_right" s_law_right ["thing", "mixer"]) (g : Gs K mg) (F_is_sound : Fn P w K mg base "is_sound" 7 ["state", "mixer"] spSoundA) (F_law_is : Fn P w K mg base "_law_is" 3 ["thing", "mixer"] spIsA) : Fn P w K mg base "_law_right" 8 ["thing", "mixer"] spRightA := by
  refine d.fn sc_law_right (fun vs H Q E h => ?_) (fun f cdv A outer s H vs Q E hr h => ?_)
  · obtain ⟨v, dd, t, fa, mo, rfl, _⟩ := h
    rfl
  · obtain ⟨v, dd, t, fa, mo, rfl, hd, hz, ht, hf, q⟩ := h
    refine ⟨_, (B.scons (B.set 2 sc_law_right.nd (B.fn F_is_sound (hr.mono (by first | decide | omega)) (B.cons (B.v 0) (B.cons (B.v 1) B.nil))))
      (B.sone (B.ret (B.and (B.cB SW.call_isi g.b_isinstance SW.b_isinstance (B.cons (B.v 2) (B.cons (B.ty g.b_bool SW.b_bool) B.nil))) (B.one (B.cmp op_eq (B.v 2) (B.fn F_law_is (hr.mono (by first | decide | omega)) (B.cons (B.v 0) (B.cons (B.v 1) B.nil))))))))), ?_⟩
    walk_at "W"
    refine wSoundA hd (wd3_of hz) (big_of hz) ht hf fun H1 b1 s1 n1 y1 => ?_
    walk_at "W"
    refine SW.iIsi (.bl b1) isi_bl_bool ?_
    walk_at "W"
    refine iteT ?_
    walk_at "W"
    refine wIsA (hd.same s1) (wd3_of hz) (fine_of hz) (s1 _ _ ht) hf fun H2 b2 s2 n2 y2 => ?_
    have e : b1 = b2 := by
      cases e : isStateD dd with
      | false => rw [n1 e, n2 e]
      | true =>
        first | (have zz_ := state_of hd e; have S := zz_.1; have eS := zz_.2.2; clear zz_) | obtain ⟨S, _, eS⟩ := state_of hd e
        rw [y1 e S eS, y2 e S eS]
    walk_at "W"
    have := q _ (s1.trans s2)
    rw [e, decide_eq_true rfl]
    exact this
end

noncomputable def spOddP : Sp := fun vs H Q _ => ∃ (p : Addr) (v : V) (q : Int × Int), vs = [.ref p, v] ∧ Row H p ∧ PrV H v q ∧ ∀ v' H' d', Any (less p H') v' d' → szD d' ≤ 10 → Row H' p → KeepBut p H H' → Q v' H'
theorem wOddP {H : Hp} {Q : VK} {E : XK} {p : Addr} {v : V} {q : Int × Int} (h1 : Row H p) (h2 : PrV H v q) (k : ∀ v' H' d', Any (less p H') v' d' → szD d' ≤ 10 → Row H' p → KeepBut p H H' → Q v' H') : spOddP ([.ref p, v] ++ []) H Q E := ⟨p, v, q, rfl, h1, h2, k⟩
section
variable {P : Program} {w : World} {K : PySem.W.Frag} {mg : Str → Option Value} {base : Heap} 
theorem F_oddP (d : Dfn K mg "_law_odd_pair" s_law_odd_pair ["row", "pair"]) (g : Gs K mg) (F_law_take : Fn P w K mg base "_law_take" 1 ["row", "many"] spTake) : Fn P w K mg base "_law_odd_pair" 2 ["row", "pair"] spOddP := by
  refine d.fn sc_law_odd_pair (fun vs H Q E h => ?_) (fun f cdv A outer s H vs Q E hr h => ?_)
  · obtain ⟨p, v, q, rfl, _⟩ := h
    rfl
  · obtain ⟨p, v, ⟨k1, y1⟩, rfl, R0, ⟨u, rfl, hu⟩, k⟩ := h
    have hu : H u = some (.tup [.int k1, .int y1]) := hu
    have one_ : (1 : Nat) ≤ sizeLine := by decide
    have two_ : (2 : Nat) ≤ sizeLine := by decide
    have three_ : (3 : Nat) ≤ sizeLine := by decide
    refine ⟨_, (B.scons (B.asg (B.v 1) (B.gtup (B.gcons (B.gname (i := 2) sc_law_odd_pair.nd) (B.gcons (B.gname (i := 3) sc_law_odd_pair.nd) B.gnil))))
      (B.scons (B.set 4 sc_law_odd_pair.nd (B.lst (B.cons (B.tup (B.cons (B.v 2) (B.cons (B.v 3) (B.cons B.int B.nil)))) (B.cons (B.tup (B.cons (B.v 2) B.nil)) (B.cons (B.lst (B.cons (B.v 2) (B.cons (B.v 3) B.nil))) (B.cons (B.tup (B.cons B.bl (B.cons (B.v 3) B.nil))) (B.cons (B.tup (B.cons (B.v 2) (B.cons B.bl B.nil))) (B.cons (B.tup (B.cons (B.v 2) (B.cons B.non B.nil))) (B.cons (B.tup (B.cons B.str (B.cons (B.v 3) B.nil))) (B.cons (B.v 2) (B.cons B.non B.nil)))))))))))
      (B.scons (B.set 4 sc_law_odd_pair.nd (B.op op_cat (B.v 4) (B.lst (B.cons (B.tup (B.cons (B.v 2) (B.cons (B.op op_add (B.op op_pow B.int B.int) B.int) B.nil))) (B.cons (B.tup (B.cons (B.v 2) (B.cons (B.op op_sub (B.un un_neg (B.op op_pow B.int B.int)) B.int) B.nil))) (B.cons (B.tup (B.cons (B.op op_add (B.op op_pow B.int B.int) B.int) (B.cons (B.v 3) B.nil))) (B.cons (B.tup (B.cons (B.v 2) (B.cons B.str B.nil))) (B.cons (B.tup (B.cons (B.lst (B.cons (B.v 2) B.nil)) (B.cons (B.v 3) B.nil))) B.nil))))))))
      (B.sone (B.ret (B.ix ix_list (B.v 4) (B.fn F_law_take (hr.mono (by first | decide | omega)) (B.cons (B.v 0) (B.cons B.int B.nil))))))))), ?_⟩
    walk_at "W"
    refine ⟨u, _, rfl, SqT.of hu, rfl, _, _, rfl, ?_⟩
    walk_at "W"
    refine ⟨_, _, rfl, ?_⟩
    walk_at "W"
    refine ⟨rfl, ?_⟩
    have A0 : AllA p 10 H [] := AllA.nil
    have S0 : Same H H := Same.refl _
    walk_at "W"
    refine ⟨three_, fun t1 h1 => ?_⟩
    have A1 := A0.tup (xs := [.int k1, .int y1, .int 0]) R0 h1 (an3 (.int _) (.int _) (.int _)) (by simp only [sz_1, sz_2, sz_3, sz_int, sz_bool, sz_none, sz_str, sz_list]; decide)
    have R1 := R0.new (o := .tup [.int k1, .int y1, .int 0]) h1
    have S1 := S0.trans (Same.new (o := .tup [.int k1, .int y1, .int 0]) h1)
    walk_at "W"
    refine ⟨one_, fun t2 h2 => ?_⟩
    have A2 := A1.tup (xs := [.int k1]) R1 h2 (an1 (.int _)) (by simp only [sz_1, sz_2, sz_3, sz_int, sz_bool, sz_none, sz_str, sz_list]; decide)
    have R2 := R1.new (o := .tup [.int k1]) h2
    have S2 := S1.trans (Same.new (o := .tup [.int k1]) h2)
    walk_at "W"
    refine ⟨two_, fun t3 h3 => ?_⟩
    have A3 := A2.lst (xs := [.int k1, .int y1]) R2 h3 (an2 (.int _) (.int _)) (by decide)
    have R3 := R2.new (o := .lst [.int k1, .int y1]) h3
    have S3 := S2.trans (Same.new (o := .lst [.int k1, .int y1]) h3)
    walk_at "W"
    refine ⟨two_, fun t4 h4 => ?_⟩
    have A4 := A3.tup (xs := [.bl true, .int y1]) R3 h4 (an2 (.bl _) (.int _)) (by simp only [sz_1, sz_2, sz_3, sz_int, sz_bool, sz_none, sz_str, sz_list]; decide)
    have R4 := R3.new (o := .tup [.bl true, .int y1]) h4
    have S4 := S3.trans (Same.new (o := .tup [.bl true, .int y1]) h4)
    walk_at "W"
    refine ⟨two_, fun t5 h5 => ?_⟩
    have A5 := A4.tup (xs := [.int k1, .bl true]) R4 h5 (an2 (.int _) (.bl _)) (by simp only [sz_1, sz_2, sz_3, sz_int, sz_bool, sz_none, sz_str, sz_list]; decide)
    have R5 := R4.new (o := .tup [.int k1, .bl true]) h5
    have S5 := S4.trans (Same.new (o := .tup [.int k1, .bl true]) h5)
    walk_at "W"
    refine ⟨two_, fun t6 h6 => ?_⟩
    have A6 := A5.tup (xs := [.int k1, .non]) R5 h6 (an2 (.int _) .non) (by simp only [sz_1, sz_2, sz_3, sz_int, sz_bool, sz_none, sz_str, sz_list]; decide)
    have R6 := R5.new (o := .tup [.int k1, .non]) h6
    have S6 := S5.trans (Same.new (o := .tup [.int k1, .non]) h6)
    walk_at "W"
    refine ⟨two_, fun t7 h7 => ?_⟩
    have A7 := A6.tup (xs := [.str "0", .int y1]) R6 h7 (an2 (.str _) (.int _)) (by simp only [sz_1, sz_2, sz_3, sz_int, sz_bool, sz_none, sz_str, sz_list]; decide)
    have R7 := R6.new (o := .tup [.str "0", .int y1]) h7
    have S7 := S6.trans (Same.new (o := .tup [.str "0", .int y1]) h7)
    have A8 := A7.cons (.int k1) (by rw [sz_int]; decide)
    have R8 := R7
    have S8 := S7
    have A9 := A8.cons (.non) (by rw [sz_none]; decide)
    have R9 := R8
    have S9 := S8
    walk_at "W"
    refine ⟨by show (9 : Nat) ≤ sizeLine; decide, fun L1 hL1 => ?_⟩
    have i9 := Same.new (o := .lst [.ref t1, .ref t2, .ref t3, .ref t4, .ref t5, .ref t6, .ref t7, .int k1, .non]) hL1
    have A10 := A9.same i9
    have R10 := R9.same i9
    have S10 := S9.trans i9
    walk_at "W"
    refine ⟨two_, fun t11 h11 => ?_⟩
    have A11 := A10.tup (xs := [.int k1, .int (10 ^ Int.toNat 9 + 1)]) R10 h11 (an2 (.int _) (.int _)) (by simp only [sz_1, sz_2, sz_3, sz_int, sz_bool, sz_none, sz_str, sz_list]; decide)
    have R11 := R10.new (o := .tup [.int k1, .int (10 ^ Int.toNat 9 + 1)]) h11
    have S11 := S10.trans (Same.new (o := .tup [.int k1, .int (10 ^ Int.toNat 9 + 1)]) h11)
    walk_at "W"
    refine ⟨two_, fun t12 h12 => ?_⟩
    have A12 := A11.tup (xs := [.int k1, .int (-(10 ^ Int.toNat 9) - 1)]) R11 h12 (an2 (.int _) (.int _)) (by simp only [sz_1, sz_2, sz_3, sz_int, sz_bool, sz_none, sz_str, sz_list]; decide)
    have R12 := R11.new (o := .tup [.int k1, .int (-(10 ^ Int.toNat 9) - 1)]) h12
    have S12 := S11.trans (Same.new (o := .tup [.int k1, .int (-(10 ^ Int.toNat 9) - 1)]) h12)
    walk_at "W"
    refine ⟨two_, fun t13 h13 => ?_⟩
    have A13 := A12.tup (xs := [.int (10 ^ Int.toNat 9 + 65536), .int y1]) R12 h13 (an2 (.int _) (.int _)) (by simp only [sz_1, sz_2, sz_3, sz_int, sz_bool, sz_none, sz_str, sz_list]; decide)
    have R13 := R12.new (o := .tup [.int (10 ^ Int.toNat 9 + 65536), .int y1]) h13
    have S13 := S12.trans (Same.new (o := .tup [.int (10 ^ Int.toNat 9 + 65536), .int y1]) h13)
    walk_at "W"
    refine ⟨two_, fun t14 h14 => ?_⟩
    have A14 := A13.tup (xs := [.int k1, .str "1"]) R13 h14 (an2 (.int _) (.str _)) (by simp only [sz_1, sz_2, sz_3, sz_int, sz_bool, sz_none, sz_str, sz_list]; decide)
    have R14 := R13.new (o := .tup [.int k1, .str "1"]) h14
    have S14 := S13.trans (Same.new (o := .tup [.int k1, .str "1"]) h14)
    walk_at "W"
    refine ⟨one_, fun t15 h15 => ?_⟩
    have B15 := any_lst (xs := [.int k1]) R14 h15 (an1 (.int _))
    have A15 := A14.new (o := .lst [.int k1]) h15
    have R15 := R14.new (o := .lst [.int k1]) h15
    have S15 := S14.trans (Same.new (o := .lst [.int k1]) h15)
    walk_at "W"
    refine ⟨two_, fun t16 h16 => ?_⟩
    have A16 := A15.tup (xs := [.ref t15, .int y1]) R15 h16 (an2 B15 (.int _)) (by simp only [sz_2, sz_int, sz_list]; decide)
    have R16 := R15.new (o := .tup [.ref t15, .int y1]) h16
    have S16 := S15.trans (Same.new (o := .tup [.ref t15, .int y1]) h16)
    walk_at "W"
    refine ⟨by show (5 : Nat) ≤ sizeLine; decide, fun L2 hL2 => ?_⟩
    have i17 := Same.new (o := .lst [.ref t11, .ref t12, .ref t13, .ref t14, .ref t16]) hL2
    have A17 := A16.same i17
    have R17 := R16.same i17
    have S17 := S16.trans i17
    walk_at "W"
    refine ⟨L1, L2, [.ref t1, .ref t2, .ref t3, .ref t4, .ref t5, .ref t6, .ref t7, .int k1, .non], _, rfl, rfl, ?_, upd_same, by show (14 : Nat) ≤ sizeLine; decide, fun L3 hL3 => ?_⟩
    · exact i17 _ _ (Same.new h16 _ _ (Same.new h15 _ _ (Same.new h14 _ _ (Same.new h13 _ _ (Same.new h12 _ _ (Same.new h11 _ _ upd_same))))))
    have i18 := Same.new (o := .lst [.ref t1, .ref t2, .ref t3, .ref t4, .ref t5, .ref t6, .ref t7, .int k1, .non, .ref t11, .ref t12, .ref t13, .ref t14, .ref t16]) hL3
    have A18 := A17.same i18
    have R18 := R17.same i18
    have S18 := S17.trans i18
    have nL := (R17.ne0 hL3).symm
    walk_at "W"
    refine wTake R18 (by decide) (by decide) fun r H5 a5 b5 R5 K5 => ?_
    have e5 := K5 L3 _ nL upd_same
    first | (have zz_ := atI_in (xs := [V.ref t1, .ref t2, .ref t3, .ref t4, .ref t5, .ref t6, .ref t7, .int k1, .non, .ref t11, .ref t12, .ref t13, .ref t14, .ref t16]) a5 b5; have v := zz_.1; have hv := zz_.2.1; have hm := zz_.2.2; clear zz_) | obtain ⟨v, hv, hm⟩ := atI_in (xs := [V.ref t1, .ref t2, .ref t3, .ref t4, .ref t5, .ref t6, .ref t7, .int k1, .non, .ref t11, .ref t12, .ref t13, .ref t14, .ref t16]) a5 b5
    refine wIxL e5 hv ?_
    first | (have zz_ := (A18.but K5) v (List.mem_reverse.mp hm); have dd := zz_.1; have hd := zz_.2.1; have hs := zz_.2.2; clear zz_) | obtain ⟨dd, hd, hs⟩ := (A18.but K5) v (List.mem_reverse.mp hm)
    exact k _ _ dd hd hs R5 ((SW.Same.but S18).trans K5)
end

noncomputable def spOddR : Sp := fun vs H Q _ => ∃ (p : Addr) (v : V) (e : Option MRows) (n : Nat), vs = [.ref p, v] ∧ Row H p ∧ ElV H v e ∧ SzE n e ∧ n ≤ 5000 ∧ ∀ v' H' d', Any (less p H') v' d' → szD d' ≤ 12 * n + 40 → Row H' p → KeepBut p H H' → Q v' H'
theorem wOddR {H : Hp} {Q : VK} {E : XK} {p : Addr} {v : V} {e : Option MRows} {n : Nat} (h1 : Row H p) (h2 : ElV H v e) (h3 : SzE n e) (h4 : n ≤ 5000) (k : ∀ v' H' d', Any (less p H') v' d' → szD d' ≤ 12 * n + 40 → Row H' p → KeepBut p H H' → Q v' H') : spOddR ([.ref p, v] ++ []) H Q E := ⟨p, v, e, n, rfl, h1, h2, h3, h4, k⟩
theorem an_cat {H : Hp} {xs ys : List V} {ds es : List PyData} (h : Anys H xs ds) (g : Anys H ys es) : Anys H (xs ++ ys) (ds ++ es) := Anys.app g h
theorem anys_rows {H : Hp} {xs : List V} {R : MRows} (h : Paired (RowV H) xs R) : Anys H xs (R.map rowD) := rowsl_any h
section
variable {P : Program} {w : World} {K : PySem.W.Frag} {mg : Str → Option Value} {base : Heap} 
theorem F_oddR (d : Dfn K mg "_law_odd_rows" s_law_odd_rows ["row", "rows"]) (g : Gs K mg) (F_law_take : Fn P w K mg base "_law_take" 1 ["row", "many"] spTake) (F_law_odd_pair : Fn P w K mg base "_law_odd_pair" 2 ["row", "pair"] spOddP) : Fn P w K mg base "_law_odd_rows" 3 ["row", "rows"] spOddR := by
  refine d.fn sc_law_odd_rows (fun vs H Q E h => ?_) (fun f cdv A outer s H vs Q E hr h => ?_)
  · obtain ⟨p, v, e, n, rfl, _⟩ := h
    rfl
  · obtain ⟨p, v, e, n, rfl, hp, he, hsz, hn, k⟩ := h
    have lim : sizeLine = 16777216 := sizeLine_eq
    have zero_ : (0 : Nat) ≤ sizeLine := by decide
    have one_ : (1 : Nat) ≤ sizeLine := by decide
    have two_ : (2 : Nat) ≤ sizeLine := by decide
    have seven : ∀ H0, Same H H0 → tOp (rIxL (cxOf CX0 P w K mg base ["row", "rows", "at", "kind", "pair"] "_law_odd_rows" (defScope s_law_odd_rows) f cdv A outer s H E).nox.K) (tLst (tCons (tLst tNil) (tCons tDNewK (tCons (tC (V.str "rows")) (tCons (tC (V.int 0)) (tCons (tTup (tCons (tTup tNil) tNil)) (tCons (tTup (tCons (tC V.non) tNil)) (tCons (tC (V.bl true)) tNil)))))))) (tCall spTake [] E0 (tCons (tVar 0) (tCons (tC (V.int 7)) tNil))) [some (.ref p), some v, none, none, none] H0 Q := by
      intro H0 S0
      have R0 := hp.same S0
      have A0 : AllA p 10 H0 [] := AllA.nil
      walk_at "W"
      refine ⟨zero_, fun t1 h1 => ?_⟩
      have A1 := A0.lst (xs := []) R0 h1 an0 (by decide)
      have R1 := R0.new (o := .lst []) h1
      have S1 := S0.trans (Same.new (o := .lst []) h1)
      walk_at "W"
      intro t2 h2
      have A2 := A1.dic R1 h2 (by decide)
      have R2 := R1.new (o := .dK []) h2
      have S2 := S1.trans (Same.new (o := .dK []) h2)
      have A3 := A2.cons (.str "rows") (by rw [sz_str]; decide)
      have A4 := A3.cons (.int 0) (by rw [sz_int]; decide)
      walk_at "W"
      refine ⟨zero_, fun t5 h5 => ?_⟩
      have B5 := any_tup (xs := []) R2 h5 an0
      have A5 := A4.new (o := .tup []) h5
      have R5 := R2.new (o := .tup []) h5
      have S5 := S2.trans (Same.new (o := .tup []) h5)
      walk_at "W"
      refine ⟨one_, fun t6 h6 => ?_⟩
      have A6 := A5.tup (xs := [.ref t5]) R5 h6 (an1 B5) (by simp only [sz_1, sz_0]; decide)
      have R6 := R5.new (o := .tup [.ref t5]) h6
      have S6 := S5.trans (Same.new (o := .tup [.ref t5]) h6)
      walk_at "W"
      refine ⟨one_, fun t7 h7 => ?_⟩
      have A7 := A6.tup (xs := [.non]) R6 h7 (an1 .non) (by simp only [sz_1, sz_none]; decide)
      have R7 := R6.new (o := .tup [.non]) h7
      have S7 := S6.trans (Same.new (o := .tup [.non]) h7)
      have A8 := A7.cons (.bl true) (by rw [sz_bool]; decide)
      walk_at "W"
      refine ⟨by show (7 : Nat) ≤ sizeLine; decide, fun L hL => ?_⟩
      have i9 := Same.new (o := .lst [.ref t1, .ref t2, .str "rows", .int 0, .ref t6, .ref t7, .bl true]) hL
      have A9 := A8.same i9
      have R9 := R7.same i9
      have S9 := S7.trans i9
      have nL := (R7.ne0 hL).symm
      walk_at "W"
      refine wTake R9 (by decide) (by decide) fun r H5 a5 b5 R5 K5 => ?_
      have e5 := K5 L _ nL upd_same
      first | (have zz_ := atI_in (xs := [V.ref t1, .ref t2, .str "rows", .int 0, .ref t6, .ref t7, .bl true]) a5 b5; have v := zz_.1; have hv := zz_.2.1; have hm := zz_.2.2; clear zz_) | obtain ⟨v, hv, hm⟩ := atI_in (xs := [V.ref t1, .ref t2, .str "rows", .int 0, .ref t6, .ref t7, .bl true]) a5 b5
      refine wIxL e5 hv ?_
      first | (have zz_ := (A9.but K5) v (List.mem_reverse.mp hm); have dd := zz_.1; have hd := zz_.2.1; have hs := zz_.2.2; clear zz_) | obtain ⟨dd, hd, hs⟩ := (A9.but K5) v (List.mem_reverse.mp hm)
      exact k _ _ dd hd (by omega) R5 ((SW.Same.but S9).trans K5)
    refine ⟨_, (B.scons (B.ifs (B.tw (B.wor (B.tcmp op_isN (B.v 1) B.non) (B.wor1 (B.tcmp (op_eqTE (hu1_of hr)) (B.v 1) (B.tup B.nil))))) (B.sone (B.ret (B.ix ix_list (B.lst (B.cons (B.lst B.nil) (B.cons B.dnew (B.cons B.str (B.cons B.int (B.cons (B.tup (B.cons (B.tup B.nil) B.nil)) (B.cons (B.tup (B.cons B.non B.nil)) (B.cons B.bl B.nil)))))))) (B.fn F_law_take (hr.mono (by first | decide | omega)) (B.cons (B.v 0) (B.cons B.int B.nil)))))) B.snil)
      (B.scons (B.set 2 sc_law_odd_rows.nd (B.fn F_law_take (hr.mono (by first | decide | omega)) (B.cons (B.v 0) (B.cons (B.cB call_len_seq g.b_len SW.b_len (B.cons (B.v 1) B.nil)) B.nil))))
      (B.scons (B.set 3 sc_law_odd_rows.nd (B.fn F_law_take (hr.mono (by first | decide | omega)) (B.cons (B.v 0) (B.cons B.int B.nil))))
      (B.scons (B.set 4 sc_law_odd_rows.nd (B.tup (B.cons B.int (B.cons B.int B.nil))))
      (B.scons (B.ifs (B.tcmp (SW.op_neTE (hu1_of hr)) (B.ix ix_tup (B.v 1) (B.v 2)) (B.tup B.nil)) (B.sone (B.set 4 sc_law_odd_rows.nd (B.ix ix_tup (B.ix ix_tup (B.v 1) (B.v 2)) B.int))) B.snil)
      (B.scons (B.ifs (B.tcmp op_eq (B.v 3) B.int) (B.sone (B.ret (B.cT call_list_of g.b_list SW.b_list (B.cons (B.v 1) B.nil)))) B.snil)
      (B.scons (B.ifs (B.tcmp op_eq (B.v 3) B.int) (B.sone (B.ret (B.op op_catA (B.op op_catA (B.slice SW.sl_tupA (B.v 1) B.nopart (B.part (B.v 2))) (B.tup (B.cons (B.ix ix_list (B.lst (B.cons (B.cT call_list_of g.b_list SW.b_list (B.cons (B.ix ix_tup (B.v 1) (B.v 2)) B.nil)) (B.cons B.non (B.cons B.str (B.cons B.dnew (B.cons B.int B.nil)))))) (B.fn F_law_take (hr.mono (by first | decide | omega)) (B.cons (B.v 0) (B.cons B.int B.nil)))) B.nil))) (B.slice SW.sl_tupA (B.v 1) (B.part (B.op op_add (B.v 2) B.int)) B.nopart)))) B.snil)
      (B.sone (B.ret (B.op op_catA (B.op op_catA (B.slice SW.sl_tupA (B.v 1) B.nopart (B.part (B.v 2))) (B.tup (B.cons (B.op op_catA (B.tup (B.cons (B.fn F_law_odd_pair (hr.mono (by first | decide | omega)) (B.cons (B.v 0) (B.cons (B.v 4) B.nil))) B.nil)) (B.slice SW.sl_tupA (B.ix ix_tup (B.v 1) (B.v 2)) (B.part B.int) B.nopart)) B.nil))) (B.slice SW.sl_tupA (B.v 1) (B.part (B.op op_add (B.v 2) B.int)) B.nopart))))))))))), ?_⟩
    walk_at "W"
    refine ⟨rfl, ?_⟩
    walk_at "W"
    cases e with
    | none =>
      have he : v = V.non := he
      subst he
      refine iteY rfl ?_
      refine iteT ?_
      exact wRet (seven H (Same.refl _))
    | some R =>
      obtain ⟨a, xs, rfl, ha, hrs⟩ := (show RowsV H v R from he)
      have hsz : R.length ≤ n ∧ tot R ≤ n := hsz
      have hxl := paired_len hrs
      refine iteNo (fun z => nomatch z) ?_
      walk_at "W"
      refine ⟨zero_, fun e0 he0 => ?_⟩
      have s1 := Same.new (o := .tup []) he0
      walk_at "W"
      refine ⟨a, e0, xs, rfl, rfl, SqT.of (s1 _ _ ha), SqT.of upd_same, ?_⟩
      walk_at "W"
      cases hxs : xs with
      | nil =>
        refine iteT ?_
        exact wRet (seven _ s1)
      | cons y0 ys0 =>
        refine iteF ?_
        have hpos : 0 < xs.length := by rw [hxs]; exact Nat.zero_lt_succ _
        clear hxs seven
        have hp1 := hp.same s1
        have ha1 := s1 _ _ ha
        walk_at "W"
        refine SW.iLen (.inr (SqT.of ha1)) ?_
        walk_at "W"
        refine wTake hp1 (by omega) (by omega) fun at_ H2 a0 a1 R2 K2 => ?_
        walk_at "W"
        refine wTake R2 (by decide) (by decide) fun kind H3 c0 c1 R3 K3 => ?_
        walk_at "W"
        refine ⟨two_, fun t1 h1 => ?_⟩
        have i4 := Same.new (o := .tup [.int 0, .int 1]) h1
        have R4 := R3.same i4
        have K04 : KeepBut p H (upd H3 t1 (.tup [.int 0, .int 1])) := ((SW.Same.but s1).trans K2).trans (K3.trans (SW.Same.but i4))
        have et1 : PrV (upd H3 t1 (.tup [.int 0, .int 1])) (.ref t1) (0, 1) := ⟨t1, rfl, upd_same⟩
        obtain ⟨H4, hH4⟩ : ∃ H4, H4 = upd H3 t1 (.tup [.int 0, .int 1]) := ⟨_, rfl⟩
        rw [← hH4] at R4 K04 et1 ⊢
        clear hH4 i4
        have tk4 := rowTK hp K04
        have ha4 := tk4 _ _ ha
        have hrs4 := rows_keep hrs tk4
        obtain ⟨i, rfl⟩ : ∃ i : Nat, at_ = i := ⟨at_.toNat, by omega⟩
        have hi : i < xs.length := by omega
        have hxi : xs[i]? = some xs[i] := List.getElem?_eq_getElem hi
        first | (have zz_ := paired_get hrs4 hxi; have r := zz_.1; have hri := zz_.2.1; have b := zz_.2.2.1; have ys := zz_.2.2.2.1; have eb := zz_.2.2.2.2.1; have hb := zz_.2.2.2.2.2.1; have hps := zz_.2.2.2.2.2.2; clear zz_) | obtain ⟨r, hri, b, ys, eb, hb, hps⟩ := paired_get hrs4 hxi
        have hyl := hps.len
        have hrt : r.length ≤ n := by
          have h2 := tot_take R (i + 1)
          rw [take_snocF hri, tot_app] at h2
          have h3 : tot [r] = r.length := by unfold tot; simp
          omega
        walk_at "W"
        refine wIxT ha4 (atI_nat hxi) ?_
        rw [eb]
        walk_at "W"
        refine ⟨zero_, fun t2 h2 => ?_⟩
        have i5 := Same.new (o := .tup []) h2
        walk_at "W"
        refine ⟨b, t2, ys, rfl, rfl, SqT.of (i5 _ _ hb), SqT.of upd_same, ?_⟩
        walk_at "W"
        rename_i N1 hN1
        have rest : ∀ vp q H5, Same H4 H5 → PrV H5 vp q → N1 [some (.ref p), some (.ref a), some (.int i), some (.int kind), some vp] H5 := by
          intro vp q H5 s5 hvp
          refine SW.wGo hN1 ?_
          have R5 := R4.same s5
          have ha5 := s5 _ _ ha4
          have K05 := K04.trans (SW.Same.but s5)
          have hrs5 := rows_keep hrs4 (SW.Same.tk s5)
          have hb5 := s5 _ _ hb
          have hps5 := hps.keep (SW.Same.tk s5)
          have AN5 : Anys (less p H5) xs (R.map rowD) := anys_rows (rows_keep hrs5 (tk_less R5))
          have AR5 : Anys (less p H5) ys (r.map fun q => PyData.tuple [.int q.1, .int q.2]) := prs_any (hps5.keep (tk_less R5))
          have szR := sz_rowsL R
          have szr := sz_prs r
          walk_at "W"
          refine ite2 (fun _ => ?_) (fun _ => ?_)
          · walk_at "W"
            refine ⟨a, xs, rfl, .inr (SqT.of ha5), fun l hl => ?_⟩
            exact k _ _ _ (any_lst R5 hl AN5) (by rw [sz_list]; omega) (R5.new hl) (K05.trans (KeepBut.new hl))
          · walk_at "W"
            refine ite2 (fun _ => ?_) (fun _ => ?_)
            · walk_at "W"
              refine ⟨_, rfl, a, xs, rfl, ha5, fun q1 H6 s6 hq1 => ?_⟩
              walk_at "W"
              refine wIxT (s6 _ _ ha5) (atI_nat hxi) ?_
              rw [eb]
              have R6 := R5.same s6
              have AR6 := anys_but AR5 (SW.Same.but s6)
              have A6 : AllA p 10 H6 [] := AllA.nil
              walk_at "W"
              refine ⟨b, ys, rfl, .inr (SqT.of (s6 _ _ hb5)), fun t3 h3 => ?_⟩
              have A7 := A6.lst R6 h3 AR6 (by decide)
              have R7 := R6.new (o := .lst ys) h3
              have S7 := s6.trans (Same.new (o := .lst ys) h3)
              have A8 := A7.cons .non (by rw [sz_none]; decide)
              have A9 := A8.cons (.str "") (by rw [sz_str]; decide)
              walk_at "W"
              intro t4 h4
              have A10 := A9.dic R7 h4 (by decide)
              have R10 := R7.new (o := .dK []) h4
              have i10 := Same.new (o := .dK []) h4
              have S10 := S7.trans i10
              have A11 := A10.cons (.int 0) (by rw [sz_int]; decide)
              walk_at "W"
              refine ⟨by show (5 : Nat) ≤ sizeLine; decide, fun L hL => ?_⟩
              have i12 := Same.new (o := .lst [.ref t3, .non, .str "", .ref t4, .int 0]) hL
              have A12 := A11.same i12
              have R12 := R10.same i12
              have S12 := S10.trans i12
              have hq12 := i12 _ _ (i10 _ _ (Same.new (o := .lst ys) h3 _ _ hq1))
              have nL := (R10.ne0 hL).symm
              walk_at "W"
              refine wTake R12 (by decide) (by decide) fun z H13 z0 z1 R13 K13 => ?_
              have e13 := K13 L _ nL upd_same
              first | (have zz_ := atI_in (xs := [V.ref t3, .non, .str "", .ref t4, .int 0]) z0 z1; have v := zz_.1; have hv := zz_.2.1; have hm := zz_.2.2; clear zz_) | obtain ⟨v, hv, hm⟩ := atI_in (xs := [V.ref t3, .non, .str "", .ref t4, .int 0]) z0 z1
              refine wIxL e13 hv ?_
              first | (have zz_ := (A12.but K13) v (List.mem_reverse.mp hm); have dd := zz_.1; have hd := zz_.2.1; have hs := zz_.2.2; clear zz_) | obtain ⟨dd, hd, hs⟩ := (A12.but K13) v (List.mem_reverse.mp hm)
              have K513 : KeepBut p H5 H13 := (SW.Same.but S12).trans K13
              walk_at "W"
              refine ⟨one_, fun t5 h5 => ?_⟩
              have i14 := Same.new (o := .tup [v]) h5
              have tk13 := rowTK R12 K13
              have ha14 := i14 _ _ (rowTK R5 K513 _ _ ha5)
              have l1 := cutV_length xs none (some (i : Int))
              have l2 := cutV_length xs (some ((i : Int) + 1)) none
              walk_at "W"
              refine ⟨q1, t5, _, _, rfl, rfl, i14 _ _ (tk13 _ _ hq12), upd_same, by show _ + 1 ≤ sizeLine; omega, fun q2 H15 s15 hq2 => ?_⟩
              walk_at "W"
              refine ⟨_, rfl, ?_⟩
              walk_at "W"
              refine ⟨a, xs, rfl, s15 _ _ ha14, fun q3 H16 s16 hq3 => ?_⟩
              walk_at "W"
              refine ⟨q2, q3, _, _, rfl, rfl, s16 _ _ hq2, hq3, by rw [List.length_append]; show _ + 1 + _ ≤ sizeLine; omega, fun q4 H17 s17 hq4 => ?_⟩
              have S1317 := (i14.trans s15).trans (s16.trans s17)
              have R17 := R13.same S1317
              have K517 := K513.trans (SW.Same.but (p := p) S1317)
              have AN17 := anys_but AN5 K517
              have hd17 := any_but hd (SW.Same.but S1317)
              have c1 := cutD_sz (R.map rowD) none (some (i : Int))
              have c2 := cutD_sz (R.map rowD) (some ((i : Int) + 1)) none
              refine k _ _ _ (.tup (less_tup R17 hq4) (an_cat (an_cat (AN17.cut none (some (i : Int))) (an1 hd17)) (AN17.cut (some ((i : Int) + 1)) none))) ?_ R17 (K05.trans K517)
              rw [sz_tup, szL_app, szL_app]
              show 1 + (_ + szL [dd] + _) ≤ _
              rw [show szL [dd] = szD dd from by rw [szL, szL]; rfl]
              omega
            · walk_at "W"
              refine ⟨_, rfl, a, xs, rfl, ha5, fun q1 H6 s6 hq1 => ?_⟩
              have R6 := R5.same s6
              walk_at "W"
              refine wOddP R6 (hvp.keep (SW.Same.tk s6)) fun v H13 dd hd hs R13 K13 => ?_
              have K513 : KeepBut p H5 H13 := (SW.Same.but s6).trans K13
              have tk13 := rowTK R6 K13
              have tk513 := rowTK R5 K513
              walk_at "W"
              refine ⟨one_, fun t5 h5 => ?_⟩
              have i14 := Same.new (o := .tup [v]) h5
              have ha14 := i14 _ _ (tk513 _ _ ha5)
              walk_at "W"
              refine wIxT ha14 (atI_nat hxi) ?_
              rw [eb]
              walk_at "W"
              refine ⟨_, rfl, ?_⟩
              walk_at "W"
              refine ⟨b, ys, rfl, i14 _ _ (tk513 _ _ hb5), fun q6 H15 s15 hq6 => ?_⟩
              have l1 := cutV_length xs none (some (i : Int))
              have l2 := cutV_length xs (some ((i : Int) + 1)) none
              have l3 := cutV_length ys (some (1 : Int)) none
              walk_at "W"
              refine ⟨t5, q6, _, _, rfl, rfl, s15 _ _ upd_same, hq6, by show 1 + _ ≤ sizeLine; omega, fun q7 H16 s16 hq7 => ?_⟩
              walk_at "W"
              refine ⟨one_, fun q8 hq8 => ?_⟩
              have i17 := Same.new (o := .tup [.ref q7]) hq8
              have S1417 := (i14.trans s15).trans (s16.trans i17)
              walk_at "W"
              refine ⟨q1, q8, _, _, rfl, rfl, S1417 _ _ (tk13 _ _ hq1), upd_same, by show _ + 1 ≤ sizeLine; omega, fun q9 H18 s18 hq9 => ?_⟩
              walk_at "W"
              refine ⟨_, rfl, ?_⟩
              walk_at "W"
              refine ⟨a, xs, rfl, s18 _ _ (S1417 _ _ (tk513 _ _ ha5)), fun q10 H19 s19 hq10 => ?_⟩
              walk_at "W"
              refine ⟨q9, q10, _, _, rfl, rfl, s19 _ _ hq9, hq10, by rw [List.length_append]; show _ + 1 + _ ≤ sizeLine; omega, fun q11 H20 s20 hq11 => ?_⟩
              have S1820 := s18.trans (s19.trans s20)
              have S1320 := S1417.trans S1820
              have R20 := R13.same S1320
              have K520 := K513.trans (SW.Same.but (p := p) S1320)
              have AN20 := anys_but AN5 K520
              have AR20 := anys_but AR5 K520
              have hd20 := any_but hd (SW.Same.but S1320)
              have hq720 : H20 q7 = some (.tup ([v] ++ cutV ys (some (1 : Int)) none)) := S1820 _ _ (i17 _ _ hq7)
              have B20 : Any (less p H20) (.ref q7) (.tuple ([dd] ++ cutD (r.map fun q => PyData.tuple [.int q.1, .int q.2]) (some (1 : Int)) none)) := .tup (less_tup R20 hq720) (an_cat (an1 hd20) (AR20.cut (some (1 : Int)) none))
              have c1 := cutD_sz (R.map rowD) none (some (i : Int))
              have c2 := cutD_sz (R.map rowD) (some ((i : Int) + 1)) none
              have c3 := cutD_sz (r.map fun q => PyData.tuple [.int q.1, .int q.2]) (some (1 : Int)) none
              refine k _ _ _ (.tup (less_tup R20 hq11) (an_cat (an_cat (AN20.cut none (some (i : Int))) (an1 B20)) (AN20.cut (some ((i : Int) + 1)) none))) ?_ R20 (K05.trans K520)
              rw [sz_tup, szL_app, szL_app]
              show 1 + (_ + szL [PyData.tuple _] + _) ≤ _
              rw [show ∀ x, szL [x] = szD x from fun x => by rw [szL, szL]; rfl, sz_tup, szL_app, show ∀ x, szL [x] = szD x from fun x => by rw [szL, szL]; rfl]
              omega
        clear hN1
        cases hys : ys with
        | nil =>
          refine iteF ?_
          walk_at "W"
          exact rest _ _ _ i5 (et1.keep (SW.Same.tk i5))
        | cons z0 zs0 =>
          refine iteT ?_
          have hz0 : ys[0]? = some z0 := by rw [hys]; rfl
          first | (have zz_ := paired_get hps hz0; have q := zz_.1; have hq := zz_.2.1; have hpr := zz_.2.2; clear zz_) | obtain ⟨q, hq, hpr⟩ := paired_get hps hz0
          walk_at "W"
          refine wIxT (i5 _ _ ha4) (atI_nat hxi) ?_
          rw [eb]
          walk_at "W"
          refine wIxT (i := 0) (i5 _ _ hb) (atI_nat (j := 0) hz0) ?_
          walk_at "W"
          exact rest _ _ _ i5 (PrV.keep hpr (SW.Same.tk i5))
end

noncomputable def spOddS : Sp := fun vs H Q _ => ∃ (p : Addr) (v : V) (S : Sta) (n : Nat), vs = [.ref p, v] ∧ Row H p ∧ StV H v S ∧ SzS n S ∧ n ≤ 2000 ∧ ∀ v' H' d', Any (less p H') v' d' → szD d' ≤ 20 * n + 100 → Row H' p → KeepBut p H H' → Q v' H'
theorem wOddS {H : Hp} {Q : VK} {E : XK} {p : Addr} {v : V} {S : Sta} {n : Nat} (h1 : Row H p) (h2 : StV H v S) (h3 : SzS n S) (h4 : n ≤ 2000) (k : ∀ v' H' d', Any (less p H') v' d' → szD d' ≤ 20 * n + 100 → Row H' p → KeepBut p H H' → Q v' H') : spOddS ([.ref p, v] ++ []) H Q E := ⟨p, v, S, n, rfl, h1, h2, h3, h4, k⟩
theorem sz_el {n : Nat} {e : Option MRows} (h : SzE n e) : szD (elD e) ≤ 4 * n + 1 := by
  have h : (e.getD []).length ≤ n ∧ tot (e.getD []) ≤ n := h
  rw [sz_elD]; omega
theorem sz_nw {n : Nat} {R : MRows} (h : SzR n R) : szD (rowsD R) ≤ 4 * n + 1 := by
  have h : R.length ≤ n ∧ tot R ≤ n := h
  rw [sz_rowsD]; omega
section
variable {P : Program} {w : World} {K : PySem.W.Frag} {mg : Str → Option Value} {base : Heap} 
theorem F_oddS (d : Dfn K mg "_law_odd" s_law_odd ["row", "state"]) (g : Gs K mg) (F_law_take : Fn P w K mg base "_law_take" 1 ["row", "many"] spTake) (F_law_odd_rows : Fn P w K mg base "_law_odd_rows" 3 ["row", "rows"] spOddR) : Fn P w K mg base "_law_odd" 4 ["row", "state"] spOddS := by
  refine d.fn sc_law_odd (fun vs H Q E h => ?_) (fun f cdv A outer s H vs Q E hr h => ?_)
  · obtain ⟨p, v, S, n, rfl, _⟩ := h
    rfl
  · obtain ⟨p, v, S, n, rfl, hp, ⟨u, ve, vn, rfl, hu, he, hn⟩, ⟨z1, z2⟩, hnl, k⟩ := h
    have lim : sizeLine = 16777216 := sizeLine_eq
    have zero_ : (0 : Nat) ≤ sizeLine := by decide
    have one_ : (1 : Nat) ≤ sizeLine := by decide
    have three : (3 : Nat) ≤ sizeLine := by decide
    have y1 := sz_el z1
    have y2 := sz_nw z2
    have fin : ∀ H5 v1 v2 v3 d1 d2 d3, Any (less p H5) v1 d1 → Any (less p H5) v2 d2 → Any (less p H5) v3 d3 → szD d1 + szD d2 + szD d3 ≤ 20 * n + 90 → Row H5 p → KeepBut p H H5 → ∀ t, H5 t = none → Q (.ref t) (upd H5 t (.tup [v1, v2, v3])) := fun H5 v1 v2 v3 d1 d2 d3 h1 h2 h3 hz h4 h5 t ht =>
      k _ _ _ (any_tup h4 ht (an3 h1 h2 h3)) (by rw [sz_3]; omega) (h4.new ht) (h5.trans (KeepBut.new ht))
    refine ⟨_, (B.scons (B.asg (B.v 1) (B.gtup (B.gcons (B.gname (i := 2) sc_law_odd.nd) (B.gcons (B.gname (i := 3) sc_law_odd.nd) (B.gcons (B.gname (i := 4) sc_law_odd.nd) B.gnil)))))
      (B.scons (B.set 5 sc_law_odd.nd (B.fn F_law_take (hr.mono (by first | decide | omega)) (B.cons (B.v 0) (B.cons B.int B.nil))))
      (B.scons (B.ifs (B.tcmp op_eq (B.v 5) B.int) (B.sone (B.ret (B.ix ix_list (B.lst (B.cons (B.cT call_list_of g.b_list SW.b_list (B.cons (B.v 1) B.nil)) (B.cons (B.slice SW.sl_tupA (B.v 1) B.nopart (B.part B.int)) (B.cons (B.op op_catA (B.v 1) (B.tup (B.cons B.int B.nil))) (B.cons B.non (B.cons (B.lst B.nil) (B.cons B.dnew (B.cons B.str (B.cons B.int (B.cons (B.tup B.nil) (B.cons (B.tup (B.cons (B.v 1) B.nil)) B.nil))))))))))) (B.fn F_law_take (hr.mono (by first | decide | omega)) (B.cons (B.v 0) (B.cons B.int B.nil)))))) B.snil)
      (B.scons (B.ifs (B.tcmp op_eq (B.v 5) B.int) (B.sone (B.ret (B.tup (B.cons (B.v 2) (B.cons (B.ix ix_list (B.lst (B.cons B.bl (B.cons B.bl (B.cons B.non (B.cons B.str (B.cons (B.tup (B.cons B.int B.nil)) (B.cons (B.lst (B.cons B.int B.nil)) B.nil))))))) (B.fn F_law_take (hr.mono (by first | decide | omega)) (B.cons (B.v 0) (B.cons B.int B.nil)))) (B.cons (B.v 4) B.nil)))))) B.snil)
      (B.scons (B.ifs (B.tcmp op_eq (B.v 5) B.int) (B.sone (B.ret (B.tup (B.cons (B.fn F_law_odd_rows (hr.mono (by first | decide | omega)) (B.cons (B.v 0) (B.cons (B.v 2) B.nil))) (B.cons (B.v 3) (B.cons (B.v 4) B.nil)))))) B.snil)
      (B.sone (B.ret (B.tup (B.cons (B.v 2) (B.cons (B.v 3) (B.cons (B.fn F_law_odd_rows (hr.mono (by first | decide | omega)) (B.cons (B.v 0) (B.cons (B.v 4) B.nil))) B.nil))))))))))), ?_⟩
    walk_at "W"
    refine ⟨u, _, rfl, SqT.of hu, rfl, _, _, rfl, ?_⟩
    walk_at "W"
    refine ⟨_, _, rfl, ?_⟩
    walk_at "W"
    refine ⟨_, _, rfl, ?_⟩
    walk_at "W"
    refine ⟨rfl, ?_⟩
    walk_at "W"
    refine wTake hp (by decide) (by decide) fun kind H1 c0 c1 R1 K1 => ?_
    have tk1 := rowTK hp K1
    have he1 := he.keep tk1
    have hn1 := hn.keep tk1
    have hu1 := tk1 _ _ hu
    have ae : Any (less p H1) ve (elD S.el) := el_any (he1.keep (tk_less R1))
    have an : Any (less p H1) vn (rowsD S.nw) := rows_any (hn1.keep (tk_less R1))
    have as_ : Anys (less p H1) [ve, .int S.mv, vn] [elD S.el, .int S.mv, rowsD S.nw] := an3 ae (.int _) an
    have au : Any (less p H1) (.ref u) (.tuple [elD S.el, .int S.mv, rowsD S.nw]) := .tup (less_tup R1 hu1) as_
    walk_at "W"
    refine ite2 (fun _ => ?_) (fun _ => ?_)
    · have A0 : AllA p (20 * n + 50) H1 [] := AllA.nil
      walk_at "W"
      refine ⟨u, _, rfl, .inr (SqT.of hu1), fun t1 h1 => ?_⟩
      have A1 := A0.lst R1 h1 as_ (by omega)
      have i1 := Same.new (o := .lst [ve, .int S.mv, vn]) h1
      have R2 := R1.same i1
      walk_at "W"
      refine ⟨2, rfl, u, _, rfl, i1 _ _ hu1, fun t2 H2 s2 ht2 => ?_⟩
      have i2 := i1.trans s2
      have R3 := R2.same s2
      have A2 := (A1.same s2).cons (.tup (less_tup R3 ht2) ((as_.same (less_same i2)).cut none (some 2))) (by
        have c := cutD_sz [elD S.el, .int S.mv, rowsD S.nw] none (some 2)
        have e : szL [elD S.el, .int S.mv, rowsD S.nw] = szD (elD S.el) + 1 + szD (rowsD S.nw) := by rw [szL, szL, szL, szL, sz_int]; omega
        rw [sz_tup]; omega)
      walk_at "W"
      refine ⟨one_, fun t3 h3 => ?_⟩
      have i3 := i2.trans (Same.new (o := .tup [.int 0]) h3)
      have A3 := A2.new (o := .tup [.int 0]) h3
      have R4 := R3.new (o := .tup [.int 0]) h3
      walk_at "W"
      refine ⟨u, t3, _, _, rfl, rfl, i3 _ _ hu1, upd_same, by show (4 : Nat) ≤ sizeLine; decide, fun t4 H4 s4 ht4 => ?_⟩
      have i4 := i3.trans s4
      have R5 := R4.same s4
      have A4 := (A3.same s4).cons (.tup (less_tup R5 ht4) (an_cat (as_.same (less_same i4)) (an1 (.int 0)))) (by
        rw [sz_tup, szL_app, szL, szL, szL, szL, szL, szL, sz_int, sz_int]; omega)
      have A5 := A4.cons .non (by rw [sz_none]; omega)
      walk_at "W"
      refine ⟨zero_, fun t6 h6 => ?_⟩
      have A6 := A5.lst (xs := []) R5 h6 an0 (by omega)
      have R6 := R5.new (o := .lst []) h6
      have i6 := i4.trans (Same.new (o := .lst []) h6)
      walk_at "W"
      intro t7 h7
      have A7 := A6.dic R6 h7 (by omega)
      have R7 := R6.new (o := .dK []) h7
      have i7 := i6.trans (Same.new (o := .dK []) h7)
      have A8 := A7.cons (.str "state") (by rw [sz_str]; omega)
      have A9 := A8.cons (.int 5) (by rw [sz_int]; omega)
      walk_at "W"
      refine ⟨zero_, fun t10 h10 => ?_⟩
      have A10 := A9.tup (xs := []) R7 h10 an0 (by rw [sz_0]; omega)
      have R10 := R7.new (o := .tup []) h10
      have i10 := i7.trans (Same.new (o := .tup []) h10)
      walk_at "W"
      refine ⟨one_, fun t11 h11 => ?_⟩
      have A11 := A10.tup (xs := [.ref u]) R10 h11 (an1 (au.same (less_same i10))) (by rw [sz_1, sz_3, sz_int]; omega)
      have R11 := R10.new (o := .tup [.ref u]) h11
      have i11 := i10.trans (Same.new (o := .tup [.ref u]) h11)
      walk_at "W"
      refine ⟨by show (10 : Nat) ≤ sizeLine; decide, fun L hL => ?_⟩
      have j12 := Same.new (o := .lst [.ref t1, .ref t2, .ref t4, .non, .ref t6, .ref t7, .str "state", .int 5, .ref t10, .ref t11]) hL
      have A12 := A11.same j12
      have R12 := R11.same j12
      have i12 := i11.trans j12
      have nL := (R11.ne0 hL).symm
      walk_at "W"
      refine wTake R12 (by decide) (by decide) fun z H13 z0 z1 R13 K13 => ?_
      have e13 := K13 L _ nL upd_same
      first | (have zz_ := atI_in (xs := [V.ref t1, .ref t2, .ref t4, .non, .ref t6, .ref t7, .str "state", .int 5, .ref t10, .ref t11]) z0 z1; have v := zz_.1; have hv := zz_.2.1; have hm := zz_.2.2; clear zz_) | obtain ⟨v, hv, hm⟩ := atI_in (xs := [V.ref t1, .ref t2, .ref t4, .non, .ref t6, .ref t7, .str "state", .int 5, .ref t10, .ref t11]) z0 z1
      refine wIxL e13 hv ?_
      first | (have zz_ := (A12.but K13) v (List.mem_reverse.mp hm); have dd := zz_.1; have hd := zz_.2.1; have hs := zz_.2.2; clear zz_) | obtain ⟨dd, hd, hs⟩ := (A12.but K13) v (List.mem_reverse.mp hm)
      exact k _ _ dd hd (by omega) R13 ((K1.trans (SW.Same.but i12)).trans K13)
    · walk_at "W"
      refine ite2 (fun _ => ?_) (fun _ => ?_)
      · have A0 : AllA p 10 H1 [] := AllA.nil
        have A1 := A0.cons (.bl true) (by rw [sz_bool]; decide)
        have A2 := A1.cons (.bl false) (by rw [sz_bool]; decide)
        have A3 := A2.cons .non (by rw [sz_none]; decide)
        have A4 := A3.cons (.str "0") (by rw [sz_str]; decide)
        walk_at "W"
        refine ⟨one_, fun t1 h1 => ?_⟩
        have A5 := A4.tup (xs := [.int 0]) R1 h1 (an1 (.int _)) (by rw [sz_1, sz_int]; decide)
        have R2 := R1.new (o := .tup [.int 0]) h1
        have i2 := Same.new (o := .tup [.int 0]) h1
        walk_at "W"
        refine ⟨one_, fun t2 h2 => ?_⟩
        have A6 := A5.lst (xs := [.int 0]) R2 h2 (an1 (.int _)) (by decide)
        have R3 := R2.new (o := .lst [.int 0]) h2
        have i3 := i2.trans (Same.new (o := .lst [.int 0]) h2)
        walk_at "W"
        refine ⟨by show (6 : Nat) ≤ sizeLine; decide, fun L hL => ?_⟩
        have j4 := Same.new (o := .lst [.bl true, .bl false, .non, .str "0", .ref t1, .ref t2]) hL
        have A7 := A6.same j4
        have R4 := R3.same j4
        have i4 := i3.trans j4
        have nL := (R3.ne0 hL).symm
        walk_at "W"
        refine wTake R4 (by decide) (by decide) fun z H13 z0 z1 R13 K13 => ?_
        have e13 := K13 L _ nL upd_same
        first | (have zz_ := atI_in (xs := [V.bl true, .bl false, .non, .str "0", .ref t1, .ref t2]) z0 z1; have v := zz_.1; have hv := zz_.2.1; have hm := zz_.2.2; clear zz_) | obtain ⟨v, hv, hm⟩ := atI_in (xs := [V.bl true, .bl false, .non, .str "0", .ref t1, .ref t2]) z0 z1
        refine wIxL e13 hv ?_
        first | (have zz_ := (A7.but K13) v (List.mem_reverse.mp hm); have dd := zz_.1; have hd := zz_.2.1; have hs := zz_.2.2; clear zz_) | obtain ⟨dd, hd, hs⟩ := (A7.but K13) v (List.mem_reverse.mp hm)
        have K113 : KeepBut p H1 H13 := (SW.Same.but i4).trans K13
        walk_at "W"
        exact ⟨three, fin H13 _ _ _ _ _ _ (any_but ae K113) hd (any_but an K113) (by omega) R13 (K1.trans K113)⟩
      · walk_at "W"
        refine ite2 (fun _ => ?_) (fun _ => ?_)
        · walk_at "W"
          refine wOddR R1 he1 z1 (by omega) fun v H2 dd hd hs R2 K2 => ?_
          walk_at "W"
          exact ⟨three, fin H2 _ _ _ _ _ _ hd (.int S.mv) (any_but an K2) (by rw [sz_int]; omega) R2 (K1.trans K2)⟩
        · walk_at "W"
          refine wOddR (e := some S.nw) R1 hn1 z2 (by omega) fun v H2 dd hd hs R2 K2 => ?_
          walk_at "W"
          exact ⟨three, fin H2 _ _ _ _ _ _ (any_but ae K2) (.int S.mv) hd (by rw [sz_int]; omega) R2 (K1.trans K2)⟩
end

section
variable {P : Program} {w : World} {K : PySem.W.Frag} {mg : Str → Option Value} {base : Heap} 
theorem F_worth (d : Dfn K mg "_law_worth" s_law_worth ["row"]) (F_law_take : Fn P w K mg base "_law_take" 1 ["row", "many"] spTake) : Fn P w K mg base "_law_worth" 2 ["row"] spWorth := by
  refine d.fn sc_law_worth (fun vs H Q E h => ?_) (fun f cdv A outer s H vs Q E hr h => ?_)
  · obtain ⟨p, rfl, _⟩ := h
    rfl
  · obtain ⟨p, rfl, hp, k⟩ := h
    refine ⟨_, (B.sone (B.ret (B.ix ix_list (B.lst (B.cons B.int (B.cons (B.un un_neg B.int) (B.cons (B.op op_sub (B.fn F_law_take (hr.mono (by first | decide | omega)) (B.cons (B.v 0) (B.cons (B.op op_add (B.op op_mul B.int (B.op op_pow B.int B.int)) B.int) B.nil))) (B.op op_pow B.int B.int)) (B.cons (B.op op_pow B.int B.int) (B.cons (B.fn F_law_take (hr.mono (by first | decide | omega)) (B.cons (B.v 0) (B.cons B.int B.nil))) B.nil)))))) (B.fn F_law_take (hr.mono (by first | decide | omega)) (B.cons (B.v 0) (B.cons B.int B.nil)))))), ?_⟩
    walk_at "W"
    refine wTake hp (by decide) (by decide) fun r1 H1 a1 b1 R1 K1 => ?_
    have e9 : (10 : Int) ^ (Int.toNat 9) = 1000000000 := by decide
    walk_at "W"
    refine wTake R1 (by decide) (by decide) fun r2 H2 a2 b2 R2 K2 => ?_
    walk_at "W"
    refine ⟨by show (5 : Nat) ≤ sizeLine; decide, fun q hq => ?_⟩
    walk_at "W"
    refine wTake (R2.new hq) (by decide) (by decide) fun r5 H5 a5 b5 R5 K5 => ?_
    have e5 := K5 q _ (R2.ne0 hq).symm upd_same
    first | (have zz_ := atI_in (xs := [V.int 0, V.int (-1), V.int (r1 - 10 ^ (Int.toNat 9)), V.int (10 ^ (Int.toNat 9)), V.int r2]) a5 b5; have v := zz_.1; have hv := zz_.2.1; have hm := zz_.2.2; clear zz_) | obtain ⟨v, hv, hm⟩ := atI_in (xs := [V.int 0, V.int (-1), V.int (r1 - 10 ^ (Int.toNat 9)), V.int (10 ^ (Int.toNat 9)), V.int r2]) a5 b5
    refine wIxL e5 hv ?_
    obtain ⟨z, rfl, z0, z1⟩ : ∃ z, v = V.int z ∧ -1000000000 ≤ z ∧ z ≤ 1000000000 := by
      rw [e9] at hm b1
      simp only [List.mem_cons, List.not_mem_nil, or_false] at hm
      rcases hm with rfl | rfl | rfl | rfl | rfl
      · exact ⟨_, rfl, by decide, by decide⟩
      · exact ⟨_, rfl, by decide, by decide⟩
      · exact ⟨_, rfl, by omega, by omega⟩
      · exact ⟨_, rfl, by decide, by decide⟩
      · exact ⟨_, rfl, by omega, by omega⟩
    exact k z H5 z0 z1 R5 ((K1.trans K2).trans ((KeepBut.new hq).trans K5))
end
theorem stNew {H : Hp} {t : Addr} {ve vn : V} {el : Option MRows} {nw : MRows} {mv : Int} (ht : H t = none) (h1 : ElV H ve el) (h2 : RowsV H vn nw) : StV (upd H t (.tup [ve, .int mv, vn])) (.ref t) ⟨el, mv, nw⟩ :=
  ⟨t, ve, vn, rfl, upd_same, h1.keep (SW.Same.tk (Same.new ht)), h2.keep (SW.Same.tk (Same.new ht))⟩
theorem rowsNew {H : Hp} {t : Addr} {xs : List V} {R : MRows} (ht : H t = none) (h : Paired (RowV H) xs R) : RowsV (upd H t (.tup xs)) (.ref t) R :=
  ⟨t, xs, rfl, upd_same, rows_keep h (SW.Same.tk (Same.new ht))⟩
theorem rowNew {H : Hp} {t : Addr} {xs : List V} {r : MRow} (ht : H t = none) (h : Prs H xs r) : RowV (upd H t (.tup xs)) (.ref t) r :=
  ⟨t, xs, rfl, upd_same, h.keep (SW.Same.tk (Same.new ht))⟩
theorem prNew {H : Hp} {t : Addr} {a b : Int} (_ : H t = none) : PrV (upd H t (.tup [.int a, .int b])) (.ref t) (a, b) := ⟨t, rfl, upd_same⟩
noncomputable def bare (n : Nat) : MRows := List.replicate n []
theorem bare_len (n : Nat) : (bare n).length = n := List.length_replicate ..
theorem flt_size {f m mv : Int} {nw : MRows} (n : Nat) (hn : nw.length = n) (h : decide (isSize n) = false) (el : Option MRows) : faultOf f m ⟨el, mv, nw⟩ = some .places := by
  refine if_pos ?_
  unfold rightP
  show (decide (isSize nw.length) && _) = false
  rw [hn, h]; rfl
theorem flt_sizeE {f m mv : Int} {nw E : MRows} (n : Nat) (hn : E.length = n) (h : decide (isSize n) = false) : faultOf f m ⟨some E, mv, nw⟩ = some .places := by
  refine if_pos ?_
  unfold rightP
  show (decide (isSize nw.length) && (decide (isSize E.length) && _)) = false
  rw [hn, h, Bool.false_and, Bool.and_false]
theorem flt_bare (n : Nat) (h : decide (isSize n) = true) : faultOf 1 0 ⟨none, 0, bare n⟩ = none := by
  refine right_of ?_ rfl (inpl_bare 0) (inpl_bare n) ?_
  · unfold rightP
    show (decide (isSize (bare n).length) && true) = true
    rw [bare_len, h]; rfl
  · show ([] ++ kall (List.replicate n [])).Nodup
    rw [kall_bare]
    exact List.nodup_nil
theorem repRows {H : Hp} {Q : VK} {n : Nat} {t1 t2 : Addr} (h2 : H t2 = some (.tup [.ref t1])) (h1 : H t1 = some (.tup [])) (hn : 1 < n) (hl : n ≤ 10000) (k : ∀ v H', Same H H' → RowsV H' v (bare n) → Q v H') : SW.rRepT (.ref t2) (.int (n : Int)) H Q := by
  have lim : sizeLine = 16777216 := sizeLine_eq
  refine ⟨t2, n, [.ref t1], rfl, rfl, h2, List.cons_ne_nil _ _, by omega, by omega, by rw [Int.toNat_natCast]; show 1 * n ≤ _; omega, fun t3 h3 => ?_⟩
  rw [Int.toNat_natCast]
  exact k _ _ (Same.new h3) (rowsNew h3 (rep_bare n H t1 h1))
theorem flt_bareE : faultOf 1 0 ⟨some (bare 4096), 4095, bare 2048⟩ = none := by
  refine right_of ?_ ?_ (inpl_bare 4096) (inpl_bare 2048) ?_
  · unfold rightP
    show (decide (isSize (bare 2048).length) && (decide (isSize (bare 4096).length) && (decide ((bare 4096).length = 2 * (bare 2048).length) || _))) = true
    rw [bare_len, bare_len]; rfl
  · unfold rightM
    show (decide ((0 : Int) ≤ 4095) && decide ((4095 : Int) < ((bare 4096).length : Int))) = true
    rw [bare_len]; rfl
  · show (kall (List.replicate 4096 []) ++ kall (List.replicate 2048 [])).Nodup
    rw [kall_bare, kall_bare]
    exact List.nodup_nil
theorem sz_bare (n : Nat) : szD (rowsD (bare n)) = 1 + n := by
  rw [sz_rowsD, bare_len, show tot (bare n) = 0 from tot_bare n]; omega
theorem rows_bare (n : Nat) : areRowsD (rowsD (bare n)) = true := by
  show ((bare n).map rowD).all isRowD = true
  rw [List.all_eq_true]
  intro x hx
  obtain ⟨r, hr, rfl⟩ := List.mem_map.mp hx
  rw [List.eq_of_mem_replicate hr]
  rfl
theorem is_bareE (n m : Nat) (mv : Int) : isStateD (stD ⟨some (bare n), mv, bare m⟩) = true := by
  show (isElD (rowsD (bare n)) && true && areRowsD (rowsD (bare m))) = true
  rw [rows_bare, show isElD (rowsD (bare n)) = areRowsD (rowsD (bare n)) from rfl, rows_bare]; rfl
theorem is_bare (m : Nat) (mv : Int) : isStateD (stD ⟨none, mv, bare m⟩) = true := by
  show (true && true && areRowsD (rowsD (bare m))) = true
  rw [rows_bare]; rfl
theorem wSoundY {H : Hp} {Q : VK} {E : XK} {v : V} {S : Sta} {t : Addr} {f m : Int} {b : Bool} (h1 : StV H v S) (hz : szD (stD S) ≤ 100000) (hs : isStateD (stD S) = true) (h4 : H t = some (.tup [.int f, .int m])) (h5 : 0 ≤ f ∧ f ≤ 65535) (hb : (faultOf f m S).isNone = b) (q : ∀ H', Same H H' → Q (.bl b) H') : spSoundA ([v, .ref t] ++ []) H Q E :=
  wSoundA (st_any h1) (wd3_of hz) (big_of hz) h4 h5 fun H' b' s _ y => by rw [y hs S rfl, hb]; exact q H' s
theorem wSoundN {H : Hp} {Q : VK} {E : XK} {v : V} {d : PyData} {t : Addr} {f m : Int} (h1 : Any H v d) (hz : szD d ≤ 100000) (hs : isStateD d = false) (h4 : H t = some (.tup [.int f, .int m])) (h5 : 0 ≤ f ∧ f ≤ 65535) (q : ∀ H', Same H H' → Q (.bl false) H') : spSoundA ([v, .ref t] ++ []) H Q E :=
  wSoundA h1 (wd3_of hz) (big_of hz) h4 h5 fun H' b' s n _ => by rw [n hs]; exact q H' s
theorem is3 (a b c : PyData) : isStateD (.tuple [a, b, c]) = (isElD a && isWhD b && areRowsD c) := rfl
noncomputable def NotS (H : Hp) (vs : List V) : Prop := ∀ v ∈ vs, ∃ d, Any H v d ∧ szD d ≤ 1000 ∧ isStateD d = false
theorem NotS.same {H H' : Hp} {vs : List V} (A : NotS H vs) (s : Same H H') : NotS H' vs := fun v h => by
  first | (have zz_ := A v h; have d := zz_.1; have h1 := zz_.2.1; have h2 := zz_.2.2.1; have h3 := zz_.2.2.2; clear zz_) | obtain ⟨d, h1, h2, h3⟩ := A v h
  exact ⟨d, h1.same s, h2, h3⟩
theorem NotS.cons {H : Hp} {v : V} {vs : List V} (A : NotS H vs) {d : PyData} (h : Any H v d) (h2 : szD d ≤ 1000) (h3 : isStateD d = false) : NotS H (v :: vs) := fun x hx => by
  rcases List.mem_cons.mp hx with rfl | hx
  · exact ⟨d, h, h2, h3⟩
  · exact A x hx
theorem NotS.tup {H : Hp} {vs : List V} {t : Addr} {xs : List V} {ds : List PyData} (A : NotS H vs) (h : H t = none) (r : Anys H xs ds) (h2 : szD (.tuple ds) ≤ 1000) (h3 : isStateD (.tuple ds) = false) : NotS (upd H t (.tup xs)) (.ref t :: vs) :=
  NotS.cons (A.same (Same.new h)) (.tup upd_same (r.same (Same.new h))) h2 h3
theorem sz_st {n : Nat} {S : Sta} (h : SzS n S) : szD (stD S) ≤ 8 * n + 4 := by
  have h1 := sz_el h.1
  have h2 := sz_nw h.2
  rw [sz_stD]; omega
theorem eleven {i : Nat} {y : V} (h : [V.int 4, .int 8, .int 16, .int 32, .int 64, .int 128, .int 256, .int 512, .int 1024, .int 2048, .int 4096][i]? = some y) : ∃ n : Nat, y = .int n ∧ decide (isSize n) = true ∧ decide (isSize (n + 1)) = false ∧ 4 ≤ n ∧ n ≤ 4096 := by
  have hm := List.mem_of_getElem? h
  simp only [List.mem_cons, List.not_mem_nil, or_false] at hm
  rcases hm with rfl | rfl | rfl | rfl | rfl | rfl | rfl | rfl | rfl | rfl | rfl
  · exact ⟨4, rfl, rfl, rfl, by decide, by decide⟩
  · exact ⟨8, rfl, rfl, rfl, by decide, by decide⟩
  · exact ⟨16, rfl, rfl, rfl, by decide, by decide⟩
  · exact ⟨32, rfl, rfl, rfl, by decide, by decide⟩
  · exact ⟨64, rfl, rfl, rfl, by decide, by decide⟩
  · exact ⟨128, rfl, rfl, rfl, by decide, by decide⟩
  · exact ⟨256, rfl, rfl, rfl, by decide, by decide⟩
  · exact ⟨512, rfl, rfl, rfl, by decide, by decide⟩
  · exact ⟨1024, rfl, rfl, rfl, by decide, by decide⟩
  · exact ⟨2048, rfl, rfl, rfl, by decide, by decide⟩
  · exact ⟨4096, rfl, rfl, rfl, by decide, by decide⟩
theorem one_key (k : Int) : isStateD (stD ⟨none, 0, [[(k, 0)], [], [], []]⟩) = (decide (0 ≤ k) && decide (k ≤ 1000000000)) := by
  show _ = isInD 0 (.int k)
  show (true && true && (((isInD 0 (.int k) && true) && true) && true)) = isInD 0 (.int k)
  cases isInD 0 (.int k) <;> rfl
noncomputable def KS (H : Hp) (vs : List V) : Prop := ∀ v ∈ vs, ∃ (u : Addr) (kx : Int) (bb : Bool), v = .ref u ∧ H u = some (.tup [.int kx, .bl bb]) ∧ bb = (decide (0 ≤ kx) && decide (kx ≤ 1000000000))
theorem KS.nil {H : Hp} : KS H [] := fun v h => by cases h
theorem KS.cons {H : Hp} {vs : List V} {u : Addr} {kx : Int} {bb : Bool} (A : KS H vs) (h : H u = some (.tup [.int kx, .bl bb])) (e : bb = (decide (0 ≤ kx) && decide (kx ≤ 1000000000))) : KS H (.ref u :: vs) := fun x hx => by
  rcases List.mem_cons.mp hx with rfl | hx
  · exact ⟨u, kx, bb, rfl, h, e⟩
  · exact A x hx
theorem sz_key (k : Int) : szD (stD ⟨none, 0, [[(k, 0)], [], [], []]⟩) ≤ 100000 := by
  rw [sz_stD, sz_rowsD]
  show 2 + szD .none + (1 + (4 + 3 * 1)) ≤ _
  rw [sz_none]; decide
theorem flt_key (k : Int) : faultOf 0 0 ⟨none, 0, [[(k, 0)], [], [], []]⟩ = none := by
  refine right_of rfl rfl (inpl_bare 0) ?_ ?_
  · intro i r e x hx
    rw [Int.mul_zero]
    rcases i with _ | _ | _ | _ | i
    · exact ⟨rfl, by decide⟩
    · cases e; cases hx
    · cases e; cases hx
    · cases e; cases hx
    · cases e
  · show [k].Nodup
    exact List.nodup_cons.mpr ⟨List.not_mem_nil, List.nodup_nil⟩
section
variable {P : Program} {w : World} {K : PySem.W.Frag} {mg : Str → Option Value} {base : Heap} 
theorem F_sizeA (d : Dfn K mg "is_size" s_is_size ["thing"]) (g : Gs K mg) (F_is_whole : Fn P w K mg base "is_whole" 1 ["thing"] spWholeA) : Fn P w K mg base "is_size" 2 ["thing"] spIsSizeB :=
  F_sizeB d g (F_is_whole.imp fun vs H Q E h => by
    obtain ⟨i, rfl, q⟩ := h
    exact ⟨_, .int i, rfl, .int i, q⟩)
end
section
variable {P : Program} {w : World} {K : PySem.W.Frag} {mg : Str → Option Value} {base : Heap} 
theorem ok_law {f : Addr} {fd : FuncData} (F : Fun K "law" "law" s_law f fd) (g : Gs K mg)
    (F_is_whole : Fn P w K mg base "is_whole" 1 ["thing"] spWholeA) (F_is_size : Fn P w K mg base "is_size" 2 ["thing"] spIsSizeB) (F_is_key : Fn P w K mg base "is_key" 2 ["thing"] (spInA 0)) (F_is_worth : Fn P w K mg base "is_worth" 2 ["thing"] (spInA (-1000000000))) (F_mark_of : Fn P w K mg base "mark_of" 1 ["key", "mixer"] spMark) (F_place_of : Fn P w K mg base "place_of" 1 ["mark", "size"] spPlace)
    (F_has_right_places : Fn P w K mg base "has_right_places" 3 ["elder", "newer"] spPlacesR) (F_has_right_moved : Fn P w K mg base "has_right_moved" 1 ["elder", "moved"] spMovedR) (F_keys_in_turn : Fn P w K mg base "keys_in_turn" 1 ["state"] spKeysT) (F_first_fault_of_pairs : Fn P w K mg base "first_fault_of_pairs" 2 ["state", "mixer"] spPairsF)
    (F_first_fault : Fn P w K mg base "first_fault" 4 ["state", "mixer"] spFaultF) (F_is_pair : Fn P w K mg base "is_pair" 3 ["thing"] spPairA) (F_is_row : Fn P w K mg base "is_row" 4 ["thing"] spRowA) (F_are_rows : Fn P w K mg base "are_rows" 5 ["thing"] spRowsA) (F_is_state : Fn P w K mg base "is_state" 6 ["thing"] spStateA) (F_is_sound : Fn P w K mg base "is_sound" 7 ["state", "mixer"] spSoundA)
    (F_law_stream : Fn P w K mg base "_law_stream" 1 ["cell"] spStream) (F_law_take : Fn P w K mg base "_law_take" 1 ["row", "many"] spTake) (F_law_mixer : Fn P w K mg base "_law_mixer" 2 ["row"] spMixer) (F_law_key : Fn P w K mg base "_law_key" 2 ["row"] spKey) (F_law_worth : Fn P w K mg base "_law_worth" 2 ["row"] spWorth)
    (F_law_table_state : Fn P w K mg base "_law_table_state" 3 ["row", "mixer"] spTabSt) (F_law_shelf_fault : Fn P w K mg base "_law_shelf_fault" 1 ["name", "rows", "moved", "mixer", "seen"] spShelfFault) (F_law_due : Fn P w K mg base "_law_due" 2 ["state", "mixer"] spDue)
    (F_law_other_rows : Fn P w K mg base "_law_other_rows" 3 ["row", "rows"] spOtherR) (F_law_bent : Fn P w K mg base "_law_bent" 4 ["row", "state"] spBentR) (F_law_number : Fn P w K mg base "_law_number" 1 ["thing", "least"] spNum) (F_law_are_rows : Fn P w K mg base "_law_are_rows" 2 ["rows"] spRowsA) (F_law_is : Fn P w K mg base "_law_is" 3 ["thing", "mixer"] spIsA)
    (F_law_odd_pair : Fn P w K mg base "_law_odd_pair" 2 ["row", "pair"] spOddP) (F_law_odd_rows : Fn P w K mg base "_law_odd_rows" 3 ["row", "rows"] spOddR) (F_law_odd : Fn P w K mg base "_law_odd" 4 ["row", "state"] spOddS) (F_law_right : Fn P w K mg base "_law_right" 8 ["thing", "mixer"] spRightA) :
    FnOk P w K mg base CX0 9 f fd ["script"] (spLaw K) := by
  refine fun_bx F sc_law (fun vs H Q E h => ?_) (fun cdv A outer st H vs Q E hr h => ?_)
  · obtain ⟨a, ns, rfl, _⟩ := h
    rfl
  · obtain ⟨a, ns, rfl, hS, hlen, k⟩ := h
    have lim : sizeLine = 16777216 := sizeLine_eq
    have zero_ : (0 : Nat) ≤ sizeLine := by decide
    have one_ : (1 : Nat) ≤ sizeLine := by decide
    have two_ : (2 : Nat) ≤ sizeLine := by decide
    have three_ : (3 : Nat) ≤ sizeLine := by decide
    refine ⟨_, (B.scons (B.fors (B.ilist (B.op op_cat (B.lst (B.cons B.int B.nil)) (B.slice sl_list (B.v 0) B.nopart (B.part B.int)))) (B.gname (i := 1) sc_law.nd) (B.scons (B.set 2 sc_law.nd (B.fn F_law_stream (hr.mono (by first | decide | omega)) (B.cons (B.v 1) B.nil)))
      (B.scons (B.set 3 sc_law.nd (B.fn F_law_mixer (hr.mono (by first | decide | omega)) (B.cons (B.v 2) B.nil)))
      (B.scons (B.set 4 sc_law.nd (B.fn F_law_table_state (hr.mono (by first | decide | omega)) (B.cons (B.v 2) (B.cons (B.v 3) B.nil))))
      (B.scons (B.set 5 sc_law.nd (B.fn F_law_bent (hr.mono (by first | decide | omega)) (B.cons (B.v 2) (B.cons (B.v 4) B.nil))))
      (B.sone (B.fors (B.ilist (B.lst (B.cons (B.v 4) (B.cons (B.v 5) (B.cons (B.fn F_law_odd (hr.mono (by first | decide | omega)) (B.cons (B.v 2) (B.cons (B.v 4) B.nil))) (B.cons (B.fn F_law_odd (hr.mono (by first | decide | omega)) (B.cons (B.v 2) (B.cons (B.v 4) B.nil))) (B.cons (B.fn F_law_odd (hr.mono (by first | decide | omega)) (B.cons (B.v 2) (B.cons (B.v 5) B.nil))) B.nil))))))) (B.gname (i := 6) sc_law.nd) (B.sone (B.ifs (B.tnot (B.tval (B.fn F_law_right (hr.mono (by first | decide | omega)) (B.cons (B.v 6) (B.cons (B.v 3) B.nil))))) (B.sone (B.ret B.bl)) B.snil)))))))))
      (B.scons (B.fors (B.ilist (B.lst (B.cons (B.tup (B.cons B.non (B.cons B.int (B.cons B.non B.nil)))) (B.cons (B.tup (B.cons (B.op SW.op_repT (B.tup (B.cons (B.tup B.nil) B.nil)) B.int) (B.cons B.int (B.cons B.non B.nil)))) (B.cons (B.tup (B.cons (B.op SW.op_repT (B.tup (B.cons (B.tup B.nil) B.nil)) B.int) (B.cons B.non (B.cons B.non B.nil)))) (B.cons (B.tup (B.cons B.non (B.cons B.non (B.cons (B.op SW.op_repT (B.tup (B.cons (B.tup B.nil) B.nil)) B.int) B.nil)))) B.nil)))))) (B.gname (i := 6) sc_law.nd) (B.sone (B.ifs (B.tcmp SW.op_notB (B.fn F_is_sound (hr.mono (by first | decide | omega)) (B.cons (B.v 6) (B.cons (B.tup (B.cons B.int (B.cons B.int B.nil))) B.nil))) B.bl) (B.sone (B.ret B.bl)) B.snil)))
      (B.scons (B.fors (B.ilist (B.lst (B.cons B.int (B.cons B.int (B.cons B.int (B.cons B.int (B.cons B.int (B.cons B.int (B.cons B.int (B.cons B.int (B.cons B.int (B.cons B.int (B.cons B.int B.nil))))))))))))) (B.gname (i := 7) sc_law.nd) (B.sone (B.ifs (B.tw (B.wor (B.tcmp SW.op_notB (B.fn F_is_sound (hr.mono (by first | decide | omega)) (B.cons (B.tup (B.cons B.non (B.cons B.int (B.cons (B.op SW.op_repT (B.tup (B.cons (B.tup B.nil) B.nil)) (B.v 7)) B.nil)))) (B.cons (B.tup (B.cons B.int (B.cons B.int B.nil))) B.nil))) B.bl) (B.wor1 (B.tval (B.fn F_is_sound (hr.mono (by first | decide | omega)) (B.cons (B.tup (B.cons B.non (B.cons B.int (B.cons (B.op SW.op_repT (B.tup (B.cons (B.tup B.nil) B.nil)) (B.op op_add (B.v 7) B.int)) B.nil)))) (B.cons (B.tup (B.cons B.int (B.cons B.int B.nil))) B.nil))))))) (B.sone (B.ret B.bl)) B.snil)))
      (B.scons (B.ifs (B.tcmp SW.op_notB (B.fn F_is_sound (hr.mono (by first | decide | omega)) (B.cons (B.tup (B.cons (B.op SW.op_repT (B.tup (B.cons (B.tup B.nil) B.nil)) B.int) (B.cons B.int (B.cons (B.op SW.op_repT (B.tup (B.cons (B.tup B.nil) B.nil)) B.int) B.nil)))) (B.cons (B.tup (B.cons B.int (B.cons B.int B.nil))) B.nil))) B.bl) (B.sone (B.ret B.bl)) B.snil)
      (B.scons (B.ifs (B.tcmp SW.op_notB (B.fn F_is_sound (hr.mono (by first | decide | omega)) (B.cons (B.tup (B.cons B.non (B.cons B.int (B.cons (B.op SW.op_repT (B.tup (B.cons (B.tup B.nil) B.nil)) B.int) B.nil)))) (B.cons (B.tup (B.cons B.int (B.cons B.int B.nil))) B.nil))) B.bl) (B.sone (B.ret B.bl)) B.snil)
      (B.scons (B.ifs (B.tcmp SW.op_notB (B.fn F_is_sound (hr.mono (by first | decide | omega)) (B.cons (B.tup (B.cons (B.op SW.op_repT (B.tup (B.cons (B.tup B.nil) B.nil)) B.int) (B.cons B.int (B.cons (B.op SW.op_repT (B.tup (B.cons (B.tup B.nil) B.nil)) B.int) B.nil)))) (B.cons (B.tup (B.cons B.int (B.cons B.int B.nil))) B.nil))) B.bl) (B.sone (B.ret B.bl)) B.snil)
      (B.scons (B.fors (B.ilist (B.lst (B.cons (B.tup (B.cons (B.op op_pow B.int B.int) (B.cons B.bl B.nil))) (B.cons (B.tup (B.cons (B.op op_add (B.op op_pow B.int B.int) B.int) (B.cons B.bl B.nil))) (B.cons (B.tup (B.cons (B.un un_neg B.int) (B.cons B.bl B.nil))) B.nil))))) (B.gtup (B.gcons (B.gname (i := 8) sc_law.nd) (B.gcons (B.gname (i := 9) sc_law.nd) B.gnil))) (B.sone (B.ifs (B.tcmp op_ne (B.fn F_is_sound (hr.mono (by first | decide | omega)) (B.cons (B.tup (B.cons B.non (B.cons B.int (B.cons (B.tup (B.cons (B.tup (B.cons (B.tup (B.cons (B.v 8) (B.cons B.int B.nil))) B.nil)) (B.cons (B.tup B.nil) (B.cons (B.tup B.nil) (B.cons (B.tup B.nil) B.nil))))) B.nil)))) (B.cons (B.tup (B.cons B.int (B.cons B.int B.nil))) B.nil))) (B.v 9)) (B.sone (B.ret B.bl)) B.snil)))
      (B.sone (B.ret (B.and (B.cmp SW.op_isB (B.fn F_is_sound (hr.mono (by first | decide | omega)) (B.cons (B.tup (B.cons B.non (B.cons B.bl (B.cons (B.tup (B.cons (B.tup B.nil) (B.cons (B.tup B.nil) (B.cons (B.tup B.nil) (B.cons (B.tup B.nil) B.nil))))) B.nil)))) (B.cons (B.tup (B.cons B.int (B.cons B.int B.nil))) B.nil))) B.bl) (B.one (B.cmp SW.op_isB (B.fn F_is_sound (hr.mono (by first | decide | omega)) (B.cons B.non (B.cons (B.tup (B.cons B.int (B.cons B.int B.nil))) B.nil))) B.bl)))))))))))), ?_⟩
    walk_at "W"
    refine ⟨one_, fun l1 h1 => ?_⟩
    have s1 := Same.new (o := .lst [.int 0]) h1
    walk_at "W"
    refine ⟨30, rfl, a, _, rfl, s1.seq hS, fun l2 h2 => ?_⟩
    first | (have zz_ := cut_ints ns none (some 30); have cs := zz_.1; have ecs := zz_.2.1; have hcs := zz_.2.2; clear zz_) | obtain ⟨cs, ecs, hcs⟩ := cut_ints ns none (some 30)
    rw [ecs]
    have s2 := Same.new (o := .lst (cs.map V.int)) h2
    walk_at "W"
    refine ⟨l1, l2, _, _, rfl, rfl, s2 _ _ upd_same, upd_same, by rw [List.length_map]; show 1 + _ ≤ sizeLine; omega, fun q hq => ?_⟩
    obtain ⟨ds, hds⟩ : ∃ ds : List Int, ds = 0 :: cs := ⟨_, rfl⟩
    rw [show [V.int 0] ++ cs.map V.int = ds.map V.int by rw [hds]; rfl]
    refine ⟨q, rfl, ⟨_, SqL.of upd_same⟩, ?_⟩
    refine SW.forListC (xs := ds.map V.int) (fun i σ H' => ∃ v1 v2 v3 v4 v5 v6, σ = [some (.ref a), v1, v2, v3, v4, v5, v6, none, none, none] ∧ H' q = some (.lst (ds.map V.int)))
      ⟨none, none, none, none, none, none, rfl, upd_same⟩ (fun i σ H' _ ⟨_, _, _, _, _, _, _, h⟩ => SqL.of h) ?_ ?_
    · rintro i y σ H2 hi ⟨v1, v2, v3, v4, v5, v6, rfl, hq2⟩
      obtain ⟨c, rfl⟩ := getInt hi
      clear s1 s2
      walk_at "W"
      refine wStream fun p o hp R3 => ?_
      have nqp : q ≠ p := ne_of_none hq2 hp
      have q3 := Same.new (o := o) hp _ _ hq2
      walk_at "W"
      refine wMixer R3 fun t H4 mx R4 K4 => ?_
      first | (have zz_ := mx; have fa := zz_.1; have mo := zz_.2.1; have ht4 := zz_.2.2.1; have f0 := zz_.2.2.2.1; have f1 := zz_.2.2.2.2.1; clear zz_) | obtain ⟨fa, mo, ht4, f0, f1, _⟩ := mx
      have q4 := K4 _ _ nqp q3
      walk_at "W"
      refine wTabSt R4 ht4 ⟨f0, f1⟩ fun vs5 H5 S hS5 hz5 hf5 R5 K5 => ?_
      have q5 := K5 _ _ nqp q4
      have ht5 := rowTK R4 K5 _ _ ht4
      walk_at "W"
      refine wBentR R5 hS5 hz5 (by decide) fun vb H6 S6 hS6 hz6 R6 K6 => ?_
      have q6 := K6 _ _ nqp q5
      have ht6 := rowTK R5 K6 _ _ ht5
      have hS56 := hS5.keep (rowTK R5 K6)
      clear q3 q4 q5 ht4 ht5 hS5
      have A6 : AllA p 5000 H6 [vb, vs5] := (AllA.nil.cons (st_any (hS56.keep (tk_less R6))) (by have := sz_st hz5; omega)).cons (st_any (hS6.keep (tk_less R6))) (by have := sz_st hz6; omega)
      walk_at "W"
      refine wOddS R6 hS56 hz5 (by decide) fun v7 H7 d7 a7 z7 R7 K7 => ?_
      have A7 := (A6.but K7).cons a7 (by omega)
      walk_at "W"
      refine wOddS R7 (hS56.keep (rowTK R6 K7)) hz5 (by decide) fun v8 H8 d8 a8 z8 R8 K8 => ?_
      have A8 := (A7.but K8).cons a8 (by omega)
      have K68 := K7.trans K8
      walk_at "W"
      refine wOddS R8 (hS6.keep (rowTK R6 K68)) hz6 (by decide) fun v9 H9 d9 a9 z9 R9 K9 => ?_
      have A9 := (A8.but K9).cons a9 (by omega)
      have K69 := K68.trans K9
      have q9 := K69 _ _ nqp q6
      have ht9 := rowTK R6 K69 _ _ ht6
      clear A6 A7 A8 q6 ht6 a7 a8 a9
      walk_at "W"
      refine ⟨by show (5 : Nat) ≤ sizeLine; decide, fun L hL => ?_⟩
      have i10 := Same.new (o := .lst [vs5, vb, v7, v8, v9]) hL
      have A10 := A9.same i10
      have q10 := i10 _ _ q9
      have ht10 := i10 _ _ ht9
      walk_at "W"
      refine ⟨L, rfl, ⟨_, SqL.of upd_same⟩, ?_⟩
      refine SW.forListC (xs := [vs5, vb, v7, v8, v9]) (fun i σ H' => ∃ v6, σ = [some (.ref a), some (.int c), some (.ref p), some (.ref t), some vs5, some vb, v6, none, none, none] ∧ Same (upd H9 L (.lst [vs5, vb, v7, v8, v9])) H')
        ⟨v6, rfl, Same.refl _⟩ (fun i σ H' _ ⟨_, _, h⟩ => SqL.of (h _ _ upd_same)) ?_ ?_
      · rintro j x σ' H11 hj ⟨v6', rfl, s11⟩
        first | (have zz_ := A10 x (List.mem_reverse.mp (List.mem_of_getElem? hj)); have dd := zz_.1; have hd := zz_.2.1; have hz := zz_.2.2; clear zz_) | obtain ⟨dd, hd, hz⟩ := A10 x (List.mem_reverse.mp (List.mem_of_getElem? hj))
        walk_at "W"
        refine wRightA ((any_up hd).same s11) (by omega) (s11 _ _ ht10) ⟨f0, f1⟩ fun H12 s12 => ?_
        walk_at "W"
        refine iteF ?_
        walk_at "W"
        exact ⟨_, rfl, s11.trans s12⟩
      · rintro σ' H11 ⟨v6', rfl, s11⟩
        walk_at "W"
        exact ⟨_, _, _, _, _, _, rfl, s11 _ _ q10⟩
    · rintro σ H2 ⟨v1, v2, v3, v4, v5, v6, rfl, hq2⟩
      clear hq2 s1 s2
      walk_at "W2"
      refine ⟨three_, fun t1 g1 => ?_⟩
      have A1 := NotS.tup (H := H2) (vs := []) (fun v h => by cases h) g1 (an3 (.non) (.int 0) .non) (by rw [sz_3, sz_none, sz_int]; decide) rfl
      walk_at "W2"
      refine ⟨zero_, fun t2 g2 => ?_⟩
      walk_at "W2"
      refine ⟨one_, fun t3 g3 => ?_⟩
      have i3 := (Same.new (o := .tup []) g2).trans (Same.new (o := .tup [.ref t2]) g3)
      walk_at "W2"
      refine repRows (n := 4) upd_same (Same.new (o := .tup [.ref t2]) g3 _ _ upd_same) (by decide) (by decide) fun u1 H4 s4 w1 => ?_
      walk_at "W2"
      refine ⟨three_, fun t4 g4 => ?_⟩
      have A2 := NotS.tup (A1.same (i3.trans s4)) g4 (an3 (rows_any w1) (.int 0) .non) (by rw [sz_3, sz_none, sz_int, sz_bare]; decide) (by rw [is3, show areRowsD .none = false from rfl, Bool.and_false])
      clear A1
      walk_at "W2"
      refine ⟨zero_, fun t5 g5 => ?_⟩
      walk_at "W2"
      refine ⟨one_, fun t6 g6 => ?_⟩
      have i6 := (Same.new (o := .tup []) g5).trans (Same.new (o := .tup [.ref t5]) g6)
      walk_at "W2"
      refine repRows (n := 4) upd_same (Same.new (o := .tup [.ref t5]) g6 _ _ upd_same) (by decide) (by decide) fun u2 H7 s7 w2 => ?_
      walk_at "W2"
      refine ⟨three_, fun t7 g7 => ?_⟩
      have A3 := NotS.tup (A2.same (i6.trans s7)) g7 (an3 (rows_any w2) .non .non) (by rw [sz_3, sz_none, sz_bare]; decide) (by rw [is3, show areRowsD .none = false from rfl, Bool.and_false])
      clear A2
      walk_at "W2"
      refine ⟨zero_, fun t8 g8 => ?_⟩
      walk_at "W2"
      refine ⟨one_, fun t9 g9 => ?_⟩
      have i9 := (Same.new (o := .tup []) g8).trans (Same.new (o := .tup [.ref t8]) g9)
      walk_at "W2"
      refine repRows (n := 4) upd_same (Same.new (o := .tup [.ref t8]) g9 _ _ upd_same) (by decide) (by decide) fun u3 H10 s10 w3 => ?_
      walk_at "W2"
      refine ⟨three_, fun t10 g10 => ?_⟩
      have A4 := NotS.tup (A3.same (i9.trans s10)) g10 (an3 .non .non (rows_any w3)) (by rw [sz_3, sz_none, sz_bare]; decide) (by rw [is3, show isWhD .none = false from rfl, Bool.and_false, Bool.false_and])
      clear A3
      walk_at "W2"
      refine ⟨by show (4 : Nat) ≤ sizeLine; decide, fun L hL => ?_⟩
      have A5 := A4.same (Same.new (o := .lst [.ref t1, .ref t4, .ref t7, .ref t10]) hL)
      obtain ⟨H11, hH11⟩ : ∃ H11, H11 = upd (upd H10 t10 (.tup [.non, .non, u3])) L (.lst [.ref t1, .ref t4, .ref t7, .ref t10]) := ⟨_, rfl⟩
      have eL : H11 L = some (.lst [.ref t1, .ref t4, .ref t7, .ref t10]) := by rw [hH11]; exact upd_same
      rw [← hH11] at A5 ⊢
      clear A4 hH11 w1 w2 w3 i3 i6 i9 s4 s7 s10 g1 g2 g3 g4 g5 g6 g7 g8 g9 g10 hL
      walk_at "W2"
      refine ⟨L, rfl, ⟨_, SqL.of eL⟩, ?_⟩
      refine SW.forListC (xs := [.ref t1, .ref t4, .ref t7, .ref t10]) (fun i σ H' => ∃ v6, σ = [some (.ref a), v1, v2, v3, v4, v5, v6, none, none, none] ∧ Same H11 H')
        ⟨v6, rfl, Same.refl _⟩ (fun i σ H' _ ⟨_, _, h⟩ => SqL.of (h _ _ eL)) ?_ ?_
      · rintro j x σ' H12 hj ⟨v6', rfl, s12⟩
        first | (have zz_ := A5 x (List.mem_reverse.mp (List.mem_of_getElem? hj)); have dd := zz_.1; have hd := zz_.2.1; have hz := zz_.2.2.1; have hn := zz_.2.2.2; clear zz_) | obtain ⟨dd, hd, hz, hn⟩ := A5 x (List.mem_reverse.mp (List.mem_of_getElem? hj))
        walk_at "W2"
        refine ⟨two_, fun m1 hm1 => ?_⟩
        have i13 := s12.trans (Same.new (o := .tup [.int 1, .int 0]) hm1)
        walk_at "W0"
        refine wSoundN (hd.same i13) (by omega) hn upd_same ⟨by decide, by decide⟩ fun H14 s14 => ?_
        walk_at "W2"
        refine ⟨false, false, rfl, rfl, ?_⟩
        walk_at "W2"
        refine iteF ?_
        walk_at "W2"
        exact ⟨_, rfl, i13.trans s14⟩
      rintro σ' H12 ⟨v6', rfl, s12⟩
      clear A5 s12 eL
      walk_at "W2"
      refine ⟨by show (11 : Nat) ≤ sizeLine; decide, fun L2 hL2 => ?_⟩
      walk_at "W2"
      refine ⟨L2, rfl, ⟨_, SqL.of upd_same⟩, ?_⟩
      refine SW.forListC (xs := [.int 4, .int 8, .int 16, .int 32, .int 64, .int 128, .int 256, .int 512, .int 1024, .int 2048, .int 4096]) (fun i σ H' => ∃ v7, σ = [some (.ref a), v1, v2, v3, v4, v5, v6', v7, none, none] ∧ H' L2 = some (.lst [.int 4, .int 8, .int 16, .int 32, .int 64, .int 128, .int 256, .int 512, .int 1024, .int 2048, .int 4096]))
        ⟨none, rfl, upd_same⟩ (fun i σ H' _ ⟨_, _, h⟩ => SqL.of h) ?_ ?_
      · rintro j x σ' H13 hj ⟨v7, rfl, e13⟩
        obtain ⟨n, rfl, n1, n2, n3, n4⟩ := eleven hj
        clear hj
        walk_at "W2"
        refine ⟨zero_, fun t2 g2 => ?_⟩
        walk_at "W2"
        refine ⟨one_, fun t3 g3 => ?_⟩
        have i3 := (Same.new (o := .tup []) g2).trans (Same.new (o := .tup [.ref t2]) g3)
        walk_at "W2"
        refine repRows upd_same (Same.new (o := .tup [.ref t2]) g3 _ _ upd_same) (by omega) (by omega) fun u1 H4 s4 w1 => ?_
        walk_at "W2"
        refine ⟨three_, fun t4 g4 => ?_⟩
        have ST := stNew (mv := 0) (el := none) g4 rfl w1
        have i4 := (i3.trans s4).trans (Same.new (o := .tup [.non, .int 0, u1]) g4)
        walk_at "W2"
        refine ⟨two_, fun m1 hm1 => ?_⟩
        have j5 := Same.new (o := .tup [.int 1, .int 0]) hm1
        walk_at "W0"
        refine wSoundY (b := true) (ST.keep (SW.Same.tk j5)) (by rw [sz_stD, sz_bare]; show 2 + szD .none + _ ≤ _; rw [sz_none]; omega) (is_bare n 0) upd_same ⟨by decide, by decide⟩ (by rw [flt_bare n n1]; rfl) fun H6 s6 => ?_
        have e6 := s6 _ _ (j5 _ _ (i4 _ _ e13))
        clear ST i3 i4 s4 w1 j5 s6
        walk_at "W2"
        refine ⟨true, true, rfl, rfl, ?_⟩
        walk_at "W2"
        refine iteF ?_
        walk_at "W2"
        refine ⟨zero_, fun t5 g5 => ?_⟩
        walk_at "W2"
        refine ⟨one_, fun t6 g6 => ?_⟩
        have i6 := (Same.new (o := .tup []) g5).trans (Same.new (o := .tup [.ref t5]) g6)
        walk_at "W2"
        rw [show ((n : Nat) : Int) + 1 = ((n + 1 : Nat) : Int) by omega]
        refine repRows upd_same (Same.new (o := .tup [.ref t5]) g6 _ _ upd_same) (by omega) (by omega) fun u2 H7 s7 w2 => ?_
        walk_at "W2"
        refine ⟨three_, fun t7 g7 => ?_⟩
        have ST := stNew (mv := 0) (el := none) g7 rfl w2
        have i7 := (i6.trans s7).trans (Same.new (o := .tup [.non, .int 0, u2]) g7)
        walk_at "W2"
        refine ⟨two_, fun m2 hm2 => ?_⟩
        have j8 := Same.new (o := .tup [.int 1, .int 0]) hm2
        walk_at "W0"
        refine wSoundY (b := false) (ST.keep (SW.Same.tk j8)) (by rw [sz_stD, sz_bare]; show 2 + szD .none + _ ≤ _; rw [sz_none]; omega) (is_bare (n + 1) 0) upd_same ⟨by decide, by decide⟩ (by rw [flt_size (n + 1) (bare_len _) n2]; rfl) fun H9 s9 => ?_
        have e9 := s9 _ _ (j8 _ _ (i7 _ _ e6))
        walk_at "W2"
        refine iteF ?_
        walk_at "W2"
        exact ⟨_, rfl, e9⟩
      rintro σ' H13 ⟨v7, rfl, e13⟩
      clear e13 hL2
      walk_at "W2"
      refine ⟨zero_, fun t21 g21 => ?_⟩
      walk_at "W2"
      refine ⟨one_, fun t22 g22 => ?_⟩
      have i22 := (Same.new (o := .tup []) g21).trans (Same.new (o := .tup [.ref t21]) g22)
      walk_at "W2"
      refine repRows (n := 4096) upd_same (Same.new (o := .tup [.ref t21]) g22 _ _ upd_same) (by decide) (by decide) fun u23 H23 s23 w23 => ?_
      walk_at "W2"
      refine ⟨zero_, fun t24 g24 => ?_⟩
      walk_at "W2"
      refine ⟨one_, fun t25 g25 => ?_⟩
      have i25 := (Same.new (o := .tup []) g24).trans (Same.new (o := .tup [.ref t24]) g25)
      walk_at "W2"
      refine repRows (n := 2048) upd_same (Same.new (o := .tup [.ref t24]) g25 _ _ upd_same) (by decide) (by decide) fun u26 H26 s26 w26 => ?_
      have wE := w23.keep (SW.Same.tk (i25.trans s26))
      walk_at "W2"
      refine ⟨three_, fun t27 g27 => ?_⟩
      have ST := stNew (mv := 4095) (el := (some (bare 4096))) g27 wE w26
      walk_at "W2"
      refine ⟨two_, fun t28 g28 => ?_⟩
      have j28 := Same.new (o := .tup [.int 1, .int 0]) g28
      walk_at "W0"
      refine wSoundY (b := true) (ST.keep (SW.Same.tk j28)) (by rw [sz_stD, sz_bare]; show 2 + szD (rowsD _) + _ ≤ _; rw [sz_bare]; decide) (is_bareE 4096 2048 4095) upd_same ⟨by decide, by decide⟩ (by rw [flt_bareE]; rfl) fun H29 s29 => ?_
      clear ST wE
      walk_at "W2"
      refine ⟨true, true, rfl, rfl, ?_⟩
      walk_at "W2"
      refine iteF ?_
      walk_at "W2"
      refine ⟨zero_, fun t30 g30 => ?_⟩
      walk_at "W2"
      refine ⟨one_, fun t31 g31 => ?_⟩
      have i31 := (Same.new (o := .tup []) g30).trans (Same.new (o := .tup [.ref t30]) g31)
      walk_at "W2"
      refine repRows (n := 8192) upd_same (Same.new (o := .tup [.ref t30]) g31 _ _ upd_same) (by decide) (by decide) fun u32 H32 s32 w32 => ?_
      walk_at "W2"
      refine ⟨three_, fun t33 g33 => ?_⟩
      have ST := stNew (mv := 0) (el := none) g33 rfl w32
      walk_at "W2"
      refine ⟨two_, fun t34 g34 => ?_⟩
      have j34 := Same.new (o := .tup [.int 1, .int 0]) g34
      walk_at "W0"
      refine wSoundY (b := false) (ST.keep (SW.Same.tk j34)) (by rw [sz_stD, sz_bare]; show 2 + szD .none + _ ≤ _; rw [sz_none]; decide) (is_bare 8192 0) upd_same ⟨by decide, by decide⟩ (by rw [flt_size 8192 (bare_len _) rfl]; rfl) fun H35 s35 => ?_
      clear ST
      walk_at "W2"
      refine ⟨false, false, rfl, rfl, ?_⟩
      walk_at "W2"
      refine iteF ?_
      walk_at "W2"
      refine ⟨zero_, fun t36 g36 => ?_⟩
      walk_at "W2"
      refine ⟨one_, fun t37 g37 => ?_⟩
      have i37 := (Same.new (o := .tup []) g36).trans (Same.new (o := .tup [.ref t36]) g37)
      walk_at "W2"
      refine repRows (n := 8192) upd_same (Same.new (o := .tup [.ref t36]) g37 _ _ upd_same) (by decide) (by decide) fun u38 H38 s38 w38 => ?_
      walk_at "W2"
      refine ⟨zero_, fun t39 g39 => ?_⟩
      walk_at "W2"
      refine ⟨one_, fun t40 g40 => ?_⟩
      have i40 := (Same.new (o := .tup []) g39).trans (Same.new (o := .tup [.ref t39]) g40)
      walk_at "W2"
      refine repRows (n := 4096) upd_same (Same.new (o := .tup [.ref t39]) g40 _ _ upd_same) (by decide) (by decide) fun u41 H41 s41 w41 => ?_
      have wE := w38.keep (SW.Same.tk (i40.trans s41))
      walk_at "W2"
      refine ⟨three_, fun t42 g42 => ?_⟩
      have ST := stNew (mv := 0) (el := (some (bare 8192))) g42 wE w41
      walk_at "W2"
      refine ⟨two_, fun t43 g43 => ?_⟩
      have j43 := Same.new (o := .tup [.int 1, .int 0]) g43
      walk_at "W0"
      refine wSoundY (b := false) (ST.keep (SW.Same.tk j43)) (by rw [sz_stD, sz_bare]; show 2 + szD (rowsD _) + _ ≤ _; rw [sz_bare]; decide) (is_bareE 8192 4096 0) upd_same ⟨by decide, by decide⟩ (by rw [flt_sizeE 8192 (bare_len _) rfl]; rfl) fun H44 s44 => ?_
      clear ST wE
      walk_at "W2"
      refine ⟨false, false, rfl, rfl, ?_⟩
      walk_at "W2"
      refine iteF ?_
      walk_at "W2"
      refine ⟨two_, fun t1 g1 => ?_⟩
      walk_at "W2"
      refine ⟨two_, fun t2 g2 => ?_⟩
      walk_at "W2"
      refine ⟨two_, fun t3 g3 => ?_⟩
      walk_at "W2"
      refine ⟨three_, fun L3 hL3 => ?_⟩
      have i4 := Same.new (o := .lst [.ref t1, .ref t2, .ref t3]) hL3
      have j3 := Same.new (o := .tup [.int (-1), .bl false]) g3
      have j2 := Same.new (o := .tup [.int (10 ^ Int.toNat 9 + 1), .bl false]) g2
      have K3 := KS.cons (KS.cons (KS.cons KS.nil (i4 _ _ (j3 _ _ (j2 _ _ upd_same))) rfl) (i4 _ _ (j3 _ _ upd_same)) rfl) (i4 _ _ upd_same) rfl
      have eL3 := upd_same (H := upd (upd (upd H44 t1 (.tup [.int (10 ^ Int.toNat 9), .bl true])) t2 (.tup [.int (10 ^ Int.toNat 9 + 1), .bl false])) t3 (.tup [.int (-1), .bl false])) (a := L3) (o := .lst [.ref t1, .ref t2, .ref t3])
      obtain ⟨H20, hH20⟩ : ∃ H20, H20 = upd (upd (upd (upd H44 t1 (.tup [.int (10 ^ Int.toNat 9), .bl true])) t2 (.tup [.int (10 ^ Int.toNat 9 + 1), .bl false])) t3 (.tup [.int (-1), .bl false])) L3 (.lst [.ref t1, .ref t2, .ref t3]) := ⟨_, rfl⟩
      rw [← hH20] at K3 eL3 ⊢
      clear hH20 i4 j3 j2 g1 g2 g3 hL3
      walk_at "W2"
      refine ⟨L3, rfl, ⟨_, SqL.of eL3⟩, ?_⟩
      refine SW.forListC (xs := [.ref t1, .ref t2, .ref t3]) (fun i σ H' => ∃ v8 v9, σ = [some (.ref a), v1, v2, v3, v4, v5, v6', v7, v8, v9] ∧ Same H20 H')
        ⟨none, none, rfl, Same.refl _⟩ (fun i σ H' _ ⟨_, _, _, h⟩ => SqL.of (h _ _ eL3)) ?_ ?_
      · rintro j x σ' H21 hj ⟨v8, v9, rfl, s21⟩
        obtain ⟨u, kx, bb, rfl, hu, hbb⟩ := K3 x (List.mem_reverse.mp (List.mem_of_getElem? hj))
        clear hj
        walk_at "W2"
        refine ⟨u, _, rfl, SqT.of (s21 _ _ hu), rfl, _, _, rfl, ?_⟩
        walk_at "W2"
        refine ⟨_, _, rfl, ?_⟩
        walk_at "W2"
        refine ⟨rfl, ?_⟩
        walk_at "W2"
        refine ⟨two_, fun a1 b1 => ?_⟩
        have pr := prNew (a := kx) (b := 0) b1
        have x1 := s21.trans (Same.new (o := .tup [.int kx, .int 0]) b1)
        walk_at "W2"
        refine ⟨one_, fun a2 b2 => ?_⟩
        have r1 := rowNew b2 (.cons pr .nil)
        have x2 := x1.trans (Same.new (o := .tup [.ref a1]) b2)
        walk_at "W2"
        refine ⟨zero_, fun a3 b3 => ?_⟩
        have r2 : RowV _ (.ref a3) [] := rowNew b3 .nil
        have y3 := Same.new (o := .tup []) b3
        walk_at "W2"
        refine ⟨zero_, fun a4 b4 => ?_⟩
        have r3 : RowV _ (.ref a4) [] := rowNew b4 .nil
        have y4 := Same.new (o := .tup []) b4
        walk_at "W2"
        refine ⟨zero_, fun a5 b5 => ?_⟩
        have r4 : RowV _ (.ref a5) [] := rowNew b5 .nil
        have y5 := Same.new (o := .tup []) b5
        have y45 := y4.trans y5
        have y35 := y3.trans y45
        have x5 := x2.trans y35
        walk_at "W2"
        refine ⟨by show (4 : Nat) ≤ sizeLine; decide, fun a6 b6 => ?_⟩
        have rs := rowsNew b6 (.cons (r1.keep (SW.Same.tk y35)) (.cons (r2.keep (SW.Same.tk y45)) (.cons (r3.keep (SW.Same.tk y5)) (.cons r4 .nil))))
        have x6 := x5.trans (Same.new (o := .tup [.ref a2, .ref a3, .ref a4, .ref a5]) b6)
        walk_at "W2"
        refine ⟨three_, fun a7 b7 => ?_⟩
        have ST := stNew (mv := 0) (el := none) b7 rfl rs
        have x7 := x6.trans (Same.new (o := .tup [.non, .int 0, .ref a6]) b7)
        walk_at "W2"
        refine ⟨two_, fun a8 b8 => ?_⟩
        have y8 := Same.new (o := .tup [.int 0, .int 0]) b8
        have x8 := x7.trans y8
        have hz := sz_key kx
        walk_at "W0"
        refine wSoundA (st_any (ST.keep (SW.Same.tk y8))) (wd3_of hz) (big_of hz) upd_same ⟨by decide, by decide⟩ fun H22 b' s22 n22 y22 => ?_
        have eb : b' = bb := by
          cases e : isStateD (stD ⟨none, 0, [[(kx, 0)], [], [], []]⟩) with
          | false => rw [n22 e, hbb, ← one_key kx, e]
          | true => rw [y22 e _ rfl, flt_key kx, hbb, ← one_key kx, e]; rfl
        subst eb
        clear ST pr r1 r2 r3 r4 rs n22 y22
        walk_at "W2"
        refine iteNS rfl ?_
        walk_at "W2"
        exact ⟨_, _, rfl, x8.trans s22⟩
      rintro σ' H21 ⟨v8, v9, rfl, s21⟩
      clear s21 K3 eL3
      walk_at "W2"
      refine ⟨zero_, fun a2 b2 => ?_⟩
      have r1 : RowV _ (.ref a2) [] := rowNew b2 .nil
      walk_at "W2"
      refine ⟨zero_, fun a3 b3 => ?_⟩
      have r2 : RowV _ (.ref a3) [] := rowNew b3 .nil
      have y3 := Same.new (o := .tup []) b3
      walk_at "W2"
      refine ⟨zero_, fun a4 b4 => ?_⟩
      have r3 : RowV _ (.ref a4) [] := rowNew b4 .nil
      have y4 := Same.new (o := .tup []) b4
      walk_at "W2"
      refine ⟨zero_, fun a5 b5 => ?_⟩
      have r4 : RowV _ (.ref a5) [] := rowNew b5 .nil
      have y5 := Same.new (o := .tup []) b5
      have y45 := y4.trans y5
      have y35 := y3.trans y45
      walk_at "W2"
      refine ⟨by show (4 : Nat) ≤ sizeLine; decide, fun a6 b6 => ?_⟩
      have rs := rowsNew b6 (.cons (r1.keep (SW.Same.tk y35)) (.cons (r2.keep (SW.Same.tk y45)) (.cons (r3.keep (SW.Same.tk y5)) (.cons r4 .nil))))
      walk_at "W2"
      refine ⟨three_, fun a7 b7 => ?_⟩
      have AN := Any.tup (H := upd _ a7 (.tup [.non, .bl false, .ref a6])) upd_same (an3 .non (.bl false) ((rows_any rs).same (Same.new b7)))
      walk_at "W2"
      refine ⟨two_, fun a8 b8 => ?_⟩
      walk_at "W0"
      refine wSoundN (AN.same (Same.new b8)) (by rw [sz_3, sz_none, sz_bool, sz_rowsD]; decide) rfl upd_same ⟨by decide, by decide⟩ fun H22 s22 => ?_
      clear AN rs r1 r2 r3 r4
      walk_at "W2"
      refine ⟨false, false, rfl, rfl, ?_⟩
      walk_at "W2"
      refine iteT ?_
      walk_at "W2"
      refine ⟨two_, fun a9 b9 => ?_⟩
      walk_at "W0"
      refine wSoundN (d := .none) .non (by rw [sz_none]; decide) rfl upd_same ⟨by decide, by decide⟩ fun H23 s23 => ?_
      walk_at "W2"
      refine ⟨false, false, rfl, rfl, ?_⟩
      exact k _
end
theorem all_mk {l : PySem.W.OpenLaw} {w : World} {K : PySem.W.Frag} {h : Heap} {mg : Str → Option Value} {fa : Addr} (X : K.In h) (G : h.Ns mainGlobals mg) (hfa : mg "law" = some (.ref fa))
    {f0 : Addr} {od0 an0 : Option Addr} {sl0 : Array (Option Value)} {oc0 kV0 dc0 pm0 cd0 ct0 : Value}
    {f1 : Addr} {od1 an1 : Option Addr} {sl1 : Array (Option Value)} {oc1 kV1 dc1 pm1 cd1 ct1 : Value}
    {f2 : Addr} {od2 an2 : Option Addr} {sl2 : Array (Option Value)} {oc2 kV2 dc2 pm2 cd2 ct2 : Value}
    {f3 : Addr} {od3 an3 : Option Addr} {sl3 : Array (Option Value)} {oc3 kV3 dc3 pm3 cd3 ct3 : Value}
    {f4 : Addr} {od4 an4 : Option Addr} {sl4 : Array (Option Value)} {oc4 kV4 dc4 pm4 cd4 ct4 : Value}
    {f5 : Addr} {od5 an5 : Option Addr} {sl5 : Array (Option Value)} {oc5 kV5 dc5 pm5 cd5 ct5 : Value}
    {f6 : Addr} {od6 an6 : Option Addr} {sl6 : Array (Option Value)} {oc6 kV6 dc6 pm6 cd6 ct6 : Value}
    {f7 : Addr} {od7 an7 : Option Addr} {sl7 : Array (Option Value)} {oc7 kV7 dc7 pm7 cd7 ct7 : Value}
    {f8 : Addr} {od8 an8 : Option Addr} {sl8 : Array (Option Value)} {oc8 kV8 dc8 pm8 cd8 ct8 : Value}
    {f9 : Addr} {od9 an9 : Option Addr} {sl9 : Array (Option Value)} {oc9 kV9 dc9 pm9 cd9 ct9 : Value}
    {f10 : Addr} {od10 an10 : Option Addr} {sl10 : Array (Option Value)} {oc10 kV10 dc10 pm10 cd10 ct10 : Value}
    {f11 : Addr} {od11 an11 : Option Addr} {sl11 : Array (Option Value)} {oc11 kV11 dc11 pm11 cd11 ct11 : Value}
    {f12 : Addr} {od12 an12 : Option Addr} {sl12 : Array (Option Value)} {oc12 kV12 dc12 pm12 cd12 ct12 : Value}
    {f13 : Addr} {od13 an13 : Option Addr} {sl13 : Array (Option Value)} {oc13 kV13 dc13 pm13 cd13 ct13 : Value}
    {f14 : Addr} {od14 an14 : Option Addr} {sl14 : Array (Option Value)} {oc14 kV14 dc14 pm14 cd14 ct14 : Value}
    {f15 : Addr} {od15 an15 : Option Addr} {sl15 : Array (Option Value)} {oc15 kV15 dc15 pm15 cd15 ct15 : Value}
    {f16 : Addr} {od16 an16 : Option Addr} {sl16 : Array (Option Value)} {oc16 kV16 dc16 pm16 cd16 ct16 : Value}
    {f17 : Addr} {od17 an17 : Option Addr} {sl17 : Array (Option Value)} {oc17 kV17 dc17 pm17 cd17 ct17 : Value}
    {f18 : Addr} {od18 an18 : Option Addr} {sl18 : Array (Option Value)} {oc18 kV18 dc18 pm18 cd18 ct18 : Value}
    {f19 : Addr} {od19 an19 : Option Addr} {sl19 : Array (Option Value)} {oc19 kV19 dc19 pm19 cd19 ct19 : Value}
    {f20 : Addr} {od20 an20 : Option Addr} {sl20 : Array (Option Value)} {oc20 kV20 dc20 pm20 cd20 ct20 : Value}
    {f21 : Addr} {od21 an21 : Option Addr} {sl21 : Array (Option Value)} {oc21 kV21 dc21 pm21 cd21 ct21 : Value}
    {f22 : Addr} {od22 an22 : Option Addr} {sl22 : Array (Option Value)} {oc22 kV22 dc22 pm22 cd22 ct22 : Value}
    {f23 : Addr} {od23 an23 : Option Addr} {sl23 : Array (Option Value)} {oc23 kV23 dc23 pm23 cd23 ct23 : Value}
    {f24 : Addr} {od24 an24 : Option Addr} {sl24 : Array (Option Value)} {oc24 kV24 dc24 pm24 cd24 ct24 : Value}
    {f25 : Addr} {od25 an25 : Option Addr} {sl25 : Array (Option Value)} {oc25 kV25 dc25 pm25 cd25 ct25 : Value}
    {f26 : Addr} {od26 an26 : Option Addr} {sl26 : Array (Option Value)} {oc26 kV26 dc26 pm26 cd26 ct26 : Value}
    {f27 : Addr} {od27 an27 : Option Addr} {sl27 : Array (Option Value)} {oc27 kV27 dc27 pm27 cd27 ct27 : Value}
    {f28 : Addr} {od28 an28 : Option Addr} {sl28 : Array (Option Value)} {oc28 kV28 dc28 pm28 cd28 ct28 : Value}
    {f29 : Addr} {od29 an29 : Option Addr} {sl29 : Array (Option Value)} {oc29 kV29 dc29 pm29 cd29 ct29 : Value}
    {f30 : Addr} {od30 an30 : Option Addr} {sl30 : Array (Option Value)} {oc30 kV30 dc30 pm30 cd30 ct30 : Value}
    {f31 : Addr} {od31 an31 : Option Addr} {sl31 : Array (Option Value)} {oc31 kV31 dc31 pm31 cd31 ct31 : Value}
    {f32 : Addr} {od32 an32 : Option Addr} {sl32 : Array (Option Value)} {oc32 kV32 dc32 pm32 cd32 ct32 : Value}
    {f33 : Addr} {od33 an33 : Option Addr} {sl33 : Array (Option Value)} {oc33 kV33 dc33 pm33 cd33 ct33 : Value}
    {tk0 : Tok}
    {tk1 : Tok}
    {tA_SIZES : Addr} {tD_SIZES : Option Addr} {tN_SIZES : Nat} {tS_SIZES : Array (Option Value)} {tT_SIZES_0 tT_SIZES_1 tT_SIZES_2 tT_SIZES_3 tT_SIZES_4 tT_SIZES_5 tT_SIZES_6 tT_SIZES_7 tT_SIZES_8 tT_SIZES_9 tT_SIZES_10 : Tok}
    (a0 : PySem.W.nsIn K mainGlobals "is_whole" = some (some (.ref f0)))
    (l0 : K.lookup f0 = some ⟨oc0, od0, .func (PySem.W.fnOf "is_whole" "is_whole" (defArgs s_is_whole) (defBody s_is_whole) (defScope s_is_whole) .none kV0 dc0 pm0 an0 cd0 ct0), sl0⟩)
    (c0 : PySem.W.codeIn K cd0 "is_whole" = true)
    (k0 : PySem.W.keepIn K (.ref f0) = true)
    (a1 : PySem.W.nsIn K mainGlobals "is_size" = some (some (.ref f1)))
    (l1 : K.lookup f1 = some ⟨oc1, od1, .func (PySem.W.fnOf "is_size" "is_size" (defArgs s_is_size) (defBody s_is_size) (defScope s_is_size) .none kV1 dc1 pm1 an1 cd1 ct1), sl1⟩)
    (c1 : PySem.W.codeIn K cd1 "is_size" = true)
    (k1 : PySem.W.keepIn K (.ref f1) = true)
    (a2 : PySem.W.nsIn K mainGlobals "is_key" = some (some (.ref f2)))
    (l2 : K.lookup f2 = some ⟨oc2, od2, .func (PySem.W.fnOf "is_key" "is_key" (defArgs s_is_key) (defBody s_is_key) (defScope s_is_key) .none kV2 dc2 pm2 an2 cd2 ct2), sl2⟩)
    (c2 : PySem.W.codeIn K cd2 "is_key" = true)
    (k2 : PySem.W.keepIn K (.ref f2) = true)
    (a3 : PySem.W.nsIn K mainGlobals "is_worth" = some (some (.ref f3)))
    (l3 : K.lookup f3 = some ⟨oc3, od3, .func (PySem.W.fnOf "is_worth" "is_worth" (defArgs s_is_worth) (defBody s_is_worth) (defScope s_is_worth) .none kV3 dc3 pm3 an3 cd3 ct3), sl3⟩)
    (c3 : PySem.W.codeIn K cd3 "is_worth" = true)
    (k3 : PySem.W.keepIn K (.ref f3) = true)
    (a4 : PySem.W.nsIn K mainGlobals "mark_of" = some (some (.ref f4)))
    (l4 : K.lookup f4 = some ⟨oc4, od4, .func (PySem.W.fnOf "mark_of" "mark_of" (defArgs s_mark_of) (defBody s_mark_of) (defScope s_mark_of) .none kV4 dc4 pm4 an4 cd4 ct4), sl4⟩)
    (c4 : PySem.W.codeIn K cd4 "mark_of" = true)
    (k4 : PySem.W.keepIn K (.ref f4) = true)
    (a5 : PySem.W.nsIn K mainGlobals "place_of" = some (some (.ref f5)))
    (l5 : K.lookup f5 = some ⟨oc5, od5, .func (PySem.W.fnOf "place_of" "place_of" (defArgs s_place_of) (defBody s_place_of) (defScope s_place_of) .none kV5 dc5 pm5 an5 cd5 ct5), sl5⟩)
    (c5 : PySem.W.codeIn K cd5 "place_of" = true)
    (k5 : PySem.W.keepIn K (.ref f5) = true)
    (a6 : PySem.W.nsIn K mainGlobals "has_right_places" = some (some (.ref f6)))
    (l6 : K.lookup f6 = some ⟨oc6, od6, .func (PySem.W.fnOf "has_right_places" "has_right_places" (defArgs s_has_right_places) (defBody s_has_right_places) (defScope s_has_right_places) .none kV6 dc6 pm6 an6 cd6 ct6), sl6⟩)
    (c6 : PySem.W.codeIn K cd6 "has_right_places" = true)
    (k6 : PySem.W.keepIn K (.ref f6) = true)
    (a7 : PySem.W.nsIn K mainGlobals "has_right_moved" = some (some (.ref f7)))
    (l7 : K.lookup f7 = some ⟨oc7, od7, .func (PySem.W.fnOf "has_right_moved" "has_right_moved" (defArgs s_has_right_moved) (defBody s_has_right_moved) (defScope s_has_right_moved) .none kV7 dc7 pm7 an7 cd7 ct7), sl7⟩)
    (c7 : PySem.W.codeIn K cd7 "has_right_moved" = true)
    (k7 : PySem.W.keepIn K (.ref f7) = true)
    (a8 : PySem.W.nsIn K mainGlobals "keys_in_turn" = some (some (.ref f8)))
    (l8 : K.lookup f8 = some ⟨oc8, od8, .func (PySem.W.fnOf "keys_in_turn" "keys_in_turn" (defArgs s_keys_in_turn) (defBody s_keys_in_turn) (defScope s_keys_in_turn) .none kV8 dc8 pm8 an8 cd8 ct8), sl8⟩)
    (c8 : PySem.W.codeIn K cd8 "keys_in_turn" = true)
    (k8 : PySem.W.keepIn K (.ref f8) = true)
    (a9 : PySem.W.nsIn K mainGlobals "first_fault_of_pairs" = some (some (.ref f9)))
    (l9 : K.lookup f9 = some ⟨oc9, od9, .func (PySem.W.fnOf "first_fault_of_pairs" "first_fault_of_pairs" (defArgs s_first_fault_of_pairs) (defBody s_first_fault_of_pairs) (defScope s_first_fault_of_pairs) .none kV9 dc9 pm9 an9 cd9 ct9), sl9⟩)
    (c9 : PySem.W.codeIn K cd9 "first_fault_of_pairs" = true)
    (k9 : PySem.W.keepIn K (.ref f9) = true)
    (a10 : PySem.W.nsIn K mainGlobals "first_fault" = some (some (.ref f10)))
    (l10 : K.lookup f10 = some ⟨oc10, od10, .func (PySem.W.fnOf "first_fault" "first_fault" (defArgs s_first_fault) (defBody s_first_fault) (defScope s_first_fault) .none kV10 dc10 pm10 an10 cd10 ct10), sl10⟩)
    (c10 : PySem.W.codeIn K cd10 "first_fault" = true)
    (k10 : PySem.W.keepIn K (.ref f10) = true)
    (a11 : PySem.W.nsIn K mainGlobals "is_pair" = some (some (.ref f11)))
    (l11 : K.lookup f11 = some ⟨oc11, od11, .func (PySem.W.fnOf "is_pair" "is_pair" (defArgs s_is_pair) (defBody s_is_pair) (defScope s_is_pair) .none kV11 dc11 pm11 an11 cd11 ct11), sl11⟩)
    (c11 : PySem.W.codeIn K cd11 "is_pair" = true)
    (k11 : PySem.W.keepIn K (.ref f11) = true)
    (a12 : PySem.W.nsIn K mainGlobals "is_row" = some (some (.ref f12)))
    (l12 : K.lookup f12 = some ⟨oc12, od12, .func (PySem.W.fnOf "is_row" "is_row" (defArgs s_is_row) (defBody s_is_row) (defScope s_is_row) .none kV12 dc12 pm12 an12 cd12 ct12), sl12⟩)
    (c12 : PySem.W.codeIn K cd12 "is_row" = true)
    (k12 : PySem.W.keepIn K (.ref f12) = true)
    (a13 : PySem.W.nsIn K mainGlobals "are_rows" = some (some (.ref f13)))
    (l13 : K.lookup f13 = some ⟨oc13, od13, .func (PySem.W.fnOf "are_rows" "are_rows" (defArgs s_are_rows) (defBody s_are_rows) (defScope s_are_rows) .none kV13 dc13 pm13 an13 cd13 ct13), sl13⟩)
    (c13 : PySem.W.codeIn K cd13 "are_rows" = true)
    (k13 : PySem.W.keepIn K (.ref f13) = true)
    (a14 : PySem.W.nsIn K mainGlobals "is_state" = some (some (.ref f14)))
    (l14 : K.lookup f14 = some ⟨oc14, od14, .func (PySem.W.fnOf "is_state" "is_state" (defArgs s_is_state) (defBody s_is_state) (defScope s_is_state) .none kV14 dc14 pm14 an14 cd14 ct14), sl14⟩)
    (c14 : PySem.W.codeIn K cd14 "is_state" = true)
    (k14 : PySem.W.keepIn K (.ref f14) = true)
    (a15 : PySem.W.nsIn K mainGlobals "is_sound" = some (some (.ref f15)))
    (l15 : K.lookup f15 = some ⟨oc15, od15, .func (PySem.W.fnOf "is_sound" "is_sound" (defArgs s_is_sound) (defBody s_is_sound) (defScope s_is_sound) .none kV15 dc15 pm15 an15 cd15 ct15), sl15⟩)
    (c15 : PySem.W.codeIn K cd15 "is_sound" = true)
    (k15 : PySem.W.keepIn K (.ref f15) = true)
    (a16 : PySem.W.nsIn K mainGlobals "_law_stream" = some (some (.ref f16)))
    (l16 : K.lookup f16 = some ⟨oc16, od16, .func (PySem.W.fnOf "_law_stream" "_law_stream" (defArgs s_law_stream) (defBody s_law_stream) (defScope s_law_stream) .none kV16 dc16 pm16 an16 cd16 ct16), sl16⟩)
    (c16 : PySem.W.codeIn K cd16 "_law_stream" = true)
    (k16 : PySem.W.keepIn K (.ref f16) = true)
    (a17 : PySem.W.nsIn K mainGlobals "_law_take" = some (some (.ref f17)))
    (l17 : K.lookup f17 = some ⟨oc17, od17, .func (PySem.W.fnOf "_law_take" "_law_take" (defArgs s_law_take) (defBody s_law_take) (defScope s_law_take) .none kV17 dc17 pm17 an17 cd17 ct17), sl17⟩)
    (c17 : PySem.W.codeIn K cd17 "_law_take" = true)
    (k17 : PySem.W.keepIn K (.ref f17) = true)
    (a18 : PySem.W.nsIn K mainGlobals "_law_mixer" = some (some (.ref f18)))
    (l18 : K.lookup f18 = some ⟨oc18, od18, .func (PySem.W.fnOf "_law_mixer" "_law_mixer" (defArgs s_law_mixer) (defBody s_law_mixer) (defScope s_law_mixer) .none kV18 dc18 pm18 an18 cd18 ct18), sl18⟩)
    (c18 : PySem.W.codeIn K cd18 "_law_mixer" = true)
    (k18 : PySem.W.keepIn K (.ref f18) = true)
    (a19 : PySem.W.nsIn K mainGlobals "_law_key" = some (some (.ref f19)))
    (l19 : K.lookup f19 = some ⟨oc19, od19, .func (PySem.W.fnOf "_law_key" "_law_key" (defArgs s_law_key) (defBody s_law_key) (defScope s_law_key) .none kV19 dc19 pm19 an19 cd19 ct19), sl19⟩)
    (c19 : PySem.W.codeIn K cd19 "_law_key" = true)
    (k19 : PySem.W.keepIn K (.ref f19) = true)
    (a20 : PySem.W.nsIn K mainGlobals "_law_worth" = some (some (.ref f20)))
    (l20 : K.lookup f20 = some ⟨oc20, od20, .func (PySem.W.fnOf "_law_worth" "_law_worth" (defArgs s_law_worth) (defBody s_law_worth) (defScope s_law_worth) .none kV20 dc20 pm20 an20 cd20 ct20), sl20⟩)
    (c20 : PySem.W.codeIn K cd20 "_law_worth" = true)
    (k20 : PySem.W.keepIn K (.ref f20) = true)
    (a21 : PySem.W.nsIn K mainGlobals "_law_table_state" = some (some (.ref f21)))
    (l21 : K.lookup f21 = some ⟨oc21, od21, .func (PySem.W.fnOf "_law_table_state" "_law_table_state" (defArgs s_law_table_state) (defBody s_law_table_state) (defScope s_law_table_state) .none kV21 dc21 pm21 an21 cd21 ct21), sl21⟩)
    (c21 : PySem.W.codeIn K cd21 "_law_table_state" = true)
    (k21 : PySem.W.keepIn K (.ref f21) = true)
    (a22 : PySem.W.nsIn K mainGlobals "_law_shelf_fault" = some (some (.ref f22)))
    (l22 : K.lookup f22 = some ⟨oc22, od22, .func (PySem.W.fnOf "_law_shelf_fault" "_law_shelf_fault" (defArgs s_law_shelf_fault) (defBody s_law_shelf_fault) (defScope s_law_shelf_fault) .none kV22 dc22 pm22 an22 cd22 ct22), sl22⟩)
    (c22 : PySem.W.codeIn K cd22 "_law_shelf_fault" = true)
    (k22 : PySem.W.keepIn K (.ref f22) = true)
    (a23 : PySem.W.nsIn K mainGlobals "_law_due" = some (some (.ref f23)))
    (l23 : K.lookup f23 = some ⟨oc23, od23, .func (PySem.W.fnOf "_law_due" "_law_due" (defArgs s_law_due) (defBody s_law_due) (defScope s_law_due) .none kV23 dc23 pm23 an23 cd23 ct23), sl23⟩)
    (c23 : PySem.W.codeIn K cd23 "_law_due" = true)
    (k23 : PySem.W.keepIn K (.ref f23) = true)
    (a24 : PySem.W.nsIn K mainGlobals "_law_other_rows" = some (some (.ref f24)))
    (l24 : K.lookup f24 = some ⟨oc24, od24, .func (PySem.W.fnOf "_law_other_rows" "_law_other_rows" (defArgs s_law_other_rows) (defBody s_law_other_rows) (defScope s_law_other_rows) .none kV24 dc24 pm24 an24 cd24 ct24), sl24⟩)
    (c24 : PySem.W.codeIn K cd24 "_law_other_rows" = true)
    (k24 : PySem.W.keepIn K (.ref f24) = true)
    (a25 : PySem.W.nsIn K mainGlobals "_law_bent" = some (some (.ref f25)))
    (l25 : K.lookup f25 = some ⟨oc25, od25, .func (PySem.W.fnOf "_law_bent" "_law_bent" (defArgs s_law_bent) (defBody s_law_bent) (defScope s_law_bent) .none kV25 dc25 pm25 an25 cd25 ct25), sl25⟩)
    (c25 : PySem.W.codeIn K cd25 "_law_bent" = true)
    (k25 : PySem.W.keepIn K (.ref f25) = true)
    (a26 : PySem.W.nsIn K mainGlobals "_law_number" = some (some (.ref f26)))
    (l26 : K.lookup f26 = some ⟨oc26, od26, .func (PySem.W.fnOf "_law_number" "_law_number" (defArgs s_law_number) (defBody s_law_number) (defScope s_law_number) .none kV26 dc26 pm26 an26 cd26 ct26), sl26⟩)
    (c26 : PySem.W.codeIn K cd26 "_law_number" = true)
    (k26 : PySem.W.keepIn K (.ref f26) = true)
    (a27 : PySem.W.nsIn K mainGlobals "_law_are_rows" = some (some (.ref f27)))
    (l27 : K.lookup f27 = some ⟨oc27, od27, .func (PySem.W.fnOf "_law_are_rows" "_law_are_rows" (defArgs s_law_are_rows) (defBody s_law_are_rows) (defScope s_law_are_rows) .none kV27 dc27 pm27 an27 cd27 ct27), sl27⟩)
    (c27 : PySem.W.codeIn K cd27 "_law_are_rows" = true)
    (k27 : PySem.W.keepIn K (.ref f27) = true)
    (a28 : PySem.W.nsIn K mainGlobals "_law_is" = some (some (.ref f28)))
    (l28 : K.lookup f28 = some ⟨oc28, od28, .func (PySem.W.fnOf "_law_is" "_law_is" (defArgs s_law_is) (defBody s_law_is) (defScope s_law_is) .none kV28 dc28 pm28 an28 cd28 ct28), sl28⟩)
    (c28 : PySem.W.codeIn K cd28 "_law_is" = true)
    (k28 : PySem.W.keepIn K (.ref f28) = true)
    (a29 : PySem.W.nsIn K mainGlobals "_law_odd_pair" = some (some (.ref f29)))
    (l29 : K.lookup f29 = some ⟨oc29, od29, .func (PySem.W.fnOf "_law_odd_pair" "_law_odd_pair" (defArgs s_law_odd_pair) (defBody s_law_odd_pair) (defScope s_law_odd_pair) .none kV29 dc29 pm29 an29 cd29 ct29), sl29⟩)
    (c29 : PySem.W.codeIn K cd29 "_law_odd_pair" = true)
    (k29 : PySem.W.keepIn K (.ref f29) = true)
    (a30 : PySem.W.nsIn K mainGlobals "_law_odd_rows" = some (some (.ref f30)))
    (l30 : K.lookup f30 = some ⟨oc30, od30, .func (PySem.W.fnOf "_law_odd_rows" "_law_odd_rows" (defArgs s_law_odd_rows) (defBody s_law_odd_rows) (defScope s_law_odd_rows) .none kV30 dc30 pm30 an30 cd30 ct30), sl30⟩)
    (c30 : PySem.W.codeIn K cd30 "_law_odd_rows" = true)
    (k30 : PySem.W.keepIn K (.ref f30) = true)
    (a31 : PySem.W.nsIn K mainGlobals "_law_odd" = some (some (.ref f31)))
    (l31 : K.lookup f31 = some ⟨oc31, od31, .func (PySem.W.fnOf "_law_odd" "_law_odd" (defArgs s_law_odd) (defBody s_law_odd) (defScope s_law_odd) .none kV31 dc31 pm31 an31 cd31 ct31), sl31⟩)
    (c31 : PySem.W.codeIn K cd31 "_law_odd" = true)
    (k31 : PySem.W.keepIn K (.ref f31) = true)
    (a32 : PySem.W.nsIn K mainGlobals "_law_right" = some (some (.ref f32)))
    (l32 : K.lookup f32 = some ⟨oc32, od32, .func (PySem.W.fnOf "_law_right" "_law_right" (defArgs s_law_right) (defBody s_law_right) (defScope s_law_right) .none kV32 dc32 pm32 an32 cd32 ct32), sl32⟩)
    (c32 : PySem.W.codeIn K cd32 "_law_right" = true)
    (k32 : PySem.W.keepIn K (.ref f32) = true)
    (a33 : PySem.W.nsIn K mainGlobals "law" = some (some (.ref f33)))
    (l33 : K.lookup f33 = some ⟨oc33, od33, .func (PySem.W.fnOf "law" "law" (defArgs s_law) (defBody s_law) (defScope s_law) .none kV33 dc33 pm33 an33 cd33 ct33), sl33⟩)
    (c33 : PySem.W.codeIn K cd33 "law" = true)
    (k33 : PySem.W.keepIn K (.ref f33) = true)
    (cst0 : PySem.W.nsIn K mainGlobals "MARKS" = some (some (.int 65536 tk0)))
    (cst1 : PySem.W.nsIn K mainGlobals "GREATEST" = some (some (.int 1000000000 tk1)))
    (ta_SIZES : PySem.W.nsIn K mainGlobals "SIZES" = some (some (.ref tA_SIZES)))
    (tl_SIZES : K.lookup tA_SIZES = some ⟨.type "tuple", tD_SIZES, .seq #[.int 4 tT_SIZES_0, .int 8 tT_SIZES_1, .int 16 tT_SIZES_2, .int 32 tT_SIZES_3, .int 64 tT_SIZES_4, .int 128 tT_SIZES_5, .int 256 tT_SIZES_6, .int 512 tT_SIZES_7, .int 1024 tT_SIZES_8, .int 2048 tT_SIZES_9, .int 4096 tT_SIZES_10] tN_SIZES, tS_SIZES⟩)
    (blt0 : PySem.W.nsIn K mainGlobals "int" = some none)
    (blt1 : PySem.W.nsIn K mainGlobals "bool" = some none)
    (blt2 : PySem.W.nsIn K mainGlobals "isinstance" = some none)
    (blt3 : PySem.W.nsIn K mainGlobals "range" = some none)
    (blt4 : PySem.W.nsIn K mainGlobals "len" = some none)
    (blt5 : PySem.W.nsIn K mainGlobals "list" = some none)
    (blt6 : PySem.W.nsIn K mainGlobals "tuple" = some none)
    (blt7 : PySem.W.nsIn K mainGlobals "enumerate" = some none)
    (blt8 : PySem.W.nsIn K mainGlobals "all" = some none) :
    ∃ fd : FuncData, (∀ (s : Shared) (v : Value), BindsTo s fd ⟨[v], []⟩ [("script", v)]) ∧ ∀ base : Heap, K.In base → base.Ns mainGlobals mg → FnOk l.prog w K mg base CX0 9 fa fd ["script"] (spLaw K) := by
  have e := hfa.symm.trans (PySem.W.mg_of X G a33)
  cases e
  have g : Gs K mg := ⟨⟨_, PySem.W.mg_of X G cst0⟩, ⟨_, PySem.W.mg_of X G cst1⟩, ⟨_, PySem.W.mg_of X G ta_SIZES, fun H => .inr ⟨_, _, _, tl_SIZES, rfl, rfl, by show (11 : Nat) ≤ sizeLine; decide, .cons ⟨_, rfl⟩ (.cons ⟨_, rfl⟩ (.cons ⟨_, rfl⟩ (.cons ⟨_, rfl⟩ (.cons ⟨_, rfl⟩ (.cons ⟨_, rfl⟩ (.cons ⟨_, rfl⟩ (.cons ⟨_, rfl⟩ (.cons ⟨_, rfl⟩ (.cons ⟨_, rfl⟩ (.cons ⟨_, rfl⟩ (.nil)))))))))))⟩⟩, PySem.W.mg_none_of X G blt0, PySem.W.mg_none_of X G blt1, PySem.W.mg_none_of X G blt2, PySem.W.mg_none_of X G blt3, PySem.W.mg_none_of X G blt4, PySem.W.mg_none_of X G blt5, PySem.W.mg_none_of X G blt6, PySem.W.mg_none_of X G blt7, PySem.W.mg_none_of X G blt8⟩
  have d0 : Dfn K mg "is_whole" s_is_whole ["thing"] := ⟨_, _, fun_mk (st := s_is_whole) l0 c0 k0, PySem.W.mg_of X G a0, (fun_mk (st := s_is_whole) l0 c0 k0).binds fun _ _ _ _ _ _ us hl => SW.len1 us hl fun _ => rfl⟩
  have d1 : Dfn K mg "is_size" s_is_size ["thing"] := ⟨_, _, fun_mk (st := s_is_size) l1 c1 k1, PySem.W.mg_of X G a1, (fun_mk (st := s_is_size) l1 c1 k1).binds fun _ _ _ _ _ _ us hl => SW.len1 us hl fun _ => rfl⟩
  have d2 : Dfn K mg "is_key" s_is_key ["thing"] := ⟨_, _, fun_mk (st := s_is_key) l2 c2 k2, PySem.W.mg_of X G a2, (fun_mk (st := s_is_key) l2 c2 k2).binds fun _ _ _ _ _ _ us hl => SW.len1 us hl fun _ => rfl⟩
  have d3 : Dfn K mg "is_worth" s_is_worth ["thing"] := ⟨_, _, fun_mk (st := s_is_worth) l3 c3 k3, PySem.W.mg_of X G a3, (fun_mk (st := s_is_worth) l3 c3 k3).binds fun _ _ _ _ _ _ us hl => SW.len1 us hl fun _ => rfl⟩
  have d4 : Dfn K mg "mark_of" s_mark_of ["key", "mixer"] := ⟨_, _, fun_mk (st := s_mark_of) l4 c4 k4, PySem.W.mg_of X G a4, (fun_mk (st := s_mark_of) l4 c4 k4).binds fun _ _ _ _ _ _ us hl => SW.len2 us hl fun _ _ => rfl⟩
  have d5 : Dfn K mg "place_of" s_place_of ["mark", "size"] := ⟨_, _, fun_mk (st := s_place_of) l5 c5 k5, PySem.W.mg_of X G a5, (fun_mk (st := s_place_of) l5 c5 k5).binds fun _ _ _ _ _ _ us hl => SW.len2 us hl fun _ _ => rfl⟩
  have d6 : Dfn K mg "has_right_places" s_has_right_places ["elder", "newer"] := ⟨_, _, fun_mk (st := s_has_right_places) l6 c6 k6, PySem.W.mg_of X G a6, (fun_mk (st := s_has_right_places) l6 c6 k6).binds fun _ _ _ _ _ _ us hl => SW.len2 us hl fun _ _ => rfl⟩
  have d7 : Dfn K mg "has_right_moved" s_has_right_moved ["elder", "moved"] := ⟨_, _, fun_mk (st := s_has_right_moved) l7 c7 k7, PySem.W.mg_of X G a7, (fun_mk (st := s_has_right_moved) l7 c7 k7).binds fun _ _ _ _ _ _ us hl => SW.len2 us hl fun _ _ => rfl⟩
  have d8 : Dfn K mg "keys_in_turn" s_keys_in_turn ["state"] := ⟨_, _, fun_mk (st := s_keys_in_turn) l8 c8 k8, PySem.W.mg_of X G a8, (fun_mk (st := s_keys_in_turn) l8 c8 k8).binds fun _ _ _ _ _ _ us hl => SW.len1 us hl fun _ => rfl⟩
  have d9 : Dfn K mg "first_fault_of_pairs" s_first_fault_of_pairs ["state", "mixer"] := ⟨_, _, fun_mk (st := s_first_fault_of_pairs) l9 c9 k9, PySem.W.mg_of X G a9, (fun_mk (st := s_first_fault_of_pairs) l9 c9 k9).binds fun _ _ _ _ _ _ us hl => SW.len2 us hl fun _ _ => rfl⟩
  have d10 : Dfn K mg "first_fault" s_first_fault ["state", "mixer"] := ⟨_, _, fun_mk (st := s_first_fault) l10 c10 k10, PySem.W.mg_of X G a10, (fun_mk (st := s_first_fault) l10 c10 k10).binds fun _ _ _ _ _ _ us hl => SW.len2 us hl fun _ _ => rfl⟩
  have d11 : Dfn K mg "is_pair" s_is_pair ["thing"] := ⟨_, _, fun_mk (st := s_is_pair) l11 c11 k11, PySem.W.mg_of X G a11, (fun_mk (st := s_is_pair) l11 c11 k11).binds fun _ _ _ _ _ _ us hl => SW.len1 us hl fun _ => rfl⟩
  have d12 : Dfn K mg "is_row" s_is_row ["thing"] := ⟨_, _, fun_mk (st := s_is_row) l12 c12 k12, PySem.W.mg_of X G a12, (fun_mk (st := s_is_row) l12 c12 k12).binds fun _ _ _ _ _ _ us hl => SW.len1 us hl fun _ => rfl⟩
  have d13 : Dfn K mg "are_rows" s_are_rows ["thing"] := ⟨_, _, fun_mk (st := s_are_rows) l13 c13 k13, PySem.W.mg_of X G a13, (fun_mk (st := s_are_rows) l13 c13 k13).binds fun _ _ _ _ _ _ us hl => SW.len1 us hl fun _ => rfl⟩
  have d14 : Dfn K mg "is_state" s_is_state ["thing"] := ⟨_, _, fun_mk (st := s_is_state) l14 c14 k14, PySem.W.mg_of X G a14, (fun_mk (st := s_is_state) l14 c14 k14).binds fun _ _ _ _ _ _ us hl => SW.len1 us hl fun _ => rfl⟩
  have d15 : Dfn K mg "is_sound" s_is_sound ["state", "mixer"] := ⟨_, _, fun_mk (st := s_is_sound) l15 c15 k15, PySem.W.mg_of X G a15, (fun_mk (st := s_is_sound) l15 c15 k15).binds fun _ _ _ _ _ _ us hl => SW.len2 us hl fun _ _ => rfl⟩
  have d16 : Dfn K mg "_law_stream" s_law_stream ["cell"] := ⟨_, _, fun_mk (st := s_law_stream) l16 c16 k16, PySem.W.mg_of X G a16, (fun_mk (st := s_law_stream) l16 c16 k16).binds fun _ _ _ _ _ _ us hl => SW.len1 us hl fun _ => rfl⟩
  have d17 : Dfn K mg "_law_take" s_law_take ["row", "many"] := ⟨_, _, fun_mk (st := s_law_take) l17 c17 k17, PySem.W.mg_of X G a17, (fun_mk (st := s_law_take) l17 c17 k17).binds fun _ _ _ _ _ _ us hl => SW.len2 us hl fun _ _ => rfl⟩
  have d18 : Dfn K mg "_law_mixer" s_law_mixer ["row"] := ⟨_, _, fun_mk (st := s_law_mixer) l18 c18 k18, PySem.W.mg_of X G a18, (fun_mk (st := s_law_mixer) l18 c18 k18).binds fun _ _ _ _ _ _ us hl => SW.len1 us hl fun _ => rfl⟩
  have d19 : Dfn K mg "_law_key" s_law_key ["row"] := ⟨_, _, fun_mk (st := s_law_key) l19 c19 k19, PySem.W.mg_of X G a19, (fun_mk (st := s_law_key) l19 c19 k19).binds fun _ _ _ _ _ _ us hl => SW.len1 us hl fun _ => rfl⟩
  have d20 : Dfn K mg "_law_worth" s_law_worth ["row"] := ⟨_, _, fun_mk (st := s_law_worth) l20 c20 k20, PySem.W.mg_of X G a20, (fun_mk (st := s_law_worth) l20 c20 k20).binds fun _ _ _ _ _ _ us hl => SW.len1 us hl fun _ => rfl⟩
  have d21 : Dfn K mg "_law_table_state" s_law_table_state ["row", "mixer"] := ⟨_, _, fun_mk (st := s_law_table_state) l21 c21 k21, PySem.W.mg_of X G a21, (fun_mk (st := s_law_table_state) l21 c21 k21).binds fun _ _ _ _ _ _ us hl => SW.len2 us hl fun _ _ => rfl⟩
  have d22 : Dfn K mg "_law_shelf_fault" s_law_shelf_fault ["name", "rows", "moved", "mixer", "seen"] := ⟨_, _, fun_mk (st := s_law_shelf_fault) l22 c22 k22, PySem.W.mg_of X G a22, (fun_mk (st := s_law_shelf_fault) l22 c22 k22).binds fun _ _ _ _ _ _ us hl => SW.len5 us hl fun _ _ _ _ _ => rfl⟩
  have d23 : Dfn K mg "_law_due" s_law_due ["state", "mixer"] := ⟨_, _, fun_mk (st := s_law_due) l23 c23 k23, PySem.W.mg_of X G a23, (fun_mk (st := s_law_due) l23 c23 k23).binds fun _ _ _ _ _ _ us hl => SW.len2 us hl fun _ _ => rfl⟩
  have d24 : Dfn K mg "_law_other_rows" s_law_other_rows ["row", "rows"] := ⟨_, _, fun_mk (st := s_law_other_rows) l24 c24 k24, PySem.W.mg_of X G a24, (fun_mk (st := s_law_other_rows) l24 c24 k24).binds fun _ _ _ _ _ _ us hl => SW.len2 us hl fun _ _ => rfl⟩
  have d25 : Dfn K mg "_law_bent" s_law_bent ["row", "state"] := ⟨_, _, fun_mk (st := s_law_bent) l25 c25 k25, PySem.W.mg_of X G a25, (fun_mk (st := s_law_bent) l25 c25 k25).binds fun _ _ _ _ _ _ us hl => SW.len2 us hl fun _ _ => rfl⟩
  have d26 : Dfn K mg "_law_number" s_law_number ["thing", "least"] := ⟨_, _, fun_mk (st := s_law_number) l26 c26 k26, PySem.W.mg_of X G a26, (fun_mk (st := s_law_number) l26 c26 k26).binds fun _ _ _ _ _ _ us hl => SW.len2 us hl fun _ _ => rfl⟩
  have d27 : Dfn K mg "_law_are_rows" s_law_are_rows ["rows"] := ⟨_, _, fun_mk (st := s_law_are_rows) l27 c27 k27, PySem.W.mg_of X G a27, (fun_mk (st := s_law_are_rows) l27 c27 k27).binds fun _ _ _ _ _ _ us hl => SW.len1 us hl fun _ => rfl⟩
  have d28 : Dfn K mg "_law_is" s_law_is ["thing", "mixer"] := ⟨_, _, fun_mk (st := s_law_is) l28 c28 k28, PySem.W.mg_of X G a28, (fun_mk (st := s_law_is) l28 c28 k28).binds fun _ _ _ _ _ _ us hl => SW.len2 us hl fun _ _ => rfl⟩
  have d29 : Dfn K mg "_law_odd_pair" s_law_odd_pair ["row", "pair"] := ⟨_, _, fun_mk (st := s_law_odd_pair) l29 c29 k29, PySem.W.mg_of X G a29, (fun_mk (st := s_law_odd_pair) l29 c29 k29).binds fun _ _ _ _ _ _ us hl => SW.len2 us hl fun _ _ => rfl⟩
  have d30 : Dfn K mg "_law_odd_rows" s_law_odd_rows ["row", "rows"] := ⟨_, _, fun_mk (st := s_law_odd_rows) l30 c30 k30, PySem.W.mg_of X G a30, (fun_mk (st := s_law_odd_rows) l30 c30 k30).binds fun _ _ _ _ _ _ us hl => SW.len2 us hl fun _ _ => rfl⟩
  have d31 : Dfn K mg "_law_odd" s_law_odd ["row", "state"] := ⟨_, _, fun_mk (st := s_law_odd) l31 c31 k31, PySem.W.mg_of X G a31, (fun_mk (st := s_law_odd) l31 c31 k31).binds fun _ _ _ _ _ _ us hl => SW.len2 us hl fun _ _ => rfl⟩
  have d32 : Dfn K mg "_law_right" s_law_right ["thing", "mixer"] := ⟨_, _, fun_mk (st := s_law_right) l32 c32 k32, PySem.W.mg_of X G a32, (fun_mk (st := s_law_right) l32 c32 k32).binds fun _ _ _ _ _ _ us hl => SW.len2 us hl fun _ _ => rfl⟩
  have FL := fun_mk (st := s_law) l33 c33 k33
  refine ⟨PySem.W.fnOf "law" "law" (defArgs s_law) (defBody s_law) (defScope s_law) .none kV33 dc33 pm33 an33 cd33 ct33, fun s v => .of_eq rfl, fun base _ _ => ?_⟩
  have T0 := F_wholeA (P := l.prog) (w := w) (base := base) d0 g
  have T1 := F_sizeA (P := l.prog) (w := w) (base := base) d1 g T0
  have T2 := F_keyA (P := l.prog) (w := w) (base := base) d2 g T0
  have T3 := F_worthA (P := l.prog) (w := w) (base := base) d3 g T0
  have T4 := F_mark (P := l.prog) (w := w) (base := base) d4 g
  have T5 := F_place (P := l.prog) (w := w) (base := base) d5
  have T6 := F_places (P := l.prog) (w := w) (base := base) d6 g T1
  have T7 := F_movedR (P := l.prog) (w := w) (base := base) d7 g
  have T8 := F_keysT (P := l.prog) (w := w) (base := base) d8 g
  have T9 := F_pairsF (P := l.prog) (w := w) (base := base) d9 g T5 T4 T8
  have T10 := F_faultF (P := l.prog) (w := w) (base := base) d10 g T6 T7 T9
  have T11 := F_pairA (P := l.prog) (w := w) (base := base) d11 g T2 T3
  have T12 := F_rowA (P := l.prog) (w := w) (base := base) d12 g T11
  have T13 := F_rowsA (P := l.prog) (w := w) (base := base) d13 g T12
  have T14 := F_stateA (P := l.prog) (w := w) (base := base) d14 g T0 T13
  have T15 := F_soundA (P := l.prog) (w := w) (base := base) d15 g T14 T10
  have T16 := F_stream (P := l.prog) (w := w) (base := base) d16 g
  have T17 := F_take (P := l.prog) (w := w) (base := base) d17
  have T18 := F_mixer (P := l.prog) (w := w) (base := base) d18 T17
  have T19 := F_key (P := l.prog) (w := w) (base := base) d19 T17
  have T20 := F_worth (P := l.prog) (w := w) (base := base) d20 T17
  have T21 := F_tabSt (P := l.prog) (w := w) (base := base) d21 g T17 T19 T20
  have T22 := F_shelfFault (P := l.prog) (w := w) (base := base) d22 g
  have T23 := F_due (P := l.prog) (w := w) (base := base) d23 g T22
  have T24 := F_otherR (P := l.prog) (w := w) (base := base) d24 g T17 T19 T20
  have T25 := F_bentR (P := l.prog) (w := w) (base := base) d25 g T17 T24
  have T26 := F_num (P := l.prog) (w := w) (base := base) d26 g
  have T27 := F_lawRows (P := l.prog) (w := w) (base := base) d27 g T26
  have T28 := F_isA (P := l.prog) (w := w) (base := base) d28 g T27 T23
  have T29 := F_oddP (P := l.prog) (w := w) (base := base) d29 g T17
  have T30 := F_oddR (P := l.prog) (w := w) (base := base) d30 g T17 T29
  have T31 := F_oddS (P := l.prog) (w := w) (base := base) d31 g T17 T30
  have T32 := F_rightA (P := l.prog) (w := w) (base := base) d32 g T15 T28
  exact ok_law FL g T0 T1 T2 T3 T4 T5 T6 T7 T8 T9 T10 T11 T12 T13 T14 T15 T16 T17 T18 T19 T20 T21 T22 T23 T24 T25 T26 T27 T28 T29 T30 T31 T32
theorem walk {l : PySem.W.OpenLaw} {q : Program} {loose : List Str} {XP : (Str → Option Value) → Heap → Prop} {YP : World → Heap → Prop} {d : DefRec} {K : Params → PySem.W.Frag} (hn : l.most = some 63) (hdf : d.params.defaults = [])
    (hY : ∀ (w : World) (h : Heap), YP w h → (K w.params).In h)
    (F : ∀ (w : World) (mg : Str → Option Value) (fa : Addr) (h : Heap), (K w.params).In h → h.Ns mainGlobals mg → mg d.name = some (.ref fa) →
      ∃ fd : FuncData, (∀ (s : Shared) (u : Value), BindsTo s fd ⟨[u], []⟩ [("script", u)]) ∧ ∀ base : Heap, (K w.params).In base → base.Ns mainGlobals mg → FnOk l.prog w (K w.params) mg base CX0 9 fa fd ["script"] (spLaw (K w.params))) :
    PySem.W.WalkO q loose XP YP l.row.toRowW d [] (fun f vs => PySem.call f vs) :=
  L2.walk_of (n := 63) (k := 9) (x := "script") (CX := fun _ => CX0) (sp := fun w => spLaw (K w.params)) hn (by decide) hdf ⟨rfl, by decide, by decide⟩ hY F (fun _ _ a ns hl _ hS => ⟨a, ns, rfl, hS, hl, fun _ => rfl⟩) fun _ _ _ _ _ z => z
end K
open PySem PySem.W PyProof.Rows
set_option maxRecDepth 100000 in
set_option maxHeartbeats 0 in
theorem PySem.Challenge.cw_slowshift_k38_what_is_a_sound_state_holds : PySem.Challenge.rw_slowshift_k38_what_is_a_sound_state.Holds := by
  w_on; o_law; z_head; (case hw => w_witness2)
  k_fill
  refine SW.walkX (fun _ => by kernel_rfl) (K.walk (l := PySem.Challenge.rw_slowshift_k38_what_is_a_sound_state) rfl rfl (fun w h Y => Y) ?F)
  case F =>
    intro w mg fa h KX G hmg
    refine' K.all_mk KX G hmg ?a0 ?l0 ?c0 ?k0 ?a1 ?l1 ?c1 ?k1 ?a2 ?l2 ?c2 ?k2 ?a3 ?l3 ?c3 ?k3 ?a4 ?l4 ?c4 ?k4 ?a5 ?l5 ?c5 ?k5 ?a6 ?l6 ?c6 ?k6 ?a7 ?l7 ?c7 ?k7 ?a8 ?l8 ?c8 ?k8 ?a9 ?l9 ?c9 ?k9 ?a10 ?l10 ?c10 ?k10 ?a11 ?l11 ?c11 ?k11 ?a12 ?l12 ?c12 ?k12 ?a13 ?l13 ?c13 ?k13 ?a14 ?l14 ?c14 ?k14 ?a15 ?l15 ?c15 ?k15 ?a16 ?l16 ?c16 ?k16 ?a17 ?l17 ?c17 ?k17 ?a18 ?l18 ?c18 ?k18 ?a19 ?l19 ?c19 ?k19 ?a20 ?l20 ?c20 ?k20 ?a21 ?l21 ?c21 ?k21 ?a22 ?l22 ?c22 ?k22 ?a23 ?l23 ?c23 ?k23 ?a24 ?l24 ?c24 ?k24 ?a25 ?l25 ?c25 ?k25 ?a26 ?l26 ?c26 ?k26 ?a27 ?l27 ?c27 ?k27 ?a28 ?l28 ?c28 ?k28 ?a29 ?l29 ?c29 ?k29 ?a30 ?l30 ?c30 ?k30 ?a31 ?l31 ?c31 ?k31 ?a32 ?l32 ?c32 ?k32 ?a33 ?l33 ?c33 ?k33 ?cst0 ?cst1 ?ta_SIZES ?tl_SIZES ?blt0 ?blt1 ?blt2 ?blt3 ?blt4 ?blt5 ?blt6 ?blt7 ?blt8
    (case a0 => k_is)
    (case l0 => k_is)
    (case c0 => k_is)
    (case k0 => k_is)
    (case a1 => k_is)
    (case l1 => k_is)
    (case c1 => k_is)
    (case k1 => k_is)
    (case a2 => k_is)
    (case l2 => k_is)
    (case c2 => k_is)
    (case k2 => k_is)
    (case a3 => k_is)
    (case l3 => k_is)
    (case c3 => k_is)
    (case k3 => k_is)
    (case a4 => k_is)
    (case l4 => k_is)
    (case c4 => k_is)
    (case k4 => k_is)
    (case a5 => k_is)
    (case l5 => k_is)
    (case c5 => k_is)
    (case k5 => k_is)
    (case a6 => k_is)
    (case l6 => k_is)
    (case c6 => k_is)
    (case k6 => k_is)
    (case a7 => k_is)
    (case l7 => k_is)
    (case c7 => k_is)
    (case k7 => k_is)
    (case a8 => k_is)
    (case l8 => k_is)
    (case c8 => k_is)
    (case k8 => k_is)
    (case a9 => k_is)
    (case l9 => k_is)
    (case c9 => k_is)
    (case k9 => k_is)
    (case a10 => k_is)
    (case l10 => k_is)
    (case c10 => k_is)
    (case k10 => k_is)
    (case a11 => k_is)
    (case l11 => k_is)
    (case c11 => k_is)
    (case k11 => k_is)
    (case a12 => k_is)
    (case l12 => k_is)
    (case c12 => k_is)
    (case k12 => k_is)
    (case a13 => k_is)
    (case l13 => k_is)
    (case c13 => k_is)
    (case k13 => k_is)
    (case a14 => k_is)
    (case l14 => k_is)
    (case c14 => k_is)
    (case k14 => k_is)
    (case a15 => k_is)
    (case l15 => k_is)
    (case c15 => k_is)
    (case k15 => k_is)
    (case a16 => k_is)
    (case l16 => k_is)
    (case c16 => k_is)
    (case k16 => k_is)
    (case a17 => k_is)
    (case l17 => k_is)
    (case c17 => k_is)
    (case k17 => k_is)
    (case a18 => k_is)
    (case l18 => k_is)
    (case c18 => k_is)
    (case k18 => k_is)
    (case a19 => k_is)
    (case l19 => k_is)
    (case c19 => k_is)
    (case k19 => k_is)
    (case a20 => k_is)
    (case l20 => k_is)
    (case c20 => k_is)
    (case k20 => k_is)
    (case a21 => k_is)
    (case l21 => k_is)
    (case c21 => k_is)
    (case k21 => k_is)
    (case a22 => k_is)
    (case l22 => k_is)
    (case c22 => k_is)
    (case k22 => k_is)
    (case a23 => k_is)
    (case l23 => k_is)
    (case c23 => k_is)
    (case k23 => k_is)
    (case a24 => k_is)
    (case l24 => k_is)
    (case c24 => k_is)
    (case k24 => k_is)
    (case a25 => k_is)
    (case l25 => k_is)
    (case c25 => k_is)
    (case k25 => k_is)
    (case a26 => k_is)
    (case l26 => k_is)
    (case c26 => k_is)
    (case k26 => k_is)
    (case a27 => k_is)
    (case l27 => k_is)
    (case c27 => k_is)
    (case k27 => k_is)
    (case a28 => k_is)
    (case l28 => k_is)
    (case c28 => k_is)
    (case k28 => k_is)
    (case a29 => k_is)
    (case l29 => k_is)
    (case c29 => k_is)
    (case k29 => k_is)
    (case a30 => k_is)
    (case l30 => k_is)
    (case c30 => k_is)
    (case k30 => k_is)
    (case a31 => k_is)
    (case l31 => k_is)
    (case c31 => k_is)
    (case k31 => k_is)
    (case a32 => k_is)
    (case l32 => k_is)
    (case c32 => k_is)
    (case k32 => k_is)
    (case a33 => k_is)
    (case l33 => k_is)
    (case c33 => k_is)
    (case k33 => k_is)
    (case cst0 => k_is)
    (case cst1 => k_is)
    (case ta_SIZES => k_is)
    (case tl_SIZES => k_is)
    (case blt0 => k_is)
    (case blt1 => k_is)
    (case blt2 => k_is)
    (case blt3 => k_is)
    (case blt4 => k_is)
    (case blt5 => k_is)
    (case blt6 => k_is)
    (case blt7 => k_is)
    (case blt8 => k_is)




