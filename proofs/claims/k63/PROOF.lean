import PyProof.Rows.All
import Wide.All
import OpenK.AllK
import Wide.FinOn
import Lean
import PyProof.EqAt
import PyProof.EqKinds
import PyProof.TupleCall
import PySem.Challenge.RW_beadframe_k63_parts_set
set_option bootstrap.genMatcherCode false
set_option genSizeOf false
set_option compiler.extract_closed false
def zt0 : Lean.Syntax := (Lean.Unhygienic.run `(tacticSeq| first | exact .inl rfl | exact .inr rfl | assumption)).raw
def zt1 : Lean.Syntax := (Lean.Unhygienic.run `(tacticSeq| decide)).raw
def zt2 : Lean.Syntax := (Lean.Unhygienic.run `(tacticSeq| rfl)).raw
def zt3 : Lean.Syntax := (Lean.Unhygienic.run `(tacticSeq| intro _; rfl)).raw
def zt4 : Lean.Syntax := (Lean.Unhygienic.run `(tacticSeq| first | exact Or.inl rfl | exact Or.inr (Or.inl rfl) | exact Or.inr (Or.inr rfl))).raw
def zt5 : Lean.Syntax := (Lean.Unhygienic.run `(tacticSeq| intro _ _; rfl)).raw
set_option Elab.async false
set_option linter.all false
set_option maxRecDepth 100000
namespace L2
open PySem PySem.Spec PyProof.Rows

noncomputable abbrev Key := Sum Int Str
noncomputable def keyIs : Key → Value → Bool
  | .inl k, v => Value.isInt k v
  | .inr x, v => Value.isStrOf x v
noncomputable def keyH (w : World) : Key → Int
  | .inl k => hashInt k
  | .inr x => hashStr w x
private theorem keyIs_shape : ∀ {k : Key} {v : Value}, keyIs k v = true → (∃ i t, k = Sum.inl i ∧ v = Value.int i t) ∨ (∃ x t, k = Sum.inr x ∧ v = Value.str x t)
  | .inl i, v, h => by
    obtain ⟨t, e⟩ := Value.isInt_shape (k := i) (v := v) h
    exact .inl ⟨i, t, rfl, e⟩
  | .inr x, v, h => by
    obtain ⟨t, e⟩ := Value.isStrOf_shape (x := x) (v := v) h
    exact .inr ⟨x, t, rfl, e⟩
private theorem keyIs_int (i : Int) (t : Tok) : keyIs (.inl i) (.int i t) = true := by simp [keyIs, Value.isInt]
private theorem keyIs_str (x : Str) (t : Tok) : keyIs (.inr x) (.str x t) = true := by simp [keyIs, Value.isStrOf]
private theorem key_ll (a b : Int) : decide ((Sum.inl a : Key) = Sum.inl b) = (a == b) := by
  by_cases e : a = b
  · subst e; simp
  · have h : ¬ (Sum.inl a : Key) = Sum.inl b := fun q => e (Sum.inl.inj q)
    rw [decide_eq_false h]
    exact (beq_eq_false_iff_ne.mpr e).symm
private theorem key_rr (a b : Str) : decide ((Sum.inr a : Key) = Sum.inr b) = decide (a = b) := by
  by_cases e : a = b
  · subst e; simp
  · have h : ¬ (Sum.inr a : Key) = Sum.inr b := fun q => e (Sum.inr.inj q)
    rw [decide_eq_false h, decide_eq_false e]
private theorem key_lr (a : Int) (b : Str) : decide ((Sum.inl a : Key) = Sum.inr b) = false := decide_eq_false (fun q => nomatch q)
private theorem key_rl (a : Str) (b : Int) : decide ((Sum.inr a : Key) = Sum.inl b) = false := decide_eq_false (fun q => nomatch q)

noncomputable def mixKind (prog : Program) (w : World) : PySem.KeyKind prog w Key where
  is := keyIs
  hash := keyH w
  inj := fun v a b ha hb => by
    rcases keyIs_shape ha with ⟨i, t, rfl, rfl⟩ | ⟨x, t, rfl, rfl⟩
    · rcases keyIs_shape hb with ⟨j, u, rfl, e⟩ | ⟨y, u, rfl, e⟩
      · injection e with e1 _; rw [e1]
      · exact nomatch e
    · rcases keyIs_shape hb with ⟨j, u, rfl, e⟩ | ⟨y, u, rfl, e⟩
      · exact nomatch e
      · injection e with e1 _; rw [e1]
  byValue := fun k v h => by
    rcases keyIs_shape h with ⟨i, t, rfl, rfl⟩ | ⟨x, t, rfl, rfl⟩ <;> rfl
  pyHash := fun hv h => by
    rcases keyIs_shape hv with ⟨i, t, rfl, rfl⟩ | ⟨x, t, rfl, rfl⟩
    · exact wpAny_pyHash_int h
    · exact wpAny_pyHash_str h
  eqBool := fun hu hv h => by
    rcases keyIs_shape hu with ⟨i, t, rfl, rfl⟩ | ⟨x, t, rfl, rfl⟩
    · rcases keyIs_shape hv with ⟨j, u, rfl, rfl⟩ | ⟨y, u, rfl, rfl⟩
      · rw [key_ll] at h; exact wpAny_eqBool_int h
      · rw [key_lr] at h; exact SeqAt.EqAt.int_str i t y u _ _ _ _ h
    · rcases keyIs_shape hv with ⟨j, u, rfl, rfl⟩ | ⟨y, u, rfl, rfl⟩
      · rw [key_rl] at h; exact SeqAt.EqAt.str_int x t j u _ _ _ _ h
      · rw [key_rr] at h; exact wpAny_eqBool_str h
  «strs» := fun k x t v h => by
    rcases keyIs_shape h with ⟨i, u, rfl, e⟩ | ⟨y, u, rfl, e⟩
    · exact nomatch e
    · injection e with e1 _
      subst e1
      cases v <;> rfl

private theorem mixKind_int (prog : Program) (w : World) (i : Int) (t : Tok) : (mixKind prog w).is (.inl i) (.int i t) = true := keyIs_int i t
private theorem mixKind_str (prog : Program) (w : World) (x : Str) (t : Tok) : (mixKind prog w).is (.inr x) (.str x t) = true := keyIs_str x t
end L2

namespace L2
open PySem PySem.Spec PyProof.Rows

inductive V where
  | non | bl (b : Bool) | int (i : Int) | str (x : Str) | byt (b : Array UInt8) | flt (b : UInt64) | ref (a : Addr) | ty (n : String)
  deriving DecidableEq

noncomputable def RelV : V → Value → Prop
  | .non, u => u = Value.none
  | .bl b, u => u = Value.bool b
  | .int i, u => ∃ t, u = Value.int i t
  | .str x, u => ∃ t, u = Value.str x t
  | .byt b, u => ∃ t, u = Value.bytes b t
  | .flt b, u => ∃ t, u = Value.float b t
  | .ref a, u => u = Value.ref a
  | .ty n, u => u = Value.type n

noncomputable abbrev Vals : List V → List Value → Prop := Paired RelV
private theorem Vals.length {xs : List V} {us : List Value} (r : Vals xs us) : xs.length = us.length := Paired.length r
private theorem Vals.get : ∀ {xs : List V} {us : List Value} {i : Nat} {x : V}, Vals xs us → xs[i]? = some x → ∃ u, us[i]? = some u ∧ RelV x u
  | _, _, _, _, .nil, e => by simp at e
  | _, _, 0, _, .cons r _, e => by simp at e; subst e; exact ⟨_, rfl, r⟩
  | _, _, i + 1, x, .cons _ t, e => by
    obtain ⟨u, h1, h2⟩ := Vals.get (i := i) (x := x) t (by simpa using e)
    exact ⟨u, by simpa using h1, h2⟩
private theorem Vals.append {xs ys : List V} {us ws : List Value} (h : Vals xs us) (s : Vals ys ws) : Vals (xs ++ ys) (us ++ ws) := by
  induction h with
  | nil => exact s
  | cons r t ih => exact .cons r ih
private theorem Vals.take : ∀ {xs : List V} {us : List Value} (n : Nat), Vals xs us → Vals (xs.take n) (us.take n)
  | _, _, 0, _ => .nil
  | _, _, _ + 1, .nil => .nil
  | _, _, n + 1, .cons r t => .cons r (Vals.take n t)
private theorem Vals.drop : ∀ {xs : List V} {us : List Value} (n : Nat), Vals xs us → Vals (xs.drop n) (us.drop n)
  | _, _, 0, r => r
  | _, _, _ + 1, .nil => .nil
  | _, _, n + 1, .cons _ t => Vals.drop n t
noncomputable def RelO : Option V → Option Value → Prop
  | some v, some u => RelV v u
  | none, none => True
  | _, _ => False
noncomputable def KV {κ : Type} : List (κ × V) → List (κ × Value) → Prop := Paired fun (p : κ × V) (q : κ × Value) => p.1 = q.1 ∧ RelV p.2 q.2

noncomputable def kV : Key → V
  | .inl i => .int i
  | .inr x => .str x

inductive HO where
  | lst (xs : List V)
  | tup (xs : List V)
  | dK (kvs : List (Key × V)) | dT (kvs : List (List Key × V))
  | set (S : Int → Bool) (n : Nat)
  | ins (C dx : Addr) (fs : List (Str × V))
  | own (x : Addr)
  | xd (fs : List (Str × V))
  | met (f x : Addr)
  | rng (lo hi : Int)
  | frz (o : Obj) (u : HO)
  | tbl (ps : Array Value)
  | ext (φ : Heap → Prop)

noncomputable abbrev Hp := Addr → Option HO
noncomputable def upd (H : Hp) (a : Addr) (o : HO) : Hp := fun b => if b = a then some o else H b
private theorem upd_same {H : Hp} {a : Addr} {o : HO} : upd H a o a = some o := by unfold upd; rw [if_pos rfl]
private theorem upd_ne {H : Hp} {a b : Addr} {o : HO} (h : b ≠ a) : upd H a o b = H b := by unfold upd; rw [if_neg h]
private theorem ne_of {H : Hp} {a b : Addr} {o u : HO} (h : H a = some o) (h' : H b = some u) (d : o ≠ u) : a ≠ b := by
  intro e; subst e; rw [h] at h'; exact d (Option.some.inj h')
private theorem ne_of_none {H : Hp} {a b : Addr} {o : HO} (h : H a = some o) (h' : H b = none) : a ≠ b := by
  intro e; subst e; rw [h] at h'; cases h'

section
variable (P : Program) (w : World)
noncomputable def ObjOk (H : Hp) (h : Heap) (a : Addr) : HO → Prop
  | .lst xs => xs.length ≤ sizeLine ∧ ∃ (its : List Value) (n : Nat), Vals xs its ∧ h.get? a = some { cls := .type "list", data := .seq its.toArray n }
  | .tup xs => xs.length ≤ sizeLine ∧ ∃ its : List Value, Vals xs its ∧ IsTup h a its.toArray
  | .dK kvs => kvs.length ≤ sizeLine ∧ (a == sysModules) = false ∧ ∃ vs, KV kvs vs ∧ h.DictOf (mixKind P w) a vs
  | .dT kvs => kvs.length ≤ sizeLine ∧ (a == sysModules) = false ∧ ∃ xs : List (List Key × Addr × Value),
      Paired (fun (p : List Key × V) (q : List Key × Addr × Value) => p.1 = q.1 ∧ H q.2.1 = some (.tup (p.1.map kV)) ∧ RelV p.2 q.2.2) kvs xs ∧
      ∃ o es ep, h.get? a = some o ∧ o.ExactDict ∧ o.data = .dict es ep ∧ es.toList = xs.map (entryOfKey (tupleKind (mixKind P w))) ∧ (xs.map (·.1)).Nodup
  | .set S n => h.SetOf (intKind P w) a S n
  | .ins C dx fs => H dx = some (.own a) ∧ fs.length ≤ 1000 ∧ dx ≠ a ∧ h.get? a = some (PySem.W.instObj C dx) ∧
      ∃ mA, h.Ns1 dx mA ∧ (∀ f, RelO (fs.lookup f) (mA f)) ∧ PySem.Within mA (fs.map (·.1))
  | .own _ => ∃ o, h.get? a = some o
  | .xd fs => ∃ mA, h.Ns1 a mA ∧ ∀ f, RelO (fs.lookup f) (mA f)
  | .rng lo hi => ∃ t u v, h.get? a = some { cls := .type "range", data := .fields #[.int lo t, .int hi u, .int 1 v] }
  | .frz o u => h.get? a = some o ∧ ObjOk H h a u
  | .tbl ps => h.get? a = some { cls := .none, data := .fields ps }
  | .met f x => h.get? a = some (PySem.W.methodObj (.ref f) (.ref x))
  | .ext φ => φ h ∧ (∃ o, h.get? a = some o) ∧ ∀ h1 h2 : Heap, φ h1 → (∀ o, h1.get? a = some o → h2.get? a = some o) → φ h2
noncomputable def HOk (H : Hp) (h : Heap) : Prop := ∀ a o, H a = some o → ObjOk P w H h a o
end

section
variable {P : Program} {w : World} {H H' : Hp} {h h' : Heap} {a : Addr} {o : HO}
private theorem ObjOk.lt (x : ObjOk P w H h a o) : a < h.objs.size := by
  cases o with
  | lst xs => obtain ⟨_, _, _, _, e⟩ := x; exact Heap.lt_size e
  | tup xs => obtain ⟨_, _, _, p⟩ := x; exact p.lt
  | dK kvs => obtain ⟨_, _, _, _, o, _, _, e, _⟩ := x; exact Heap.lt_size e
  | dT kvs => obtain ⟨_, _, _, _, o, _, _, e, _⟩ := x; exact Heap.lt_size e
  | set S n => obtain ⟨o, _, _, _, e, _⟩ := x; exact Heap.lt_size e
  | ins C dx fs => obtain ⟨_, _, _, e, _⟩ := x; exact Heap.lt_size e
  | own y => obtain ⟨_, e⟩ := x; exact Heap.lt_size e
  | xd fs => obtain ⟨_, ⟨_, _, _, e, _⟩, _⟩ := x; exact Heap.lt_size e
  | rng lo hi => obtain ⟨_, _, _, e⟩ := x; exact Heap.lt_size e
  | frz ob u => obtain ⟨e, _⟩ := x; exact Heap.lt_size e
  | tbl ps => exact Heap.lt_size (show h.get? a = some _ from x)
  | met f y => exact Heap.lt_size (show h.get? a = some _ from x)
  | ext φ => obtain ⟨_, ⟨_, e⟩, _⟩ := x; exact Heap.lt_size e
private theorem Paired.mapP {α β : Type} {F G : α → β → Prop} {l₁ : List α} {l₂ : List β} (h : Paired F l₁ l₂) (f : ∀ a b, F a b → G a b) : Paired G l₁ l₂ := by
  induction h with
  | nil => exact .nil
  | cons r t ih => exact .cons (f _ _ r) ih
private theorem ObjOk.stay (x : ObjOk P w H h a o) (k : ∀ b u, (b = a ∨ H b = some (.own a)) → h.get? b = some u → h'.get? b = some u)
    (ho : ∀ b, H b = some (.own a) → H' b = some (.own a)) (ht : ∀ b xs, H b = some (.tup xs) → H' b = some (.tup xs)) : ObjOk P w H' h' a o := by
  induction o with
  | lst xs => obtain ⟨z, its, n, r, e⟩ := x; exact ⟨z, its, n, r, k _ _ (.inl rfl) e⟩
  | tup xs => obtain ⟨z, its, r, ob, e, c⟩ := x; exact ⟨z, its, r, ob, k _ _ (.inl rfl) e, c⟩
  | dK kvs => obtain ⟨z, y, vs, r, ob, es, ep, e, c⟩ := x; exact ⟨z, y, vs, r, ob, es, ep, k _ _ (.inl rfl) e, c⟩
  | dT kvs =>
    obtain ⟨z, y, xs, r, ob, es, ep, e, c⟩ := x
    exact ⟨z, y, xs, Paired.mapP r fun p q z => ⟨z.1, ht _ _ z.2.1, z.2.2⟩, ob, es, ep, k _ _ (.inl rfl) e, c⟩
  | set S n => obtain ⟨ob, es, ep, t, e, c⟩ := x; exact ⟨ob, es, ep, t, k _ _ (.inl rfl) e, c⟩
  | ins C dx fs =>
    obtain ⟨d, z, ne, e, mA, ⟨od, es, ep, e2, c⟩, r⟩ := x
    exact ⟨ho _ d, z, ne, k _ _ (.inl rfl) e, mA, ⟨od, es, ep, k _ _ (.inr d) e2, c⟩, r⟩
  | own y => obtain ⟨ob, e⟩ := x; exact ⟨ob, k _ _ (.inl rfl) e⟩
  | xd fs => obtain ⟨mA, ⟨od, es, ep, e, c⟩, r⟩ := x; exact ⟨mA, ⟨od, es, ep, k _ _ (.inl rfl) e, c⟩, r⟩
  | rng lo hi => obtain ⟨t, u, v, e⟩ := x; exact ⟨t, u, v, k _ _ (.inl rfl) e⟩
  | frz ob u ih => obtain ⟨e, q⟩ := x; exact ⟨k _ _ (.inl rfl) e, ih q⟩
  | tbl ps =>
    have e : h.get? a = some { cls := .none, data := .fields ps } := x
    show h'.get? a = some { cls := .none, data := .fields ps }
    exact k a _ (.inl rfl) e
  | met f y =>
    have e : h.get? a = some (PySem.W.methodObj (.ref f) (.ref y)) := x
    show h'.get? a = some (PySem.W.methodObj (.ref f) (.ref y))
    exact k a _ (.inl rfl) e
  | ext φ => obtain ⟨p, ⟨o, e⟩, st⟩ := x; exact ⟨st _ _ p fun o q => k _ _ (.inl rfl) q, ⟨o, k _ _ (.inl rfl) e⟩, st⟩
private theorem HOk.lt (x : HOk P w H h) (e : H a = some o) : a < h.objs.size := (x a o e).lt
private theorem HOk.fresh (x : HOk P w H h) (e : h.objs.size ≤ a) : H a = none := by
  cases q : H a with
  | none => rfl
  | some u => exact absurd (Nat.lt_of_lt_of_le (x.lt q) e) (Nat.lt_irrefl _)
private theorem HOk.kept (x : HOk P w H h) (k : ∀ b u, h.get? b = some u → h'.get? b = some u) : HOk P w H h' := fun a o e =>
  (x a o e).stay (fun b u _ q => k b u q) (fun _ q => q) fun _ _ q => q
private theorem HOk.laid (x : HOk P w H h) (k : ∀ b u, h.get? b = some u → h'.get? b = some u) (hp : h.objs.size ≤ a) (new : ObjOk P w (upd H a o) h' a o) : HOk P w (upd H a o) h' := fun b u e => by
  have hn := x.fresh hp
  by_cases hb : b = a
  · subst hb; rw [upd_same] at e; cases e; exact new
  · rw [upd_ne hb] at e
    exact (x b u e).stay (fun c v _ q => k c v q) (fun c q => by rw [upd_ne (ne_of_none q hn)]; exact q) fun c xs q => by rw [upd_ne (ne_of_none q hn)]; exact q
end

noncomputable def Rd (H : Hp) (a : Addr) (u : HO) : Prop := H a = some u ∨ ∃ o, H a = some (.frz o u)
private theorem Rd.ok {P : Program} {w : World} {H : Hp} {h : Heap} {a : Addr} {u : HO} (r : Rd H a u) (x : HOk P w H h) : ObjOk P w H h a u := by
  rcases r with r | ⟨o, r⟩
  · exact x a u r
  · obtain ⟨_, q⟩ := x a _ r
    exact q
noncomputable def Mut : Option HO → Prop
  | some (.lst _) => True
  | some (.dK _) => True
  | some (.dT _) => True
  | some (.set _ _) => True
  | some (.ins _ _ _) => True
  | some (.ext _) => True
  | _ => False
section
variable {P : Program} {w : World} {H : Hp} {h h' : Heap} {x e : Addr} {o' : HO}
private theorem HOk.write (ok : HOk P w H h) (mu : Mut (H x)) (he : e = x ∨ H e = some (.own x)) (k : ∀ b u, b ≠ e → h.get? b = some u → h'.get? b = some u) (heo : ∃ u, h'.get? e = some u)
    (new : ObjOk P w (upd H x o') h' x o') : HOk P w (upd H x o') h' := fun b u q => by
  have nown : ∀ c y, H c = some (.own y) → c ≠ x := fun c y r z => by subst z; rw [r] at mu; exact mu
  have ntup : ∀ c xs, H c = some (.tup xs) → c ≠ x := fun c xs r z => by subst z; rw [r] at mu; exact mu
  by_cases hb : b = x
  · subst hb; rw [upd_same] at q; cases q; exact new
  · rw [upd_ne hb] at q
    by_cases hbe : b = e
    · have q' : H b = some (.own x) := by
        rcases he with z | z
        · exact absurd (hbe.trans z) hb
        · rw [hbe]; exact z
      rw [q] at q'; cases q'
      obtain ⟨v, hv⟩ := heo
      exact ⟨v, by rw [hbe]; exact hv⟩
    · refine (ok b u q).stay (fun c v hc r => k c v ?_ r) (fun c r => by rw [upd_ne (nown c b r)]; exact r) fun c xs r => by rw [upd_ne (ntup c xs r)]; exact r
      rcases hc with rfl | hc
      · exact hbe
      · rintro rfl
        rcases he with z | z
        · exact nown c b hc z
        · rw [hc] at z; cases z; exact hb rfl
end

structure Un (fs ex : List Addr) (H H' : Hp) (h h' : Heap) : Prop where
  keep : ∀ b o, h.get? b = some o → H b = none → b ∉ fs → b ∉ ex → h'.get? b = some o
  slot : ∀ b o, h.get? b = some o → H b = none → b ∈ fs → b ∉ ex → ∃ sl, h'.get? b = some { o with slots := sl }
  free : ∀ b o, h.get? b = some o → H b = none → b ∉ ex → H' b = none
  there : ∀ b o, h.get? b = some o → b ∉ ex → ∃ o', h'.get? b = some o'
  tups : ∀ b xs, H b = some (.tup xs) → H' b = some (.tup xs)
  frzs : ∀ b o u, H b = some (.frz o u) → H' b = some (.frz o u)
  tbls : ∀ b ps, H b = some (.tbl ps) → ∃ more, H' b = some (.tbl (ps ++ more))
section
variable {fs fs' ex ex' : List Addr} {H H1 H2 : Hp} {h h1 h2 h' : Heap} {a x e : Addr} {o : HO}
private theorem Un.any (u : Un fs ex H H1 h h1) {b : Addr} {ob : Obj} (q : h.get? b = some ob) (n : H b = none) (hx : b ∉ ex) : ∃ sl, h1.get? b = some { ob with slots := sl } := by
  by_cases hb : b ∈ fs
  · exact u.slot b ob q n hb hx
  · exact ⟨ob.slots, u.keep b ob q n hb hx⟩
private theorem Un.trans (a : Un fs ex H H1 h h1) (b : Un fs ex H1 H2 h1 h2) : Un fs ex H H2 h h2 where
  keep := fun c ob q n hc hx => b.keep c ob (a.keep c ob q n hc hx) (a.free c ob q n hx) hc hx
  slot := fun c ob q n hc hx => by
    obtain ⟨sl, e1⟩ := a.slot c ob q n hc hx
    obtain ⟨sl', e2⟩ := b.slot c _ e1 (a.free c ob q n hx) hc hx
    exact ⟨sl', e2⟩
  free := fun c ob q n hx => by
    obtain ⟨o', e1⟩ := a.there c ob q hx
    exact b.free c o' e1 (a.free c ob q n hx) hx
  there := fun c ob q hx => by
    obtain ⟨o', e1⟩ := a.there c ob q hx
    exact b.there c o' e1 hx
  tups := fun c xs q => b.tups c xs (a.tups c xs q)
  frzs := fun c ob xs q => b.frzs c ob xs (a.frzs c ob xs q)
  tbls := fun c ps q => by
    obtain ⟨m1, e1⟩ := a.tbls c ps q
    obtain ⟨m2, e2⟩ := b.tbls c _ e1
    exact ⟨m1 ++ m2, by rw [e2, Array.append_assoc]⟩
private theorem Un.kept (k : ∀ b u, h.get? b = some u → h'.get? b = some u) : Un fs ex H H h h' :=
  ⟨fun b ob q _ _ _ => k b ob q, fun b ob q _ _ _ => ⟨ob.slots, k b ob q⟩, fun _ _ _ n _ => n, fun b ob q _ => ⟨ob, k b ob q⟩, fun _ _ q => q, fun _ _ _ q => q, fun _ ps q => ⟨#[], by rw [q]; simp⟩⟩
private theorem Un.refl : Un fs ex H H h h := Un.kept fun _ _ q => q
private theorem Un.laid (k : ∀ b u, h.get? b = some u → h'.get? b = some u) (hp : h.objs.size ≤ a) (hn : H a = none) : Un fs ex H (upd H a o) h h' where
  keep := fun b u q _ _ _ => k b u q
  slot := fun b u q _ _ _ => ⟨u.slots, k b u q⟩
  free := fun b u q n _ => by rw [upd_ne (Nat.ne_of_lt (Nat.lt_of_lt_of_le (Heap.lt_size q) hp))]; exact n
  there := fun b u q _ => ⟨u, k b u q⟩
  tups := fun b xs q => by rw [upd_ne (ne_of_none q hn)]; exact q
  frzs := fun b u xs q => by rw [upd_ne (ne_of_none q hn)]; exact q
  tbls := fun b ps q => ⟨#[], by rw [upd_ne (ne_of_none q hn), q]; simp⟩
private theorem Un.write (mu : Mut (H x)) (he : e = x ∨ H e = some (.own x)) (k : ∀ b u, b ≠ e → h.get? b = some u → h'.get? b = some u) (heo : ∃ u, h'.get? e = some u) : Un fs ex H (upd H x o) h h' := by
  have hx : ∀ b, H b = none → b ≠ x := fun b n z => by subst z; rw [n] at mu; exact mu
  have hb : ∀ b, H b = none → b ≠ e := fun b n z => by
    subst z
    rcases he with r | r
    · exact hx b n r
    · rw [n] at r; cases r
  have hm : ∀ b u, H b = some u → ¬ Mut (some u) → b ≠ x := fun b u q nm z => by subst z; rw [q] at mu; exact nm mu
  refine ⟨fun b u q n _ _ => k b u (hb b n) q, fun b u q n _ _ => ⟨u.slots, k b u (hb b n) q⟩, fun b u q n _ => by rw [upd_ne (hx b n)]; exact n, fun b u q _ => ?_,
    fun b xs q => by rw [upd_ne (hm b _ q fun z => z)]; exact q, fun b u xs q => by rw [upd_ne (hm b _ q fun z => z)]; exact q, fun b ps q => ⟨#[], by rw [upd_ne (hm b _ q fun z => z), q]; simp⟩⟩
  by_cases hbe : b = e
  · subst hbe; exact heo
  · exact ⟨u, k b u hbe q⟩
end

noncomputable def trk (h : Heap) (H : Hp) : List Addr := (List.range h.objs.size).filter fun a => (H a).isSome
noncomputable def hidT (h : Heap) (H : Hp) : Heap := PySem.W.hideAll h (trk h H)
private theorem hidT_size (h : Heap) (H : Hp) : (hidT h H).objs.size = h.objs.size := PySem.W.hideAll_size _ _
private theorem hidT_get {h : Heap} {H : Hp} {b : Addr} {o : Obj} (e : h.get? b = some o) (n : H b = none) : (hidT h H).get? b = some o :=
  PySem.W.hideAll_get _ e fun hm => by
    have q : (H b).isSome = true := (List.mem_filter.mp hm).2
    rw [n] at q; simp at q
private theorem of_hidT {h : Heap} {H : Hp} {b : Addr} {o : Obj} (e : (hidT h H).get? b = some o) : h.get? b = some o ∧ H b = none := by
  have e' : h.get? b = some o := PySem.W.of_hideAll (trk h H) e
  refine ⟨e', ?_⟩
  cases q : H b with
  | none => rfl
  | some x =>
    have hm : b ∈ trk h H := List.mem_filter.mpr ⟨List.mem_range.mpr (Heap.lt_size e'), by simp [q]⟩
    have z : (hidT h H).get? b = none := PySem.W.hideAll_none (trk h H) hm
    rw [z] at e; cases e

noncomputable def allNews (g h : Heap) (L : Addr) : List (Addr × Obj) := (List.range h.objs.size).filterMap fun a => if a = L ∨ (g.get? a).isSome = true then none else (h.get? a).map fun o => (a, o)
noncomputable def rest (g h : Heap) (L d : Addr) : List (Addr × Obj) := (allNews g h L).filter fun p => decide (p.1 ≠ d)
end L2

namespace L2
open PySem PySem.Spec PyProof.Rows

structure Mod (K : PySem.W.Frag) (mg : Str → Option Value) (base : Heap) : Prop where
  kin : K.In base
  glob : base.Ns mainGlobals mg
  blt : ∃ mb, base.Ns builtinsNs mb ∧ ∀ x : Str, x ≠ "__name__" → mb x = bootBuiltins x
  nolimit : base.NoLimit

structure Cx where
  prog : Program
  w : World
  K : PySem.W.Frag
  mg : Str → Option Value
  base : Heap
  A : Around
  N : List Str
  s₀ : Shared
  H₀ : Hp
  env : Env
  outer : List Env
  stack : List Env
  ex : List Addr
  fn : Str → Bool
  calm : Bool
  pn : List (Addr × Obj)
  xe : Value → Shared → Prop
noncomputable def frs (l : List Env) : List Addr := l.filterMap (·.frame)
noncomputable abbrev Cx.fs (X : Cx) : List Addr := frs X.outer

noncomputable def Vis (sc : Scope) (x : Str) : Prop := sc.names.lookup x = some .local ∨ sc.names.lookup x = some .cell ∨ sc.names.lookup x = some .free
noncomputable def Loc (sc : Scope) (x : Str) : Prop := sc.names.lookup x = some .local ∨ sc.names.lookup x = some .cell
noncomputable def Look (env : Env) (h : Heap) (m : Str → Option Value) (x : Str) (u : Value) : Prop :=
  (env.kindOf x = some .local ∧ m x = some u) ∨ ((env.kindOf x = some .cell ∨ env.kindOf x = some .free) ∧ ∃ c, env.cells.lookup x = some c ∧ h.IsCell c (some u))

structure Cx.Ok (X : Cx) : Prop where
  mod : Mod X.K X.mg X.base
  kind : X.env.scope.kind = .function
  glob : X.env.globals = mainGlobals
  blt : X.env.builtins = builtinsNs
  above : X.s₀.heap.objs.size ≤ X.env.locals
  inj : ∀ x y c, X.env.cells.lookup x = some c → X.env.cells.lookup y = some c → x = y
  has : ∀ x, (X.env.kindOf x = some .cell ∨ X.env.kindOf x = some .free) → ∃ c, X.env.cells.lookup x = some c
  cab : ∀ x c, X.fn x = true → X.env.cells.lookup x = some c → X.s₀.heap.objs.size ≤ c
  hd : X.calm = true → X.A.handled = none
  frames : X.A.frames = some X.stack
  stk : X.stack = X.outer ∨ (X.stack = X.env :: X.outer ∧ X.env.frame = some X.env.locals)
  exf : ∀ b ∈ X.ex, b ≠ X.env.locals ∧ ∀ x c, X.env.cells.lookup x = some c → c ≠ b
  bs : ∀ b o, X.base.get? b = some o → X.s₀.heap.get? b = some o ∧ X.H₀ b = none
  bsz : X.base.objs.size ≤ X.s₀.heap.objs.size
  noex : ∀ b o, X.base.get? b = some o → b ∉ X.ex
  exfs : ∀ b ∈ X.ex, b ∉ X.fs
  funs : X.s₀.heap.FunFrames X.base X.outer
  frf : ∀ b ∈ X.fs, X.H₀ b = none

structure Inv (X : Cx) (pins : List (Addr × Obj)) (σ : List (Option V)) (H : Hp) (s : Shared) : Prop where
  ok : X.Ok
  os : s.os = X.s₀.os
  bare : AllBare s.gens
  base : Un X.fs X.ex X.H₀ H X.s₀.heap s.heap
  loc : ∃ m, s.heap.Ns X.env.locals m ∧ ∀ (i : Nat) (x : Str) (v : V), X.N[i]? = some x → σ[i]? = some (some v) → Vis X.env.scope x → ∃ u, RelV v u ∧ Look X.env s.heap m x u
  cell : ∀ x c, X.env.cells.lookup x = some c → ∃ v, s.heap.IsCell c v
  free : H X.env.locals = none
  freeC : ∀ x c, X.env.cells.lookup x = some c → H c = none
  pin : ∀ p ∈ X.pn ++ pins, s.heap.get? p.1 = some p.2 ∧ H p.1 = none ∧ p.1 ≠ X.env.locals ∧ p.1 ∉ X.fs ∧ ∀ v, p.2.data ≠ .cell v
  hok : HOk X.prog X.w H s.heap
  len : σ.length = X.N.length

section
variable {X : Cx} {pins : List (Addr × Obj)} {σ : List (Option V)} {H H' : Hp} {s : Shared} {h' : Heap}

private theorem Cx.Ok.nofr (ok : X.Ok) {b : Addr} {o : Obj} (e : X.base.get? b = some o) : b ∉ X.fs := fun hb => by
  have := (ok.funs.mem hb).1
  rw [e] at this; cases this
private theorem Inv.bs (I : Inv X pins σ H s) : ∀ b o, X.base.get? b = some o → s.heap.get? b = some o ∧ H b = none := fun b o e =>
  ⟨I.base.keep b o (I.ok.bs b o e).1 (I.ok.bs b o e).2 (I.ok.nofr e) (I.ok.noex b o e), I.base.free b o (I.ok.bs b o e).1 (I.ok.bs b o e).2 (I.ok.noex b o e)⟩
private theorem Inv.bk (I : Inv X pins σ H s) : ∀ b o, X.base.get? b = some o → s.heap.get? b = some o := fun b o e => (I.bs b o e).1
private theorem Inv.mod (I : Inv X pins σ H s) : Mod X.K X.mg X.base := I.ok.mod
private theorem Inv.kIn (I : Inv X pins σ H s) : X.K.In s.heap := I.ok.mod.kin.keeps I.bk
private theorem Inv.lt (I : Inv X pins σ H s) : X.env.locals < s.heap.objs.size := let ⟨_, hn, _⟩ := I.loc; hn.lt
private theorem Inv.sz (I : Inv X pins σ H s) : X.s₀.heap.objs.size ≤ s.heap.objs.size := Nat.le_trans I.ok.above (Nat.le_of_lt I.lt)
private theorem Inv.nofs (I : Inv X pins σ H s) {a : Addr} (h : s.heap.objs.size ≤ a) : a ∉ X.fs := fun hb => by
  obtain ⟨_, o, ho, _⟩ := I.ok.funs.mem hb
  exact absurd (Nat.lt_of_lt_of_le (Heap.lt_size ho) (Nat.le_trans I.sz h)) (Nat.lt_irrefl _)
private theorem Inv.cne (I : Inv X pins σ H s) : ∀ x c, X.env.cells.lookup x = some c → c ≠ X.env.locals := fun x c e z => by
  obtain ⟨v, o, ho, hd⟩ := I.cell x c e
  obtain ⟨m, ⟨o', es, ep, ho', hd', _⟩, _⟩ := I.loc
  rw [z, ho'] at ho; cases ho; rw [hd'] at hd; cases hd
private theorem Inv.funs (I : Inv X pins σ H s) : s.heap.FunFrames X.base X.outer := by
  have all : ∀ (l : List Env), (∀ b ∈ frs l, b ∈ X.fs) → X.s₀.heap.FunFrames X.base l → s.heap.FunFrames X.base l := by
    intro l
    induction l with
    | nil => intro _ _; trivial
    | cons env r ih =>
      intro hs hl
      obtain ⟨hk, ⟨L, o, hf, hn, ho, hd⟩, hr⟩ := hl
      have hL : L ∈ X.fs := hs L (by unfold frs; rw [List.filterMap_cons, hf]; exact List.mem_cons_self)
      obtain ⟨sl, e⟩ := I.base.slot L o ho (I.ok.frf L hL) hL fun z => I.ok.exfs L z hL
      exact ⟨hk, ⟨L, _, hf, hn, e, hd⟩, ih (fun b hb => hs b (by unfold frs; rw [List.filterMap_cons, hf]; exact List.mem_cons_of_mem _ hb)) hr⟩
  exact all X.outer (fun _ hb => hb) I.ok.funs

private theorem Inv.stack (I : Inv X pins σ H s) : s.heap.FunFrames X.base X.stack := by
  rcases I.ok.stk with e | ⟨e, hf⟩
  · rw [e]; exact I.funs
  · rw [e]
    obtain ⟨m, hn, _⟩ := I.loc
    refine .cons (by rw [I.ok.kind]; decide) hf hn ?_ I.funs
    exact Heap.get?_none_of_le (Nat.le_trans I.ok.bsz I.ok.above)
private theorem Inv.stkSub (I : Inv X pins σ H s) : ∀ b ∈ frs X.stack, b ∈ X.env.locals :: X.fs := fun b hb => by
  rcases I.ok.stk with e | ⟨e, hf⟩
  · rw [e] at hb; exact List.mem_cons_of_mem _ hb
  · rw [e] at hb
    unfold frs at hb
    rw [List.filterMap_cons, hf] at hb
    exact hb
private theorem Inv.stkFree (I : Inv X pins σ H s) : ∀ b ∈ frs X.stack, H b = none := fun b hb => by
  rcases List.mem_cons.mp (I.stkSub b hb) with e | hb
  · rw [e]; exact I.free
  · obtain ⟨_, o, ho, _⟩ := I.ok.funs.mem hb
    exact I.base.free b o ho (I.ok.frf b hb) fun z => I.ok.exfs b z hb

private theorem Inv.step {g' : Array GenState} {t' : Nat} {d' : Drawn} {ch : List Addr} (I : Inv X pins σ H s)
    (hch : ∀ b ∈ ch, (b ∈ X.ex ∨ X.s₀.heap.objs.size ≤ b) ∧ b ≠ X.env.locals ∧ (∀ x c, X.env.cells.lookup x = some c → c ≠ b) ∧ ∀ p ∈ X.pn ++ pins, p.1 ≠ b)
    (keep : ∀ b o, b ≠ X.env.locals → b ∉ X.fs → b ∉ ch → s.heap.get? b = some o → H b = none → h'.get? b = some o)
    (slot : ∀ b o, b ≠ X.env.locals → b ∈ X.fs → b ∉ ch → s.heap.get? b = some o → H b = none → ∃ sl, h'.get? b = some { o with slots := sl }) (free : ∀ b o, b ∉ ch → s.heap.get? b = some o → H b = none → H' b = none)
    (there : ∀ b o, b ∉ ch → s.heap.get? b = some o → ∃ o', h'.get? b = some o')
    (tups : ∀ b xs, H b = some (.tup xs) → H' b = some (.tup xs)) (frzs : ∀ b o u, H b = some (.frz o u) → H' b = some (.frz o u)) (tbls : ∀ b ps, H b = some (.tbl ps) → ∃ more, H' b = some (.tbl (ps ++ more)))
    (ns : ∀ m, s.heap.Ns X.env.locals m → h'.Ns X.env.locals m) (hok : HOk X.prog X.w H' h') (hg : AllBare g') :
    Inv X pins σ H' { s with heap := h', gens := g', drawn := d', toks := t' } := by
  have neL : ∀ b o, X.s₀.heap.get? b = some o → b ≠ X.env.locals := fun b o e => Nat.ne_of_lt (Nat.lt_of_lt_of_le (Heap.lt_size e) I.ok.above)
  have neC : ∀ b o, X.s₀.heap.get? b = some o → b ∉ X.ex → b ∉ ch := fun b o e hx hb => by
    rcases (hch b hb).1 with z | z
    · exact hx z
    · exact absurd (Nat.lt_of_lt_of_le (Heap.lt_size e) z) (Nat.lt_irrefl _)
  have cellK : ∀ x c, X.env.cells.lookup x = some c → ∀ v, s.heap.IsCell c v → h'.IsCell c v := fun x c e v zq9 => by
    obtain ⟨o, ho, hd⟩ := zq9
    have nch : c ∉ ch := fun z => (hch c z).2.2.1 x c e rfl
    by_cases hc : c ∈ X.fs
    · obtain ⟨sl, q⟩ := slot c o (I.cne x c e) hc nch ho (I.freeC x c e)
      exact ⟨_, q, hd⟩
    · exact ⟨o, keep c o (I.cne x c e) hc nch ho (I.freeC x c e), hd⟩
  refine ⟨I.ok, I.os, hg, ⟨fun b o e n hb hx => ?_, fun b o e n hb hx => ?_, fun b o e n hx => ?_, fun b o e hx => ?_, fun b xs e => tups b xs (I.base.tups b xs e), fun b o xs e => frzs b o xs (I.base.frzs b o xs e), fun b ps e => ?_⟩, ?_, fun x c e => ?_, ?_, fun x c e => ?_, fun p hp => ?_, hok, I.len⟩
  · exact keep b o (neL b o e) hb (neC b o e hx) (I.base.keep b o e n hb hx) (I.base.free b o e n hx)
  · obtain ⟨sl, e1⟩ := I.base.slot b o e n hb hx
    obtain ⟨sl', e2⟩ := slot b _ (neL b o e) hb (neC b o e hx) e1 (I.base.free b o e n hx)
    exact ⟨sl', e2⟩
  · obtain ⟨o', e1⟩ := I.base.there b o e hx
    exact free b o' (neC b o e hx) e1 (I.base.free b o e n hx)
  · obtain ⟨o', e1⟩ := I.base.there b o e hx
    exact there b o' (neC b o e hx) e1
  · obtain ⟨m1, e1⟩ := I.base.tbls b ps e
    obtain ⟨m2, e2⟩ := tbls b _ e1
    exact ⟨m1 ++ m2, by rw [e2, Array.append_assoc]⟩
  · obtain ⟨m, hn, hl⟩ := I.loc
    refine ⟨m, ns m hn, fun i x v e1 e2 e3 => ?_⟩
    obtain ⟨u, r, l⟩ := hl i x v e1 e2 e3
    refine ⟨u, r, ?_⟩
    rcases l with l | ⟨k, c, e, z⟩
    · exact .inl l
    · exact .inr ⟨k, c, e, cellK x c e _ z⟩
  · obtain ⟨v, z⟩ := I.cell x c e
    exact ⟨v, cellK x c e v z⟩
  · obtain ⟨m, ⟨o, _, _, ho, _⟩, _⟩ := I.loc
    exact free _ o (fun z => (hch _ z).2.1 rfl) ho I.free
  · obtain ⟨v, o, ho, hd⟩ := I.cell x c e
    exact free c o (fun z => (hch c z).2.2.1 x c e rfl) ho (I.freeC x c e)
  · obtain ⟨e, n, ne, nf, d⟩ := I.pin p hp
    have nch : p.1 ∉ ch := fun z => (hch p.1 z).2.2.2 p hp rfl
    exact ⟨keep p.1 p.2 ne nf nch e n, free p.1 p.2 nch e n, ne, nf, d⟩
private theorem Inv.un {t' : Nat} (I : Inv X pins σ H s) (u : Un X.fs [] H H' s.heap h') (hok : HOk X.prog X.w H' h') : Inv X pins σ H' { s with heap := h', toks := t' } := by
  obtain ⟨m, ⟨o, es, ep, ho, r⟩, _⟩ := id I.loc
  obtain ⟨sl, hL⟩ := u.any ho I.free (by simp)
  exact I.step (g' := s.gens) (d' := s.drawn) (ch := []) (fun _ z => nomatch z) (fun b o _ hb _ e n => u.keep b o e n hb (by simp)) (fun b o _ hb _ e n => u.slot b o e n hb (by simp)) (fun b o _ e n => u.free b o e n (by simp)) (fun b o _ e => u.there b o e (by simp)) u.tups u.frzs u.tbls (fun m' hm => by
    obtain ⟨o', es', ep', ho', r'⟩ := hm
    rw [ho] at ho'; cases ho'
    exact ⟨_, es', ep', hL, r'⟩) hok I.bare
private theorem Inv.call {g' : Array GenState} {t' : Nat} {d' : Drawn} {ch : List Addr} (I : Inv X pins σ H s) (u : Un (frs X.stack) ch H H' s.heap h') (hok : HOk X.prog X.w H' h') (hg : AllBare g')
    (hch : ∀ b ∈ ch, (b ∈ X.ex ∨ X.s₀.heap.objs.size ≤ b) ∧ b ≠ X.env.locals ∧ (∀ x c, X.env.cells.lookup x = some c → c ≠ b) ∧ ∀ p ∈ X.pn ++ pins, p.1 ≠ b) :
    Inv X pins σ H' { s with heap := h', gens := g', drawn := d', toks := t' } := by
  obtain ⟨m, ⟨o, es, ep, ho, r⟩, _⟩ := id I.loc
  obtain ⟨sl, hL⟩ := u.any ho I.free fun z => (hch _ z).2.1 rfl
  exact I.step (ch := ch) hch (fun b o hL hb hc e n => u.keep b o e n (fun z => (List.mem_cons.mp (I.stkSub b z)).elim hL hb) hc) (fun b o _ _ hc e n => u.any e n hc) (fun b o hc e n => u.free b o e n hc) (fun b o hc e => u.there b o e hc) u.tups u.frzs u.tbls (fun m' hm => by
    obtain ⟨o', es', ep', ho', r'⟩ := hm
    rw [ho] at ho'; cases ho'
    exact ⟨_, es', ep', hL, r'⟩) hok hg
private theorem Inv.turned {t' : Nat} {it : Addr} (I : Inv X pins σ H s) (k : ∀ b o, b ≠ it → s.heap.get? b = some o → h'.get? b = some o) (hn : H it = none) (hL : it ≠ X.env.locals)
    (h1 : it ∈ X.ex ∨ X.s₀.heap.objs.size ≤ it) (h2 : ∀ x c, X.env.cells.lookup x = some c → c ≠ it) (h3 : ∀ p ∈ X.pn ++ pins, p.1 ≠ it) : Inv X pins σ H { s with heap := h', toks := t' } := by
  have nit : ∀ b u, H b = some u → b ≠ it := fun b u e z => by rw [z, hn] at e; cases e
  refine I.step (g' := s.gens) (d' := s.drawn) (ch := [it]) (fun b hb => ?_) (fun b o _ _ hc e _ => k b o (fun z => hc (by simp [z])) e) (fun b o _ _ hc e _ => ⟨o.slots, k b o (fun z => hc (by simp [z])) e⟩) (fun _ _ _ _ n => n)
    (fun b o hc e => ⟨o, k b o (fun z => hc (by simp [z])) e⟩) (fun _ _ e => e) (fun _ _ _ e => e) (fun b ps e => ⟨#[], by rw [e]; simp⟩) (fun m hm => ?_) (fun b u e => ?_) I.bare
  · have e : b = it := by simpa using hb
    subst e
    exact ⟨h1, hL, h2, h3⟩
  · obtain ⟨o, es, ep, ho, r⟩ := hm
    exact ⟨o, es, ep, k _ o (Ne.symm hL) ho, r⟩
  · refine (I.hok b u e).stay (fun c v hc q => k c v ?_ q) (fun _ q => q) fun _ _ q => q
    rcases hc with z | z
    · rw [z]; exact nit b u e
    · exact nit c _ z
private theorem Inv.tok (I : Inv X pins σ H s) (t : Nat) : Inv X pins σ H { s with toks := t } := I.un (h' := s.heap) (t' := t) Un.refl I.hok
private theorem Inv.kept {t' : Nat} (I : Inv X pins σ H s) (k : ∀ b u, s.heap.get? b = some u → h'.get? b = some u) : Inv X pins σ H { s with heap := h', toks := t' } := I.un (Un.kept k) (I.hok.kept k)
private theorem Inv.laid {a : Addr} {o : HO} {t' : Nat} (I : Inv X pins σ H s) (k : ∀ b u, s.heap.get? b = some u → h'.get? b = some u) (hp : s.heap.objs.size ≤ a) (new : ObjOk X.prog X.w (upd H a o) h' a o) :
    Inv X pins σ (upd H a o) { s with heap := h', toks := t' } := I.un (Un.laid k hp (I.hok.fresh hp)) (I.hok.laid k hp new)
private theorem Inv.write {x e : Addr} {o : HO} {t' : Nat} (I : Inv X pins σ H s) (mu : Mut (H x)) (he : e = x ∨ H e = some (.own x)) (k : ∀ b u, b ≠ e → s.heap.get? b = some u → h'.get? b = some u) (heo : ∃ u, h'.get? e = some u)
    (new : ObjOk X.prog X.w (upd H x o) h' x o) : Inv X pins σ (upd H x o) { s with heap := h', toks := t' } := I.un (Un.write mu he k heo) (I.hok.write mu he k heo new)
private theorem Inv.pins_of {pins' : List (Addr × Obj)} (I : Inv X pins σ H s) (h : ∀ p ∈ pins', s.heap.get? p.1 = some p.2 ∧ H p.1 = none ∧ p.1 ≠ X.env.locals ∧ p.1 ∉ X.fs ∧ ∀ v, p.2.data ≠ .cell v) : Inv X pins' σ H s :=
  ⟨I.ok, I.os, I.bare, I.base, I.loc, I.cell, I.free, I.freeC, fun p hp => (List.mem_append.mp hp).elim (fun z => I.pin p (List.mem_append_left _ z)) (h p), I.hok, I.len⟩

private theorem nodup_ix {N : List Str} (hN : N.Nodup) {i j : Nat} {x : Str} (a : N[i]? = some x) (b : N[j]? = some x) : i = j := by
  obtain ⟨h1, e1⟩ := List.getElem?_eq_some_iff.mp a
  obtain ⟨h2, e2⟩ := List.getElem?_eq_some_iff.mp b
  exact (List.getElem_inj hN).mp (e1.trans e2.symm)

private theorem store_ok2 {M : Model} {A : Around} {E : Value → Shared → Prop} {i : Nat} {x : Str} {v : V} {u : Value} {Q : Unit → Shared → Prop} (I : Inv X pins σ H s) (hN : X.N.Nodup) (hi : X.N[i]? = some x) (hx : Loc X.env.scope x) (r : RelV v u)
    (h : ∀ s', Inv X pins (σ.set i (some v)) H s' → (∃ a, Heap.SameBut a s.heap s'.heap ∧ (a = X.env.locals ∨ X.env.cells.lookup x = some a)) → Q () s') (hf : autoParam (X.fn x = true ∨ X.env.scope.names.lookup x = some .local) _root_.zt0) : wpAny M A (storeName X.env x u) Q E s := by
  obtain ⟨m, hn, hl⟩ := id I.loc
  have hcls : (X.env.scope.kind == .class || (X.env.scope.kind == .module && X.env.locals != X.env.globals)) = false := by rw [I.ok.kind]; rfl
  have hiσ : i < σ.length := by rw [I.len]; exact (List.getElem?_eq_some_iff.mp hi).1
  have cne := I.cne
  have tracked : ∀ {a : Addr} {h' : Heap}, (∃ o, s.heap.get? a = some o ∧ H a = none) → Heap.SameBut a s.heap h' → HOk X.prog X.w H h' := fun {a h'} ha hs b ob e => by
    obtain ⟨_, _, hfree⟩ := ha
    refine (I.hok b ob e).stay (fun c w' hc q => (hs.2 c ?_).trans q) (fun _ q => q) fun _ _ q => q
    rintro rfl
    rcases hc with rfl | hc
    · rw [hfree] at e; cases e
    · rw [hfree] at hc; cases hc
  rcases hx with hk | hk
  · refine wpAny_storeName_local hk hn (fun h' hn' hs => ?_) hcls
    obtain ⟨oL, _, _, hoL, _⟩ := id hn
    refine h _ ⟨I.ok, I.os, I.bare, ⟨fun b o e n hb hx => ?_, fun b o e n hb hx => ?_, I.base.free, fun b o e hx => ?_, I.base.tups, I.base.frzs, I.base.tbls⟩, ⟨_, hn', fun j y v' e1 e2 e3 => ?_⟩, fun y c e => ?_, I.free, I.freeC, fun p hp => ?_, tracked ⟨oL, hoL, I.free⟩ hs, by simpa using I.len⟩ ⟨_, hs, .inl rfl⟩
    · exact (hs.2 b (Nat.ne_of_lt (Nat.lt_of_lt_of_le (Heap.lt_size e) I.ok.above))).trans (I.base.keep b o e n hb hx)
    · obtain ⟨sl, e1⟩ := I.base.slot b o e n hb hx
      exact ⟨sl, (hs.2 b (Nat.ne_of_lt (Nat.lt_of_lt_of_le (Heap.lt_size e) I.ok.above))).trans e1⟩
    · obtain ⟨o', e1⟩ := I.base.there b o e hx
      exact ⟨o', (hs.2 b (Nat.ne_of_lt (Nat.lt_of_lt_of_le (Heap.lt_size e) I.ok.above))).trans e1⟩
    · by_cases hj : j = i
      · subst hj
        rw [hi] at e1; cases e1
        rw [List.getElem?_set_self hiσ] at e2
        cases e2
        exact ⟨u, r, .inl ⟨hk, by simp⟩⟩
      · rw [List.getElem?_set_ne (Ne.symm hj)] at e2
        obtain ⟨u', r', q⟩ := hl j y v' e1 e2 e3
        refine ⟨u', r', ?_⟩
        rcases q with ⟨k, e⟩ | ⟨k, c, e, z⟩
        · refine .inl ⟨k, ?_⟩
          have : y ≠ x := fun e => hj (nodup_ix hN e1 (e ▸ hi))
          simp [this, e]
        · exact .inr ⟨k, c, e, z.sameBut hs (cne y c e)⟩
    · obtain ⟨w', z⟩ := I.cell y c e
      exact ⟨w', z.sameBut hs (cne y c e)⟩
    · obtain ⟨e, n, ne, nf, d⟩ := I.pin p hp
      exact ⟨(hs.2 p.1 ne).trans e, n, ne, nf, d⟩
  · have hfn : X.fn x = true := by
      rcases hf with z | z
      · exact z
      · rw [z] at hk; cases hk
    obtain ⟨c, hc⟩ := I.ok.has x (.inl hk)
    obtain ⟨w', z⟩ := I.cell x c hc
    refine wpAny_storeName_cell I.ok.kind hk hc z (fun h' hc' hs => ?_)
    obtain ⟨oc, hoc, hocd⟩ := id z
    refine h { s with heap := h' } ⟨I.ok, I.os, I.bare, ⟨fun b o e n hb hx => ?_, fun b o e n hb hx => ?_, I.base.free, fun b o e hx => ?_, I.base.tups, I.base.frzs, I.base.tbls⟩, ⟨m, hn.sameBut hs (Ne.symm (cne x c hc)), fun j y v' e1 e2 e3 => ?_⟩, fun y c' e => ?_, I.free, I.freeC, fun p hp => ?_, tracked ⟨oc, hoc, I.freeC x c hc⟩ hs, by simpa using I.len⟩ ⟨c, hs, .inr hc⟩
    · exact (hs.2 b (Nat.ne_of_lt (Nat.lt_of_lt_of_le (Heap.lt_size e) (I.ok.cab x c hfn hc)))).trans (I.base.keep b o e n hb hx)
    · obtain ⟨sl, e1⟩ := I.base.slot b o e n hb hx
      exact ⟨sl, (hs.2 b (Nat.ne_of_lt (Nat.lt_of_lt_of_le (Heap.lt_size e) (I.ok.cab x c hfn hc)))).trans e1⟩
    · obtain ⟨o', e1⟩ := I.base.there b o e hx
      exact ⟨o', (hs.2 b (Nat.ne_of_lt (Nat.lt_of_lt_of_le (Heap.lt_size e) (I.ok.cab x c hfn hc)))).trans e1⟩
    · by_cases hj : j = i
      · subst hj
        rw [hi] at e1; cases e1
        rw [List.getElem?_set_self hiσ] at e2
        cases e2
        exact ⟨u, r, .inr ⟨.inl hk, c, hc, hc'⟩⟩
      · rw [List.getElem?_set_ne (Ne.symm hj)] at e2
        obtain ⟨u', r', q⟩ := hl j y v' e1 e2 e3
        refine ⟨u', r', ?_⟩
        rcases q with q | ⟨k, c', e, z'⟩
        · exact .inl q
        · refine .inr ⟨k, c', e, z'.sameBut hs ?_⟩
          rintro rfl
          exact hj (nodup_ix hN e1 (I.ok.inj _ _ _ e hc ▸ hi))
    · by_cases hcc : c' = c
      · subst hcc; exact ⟨_, hc'⟩
      · obtain ⟨w2, z2⟩ := I.cell y c' e
        exact ⟨w2, z2.sameBut hs hcc⟩
    · obtain ⟨e, n, ne, nf, d⟩ := I.pin p hp
      refine ⟨(hs.2 p.1 ?_).trans e, n, ne, nf, d⟩
      intro q
      rw [q, hoc] at e
      have q' : oc = p.2 := Option.some.inj e
      exact d w' (by rw [← q']; exact hocd)
private theorem store_ok {M : Model} {A : Around} {E : Value → Shared → Prop} {i : Nat} {x : Str} {v : V} {u : Value} {Q : Unit → Shared → Prop} (I : Inv X pins σ H s) (hN : X.N.Nodup) (hi : X.N[i]? = some x) (hx : Loc X.env.scope x) (r : RelV v u)
    (h : ∀ s', Inv X pins (σ.set i (some v)) H s' → Q () s') (hf : autoParam (X.fn x = true ∨ X.env.scope.names.lookup x = some .local) _root_.zt0) : wpAny M A (storeName X.env x u) Q E s :=
  store_ok2 I hN hi hx r (fun s' I' _ => h s' I') hf
private theorem Inv.call' {s' : Shared} {ch : List Addr} (I : Inv X pins σ H s) (ho : s'.os = s.os) (u : Un (frs X.stack) ch H H' s.heap s'.heap) (hok : HOk X.prog X.w H' s'.heap) (hg : AllBare s'.gens)
    (hch : ∀ b ∈ ch, (b ∈ X.ex ∨ X.s₀.heap.objs.size ≤ b) ∧ b ≠ X.env.locals ∧ (∀ x c, X.env.cells.lookup x = some c → c ≠ b) ∧ ∀ p ∈ X.pn ++ pins, p.1 ≠ b) : Inv X pins σ H' s' := by
  obtain ⟨h', g', d', t', o'⟩ := s'
  have e : o' = s.os := ho
  subst e
  exact I.call (g' := g') (t' := t') (d' := d') u hok hg hch
end

noncomputable abbrev XK := Value → Option Addr → Hp → Prop
noncomputable abbrev St := List (Option V)
noncomputable abbrev VK := V → Hp → Prop
noncomputable abbrev TE := St → Hp → VK → Prop
noncomputable abbrev TT := St → Hp → (Bool → Hp → Prop) → Prop
noncomputable abbrev TA := St → Hp → (List V → Hp → Prop) → Prop
structure Ends where
  nx : St → Hp → Prop
  rt : VK
  bk : St → Hp → Prop := fun _ _ => False
  ct : St → Hp → Prop := fun _ _ => False
noncomputable abbrev TS := Ends → St → Hp → Prop

noncomputable def EP (X : Cx) (pins : List (Addr × Obj)) (σ : St) (Q : VK) (u : Value) (s' : Shared) : Prop := ∃ v H', Inv X pins σ H' s' ∧ RelV v u ∧ Q v H'
noncomputable def TP (X : Cx) (pins : List (Addr × Obj)) (σ : St) (Q : Bool → Hp → Prop) (b : Bool) (s' : Shared) : Prop := ∃ H', Inv X pins σ H' s' ∧ Q b H'
noncomputable def AP (X : Cx) (pins : List (Addr × Obj)) (σ : St) (Q : List V → Hp → Prop) (us : List Value) (s' : Shared) : Prop := ∃ vs H', Inv X pins σ H' s' ∧ Vals vs us ∧ Q vs H'
noncomputable def SP (X : Cx) (pins : List (Addr × Obj)) (D : Ends) (f : Flow) (s' : Shared) : Prop :=
  match f with
  | .next => ∃ σ' H', Inv X pins σ' H' s' ∧ D.nx σ' H'
  | .brk => ∃ σ' H', Inv X pins σ' H' s' ∧ D.bk σ' H'
  | .cont => ∃ σ' H', Inv X pins σ' H' s' ∧ D.ct σ' H'
  | .ret u => ∃ v σ' H', Inv X pins σ' H' s' ∧ RelV v u ∧ D.rt v H'

noncomputable def PE (X : Cx) (e : Expr) (t : TE) : Prop :=
  ∀ (pins : List (Addr × Obj)) (s : Shared) (σ : St) (H : Hp) (Q : VK), Inv X pins σ H s → t σ H Q → wpAny (model X.prog X.w) X.A (eval e X.env) (EP X pins σ Q) X.xe s
noncomputable def PT (X : Cx) (e : Expr) (t : TT) : Prop :=
  ∀ (pins : List (Addr × Obj)) (s : Shared) (σ : St) (H : Hp) (Q : Bool → Hp → Prop), Inv X pins σ H s → t σ H Q → wpAny (model X.prog X.w) X.A (isTrue e X.env (eval e X.env)) (TP X pins σ Q) X.xe s
noncomputable def PW (X : Cx) (e : Expr) (t : TT) : Prop :=
  ∀ (whole : Sem Value) (pins : List (Addr × Obj)) (s : Shared) (σ : St) (H : Hp) (Q : Bool → Hp → Prop), Inv X pins σ H s → t σ H Q → wpAny (model X.prog X.w) X.A (isTrue e X.env whole) (TP X pins σ Q) X.xe s
private theorem PW.pt {X : Cx} {e : Expr} {t : TT} (h : PW X e t) : PT X e t := h _
noncomputable def PA (X : Cx) (es : List Expr) (t : TA) : Prop :=
  ∀ (pos : Pos) (pins : List (Addr × Obj)) (s : Shared) (σ : St) (H : Hp) (Q : List V → Hp → Prop), Inv X pins σ H s → t σ H Q → wpAny (model X.prog X.w) X.A (spliced (backTo pos (starEach es X.env))) (AP X pins σ Q) X.xe s
noncomputable def PS (X : Cx) (st : Stmt) (t : TS) : Prop :=
  ∀ (pins : List (Addr × Obj)) (s : Shared) (σ : St) (H : Hp) (D : Ends), Inv X pins σ H s → t D σ H → wpAny (model X.prog X.w) X.A (exec st X.env) (SP X pins D) X.xe s
noncomputable def PSs (X : Cx) (st : List Stmt) (t : TS) : Prop :=
  ∀ (pins : List (Addr × Obj)) (s : Shared) (σ : St) (H : Hp) (D : Ends), Inv X pins σ H s → t D σ H → wpAny (model X.prog X.w) X.A (execs st X.env) (SP X pins D) X.xe s
private theorem thn {α : Type} {t : Sem α} {Q Q' : α → Shared → Prop} {M : Model} {A : Around} {E : Value → Shared → Prop} {s : Shared} (h : wpAny M A t Q E s) (hQ : ∀ a s, Q a s → Q' a s) : wpAny M A t Q' E s := wpAny_mono h hQ fun _ _ x => x
end L2

namespace L2
open PySem PySem.Spec PyProof.Rows
section
variable {X : Cx}

noncomputable def tVar (i : Nat) : TE := fun σ H Q => ∃ v, σ[i]? = some (some v) ∧ Q v H
noncomputable def tC (v : V) : TE := fun _ H Q => Q v H
private theorem pe_var {i : Nat} {x : Str} {pos : Pos} (hN : X.N[i]? = some x) (hv : Vis X.env.scope x) (hd : autoParam ((x == ("__debug__" : Str)) = false) _root_.zt1) (hcd : autoParam ((x == ("__classdict__" : Str)) = false) _root_.zt1) : PE X (.Name x pos) (tVar i) := by
  intro pins s σ H Q I h
  obtain ⟨v, e, h⟩ := h
  obtain ⟨m, hn, hl⟩ := I.loc
  obtain ⟨u, r, l⟩ := hl i x v hN e hv
  have fin : EP X pins σ Q u s := ⟨v, H, I, r, h⟩
  rcases l with ⟨hk, hm⟩ | ⟨hk, c, hc, hcell⟩
  · exact wpAny_Name (wpAny_loadName_local I.ok.kind hk hn hm fin) hd
  · rcases hk with hk | hk
    · exact wpAny_Name (wpAny_loadName_cell I.ok.kind hk hc hcell fin) hd
    · exact wpAny_Name (wpAny_loadName_free I.ok.kind hk hc hcell fin hcd) hd
private theorem pe_int {i j pos} : PE X (.Constant (.int i) j pos) (tC (.int i)) := fun _ _ _ H _ I h => wpAny_Constant_int ⟨.int i, H, I.tok _, ⟨_, rfl⟩, h⟩
private theorem pe_bl {b j pos} : PE X (.Constant (.bool b) j pos) (tC (.bl b)) := fun _ _ _ H _ I h => Constant_bool ⟨.bl b, H, I, rfl, h⟩
private theorem pe_non {j pos} : PE X (.Constant .none j pos) (tC .non) := fun _ _ _ H _ I h => Constant_none ⟨.non, H, I, rfl, h⟩
private theorem pe_str {x j pos} : PE X (.Constant (.str x) j pos) (tC (.str x)) := fun _ _ _ H _ I h => Calls.Constant_str ⟨.str x, H, I.tok _, ⟨_, rfl⟩, h⟩

noncomputable def Gl (X : Cx) (x : Str) : Prop := X.env.kindOf x = some .globalImplicit
private theorem ld_glob {E : Value → Shared → Prop} {pins : List (Addr × Obj)} {s : Shared} {σ : St} {H : Hp} {x : Str} {u : Value} {pos : Pos} {Q : Value → Shared → Prop} (I : Inv X pins σ H s) (hg : Gl X x) (hm : X.mg x = some u) (h : Q u s)
    (hd : autoParam ((x == ("__debug__" : Str)) = false) _root_.zt1) : wpAny (model X.prog X.w) X.A (eval (.Name x pos) X.env) Q E s :=
  Calls.Name_function_global I.ok.kind hg (Calls.loadGlobal_global (by rw [I.ok.glob]; exact I.mod.glob.keeps I.bk) hm h) hd
private theorem ld_blt {E : Value → Shared → Prop} {pins : List (Addr × Obj)} {s : Shared} {σ : St} {H : Hp} {x : Str} {u : Value} {pos : Pos} {Q : Value → Shared → Prop} (I : Inv X pins σ H s) (hg : Gl X x) (hm : X.mg x = none) (hv : bootBuiltins x = some u) (h : Q u s)
    (hn : autoParam (x ≠ "__name__") _root_.zt1) (hd : autoParam ((x == ("__debug__" : Str)) = false) _root_.zt1) : wpAny (model X.prog X.w) X.A (eval (.Name x pos) X.env) Q E s := by
  obtain ⟨mb, h1, h2⟩ := I.mod.blt
  exact Calls.Name_function_global I.ok.kind hg (Calls.loadGlobal_builtin (by rw [I.ok.glob]; exact I.mod.glob.keeps I.bk) hm (by rw [I.ok.blt]; exact h1.keeps I.bk) ((h2 x hn).trans hv) h) hd
private theorem pe_glob {x : Str} {v : V} {u : Value} {pos : Pos} (hg : Gl X x) (hm : X.mg x = some u) (r : RelV v u) (hd : autoParam ((x == ("__debug__" : Str)) = false) _root_.zt1) : PE X (.Name x pos) (tC v) :=
  fun _ _ _ H _ I h => ld_glob I hg hm ⟨v, H, I, r, h⟩ hd
private theorem pe_bltn {x : Str} {v : V} {u : Value} {pos : Pos} (hg : Gl X x) (hm : X.mg x = none) (hv : bootBuiltins x = some u) (r : RelV v u) (hn : autoParam (x ≠ "__name__") _root_.zt1) (hd : autoParam ((x == ("__debug__" : Str)) = false) _root_.zt1) : PE X (.Name x pos) (tC v) :=
  fun _ _ _ H _ I h => ld_blt I hg hm hv ⟨v, H, I, r, h⟩ hn hd

variable {a b : Expr} {ta tb : TE} {pos : Pos}
variable {tA tB' : TT} {rest : List Expr}
noncomputable def tOr (t u : TT) : TT := fun σ H Q => t σ H fun c H1 => if c = true then Q true H1 else u σ H1 Q
noncomputable def tNot (t : TT) : TT := fun σ H Q => t σ H fun c H1 => Q (!c) H1
private theorem pw_or1 (ha : PT X a tA) : PW X (.BoolOp .Or [a] pos) tA := by
  intro wh pins s σ H Q I h
  refine isTrue_or (thn (ha pins s σ H Q I h) fun c s1 e => ?_)
  cases c with
  | false => exact isTrue_or_nil e
  | true => exact e
private theorem pw_or (ha : PT X a tA) (hb : PW X (.BoolOp .Or (b :: rest) pos) tB') : PW X (.BoolOp .Or (a :: b :: rest) pos) (tOr tA tB') := by
  intro wh pins s σ H Q I h
  refine isTrue_or (thn (ha pins s σ H _ I h) fun c s1 zq9 => ?_)
  obtain ⟨H1, I1, q1⟩ := zq9
  cases c with
  | true => exact ⟨H1, I1, q1⟩
  | false => exact hb wh pins s1 σ H1 Q I1 q1
private theorem pt_not (ha : PT X a tA) : PT X (.UnaryOp .Not a pos) (tNot tA) := by
  intro pins s σ H Q I h
  exact isTrue_not (ha pins s σ H (fun c H1 => Q (!c) H1) I h)
end
end L2

namespace L2
open PySem PySem.Spec PyProof.Rows

noncomputable def SqL (K : PySem.W.Frag) (H : Hp) (a : Addr) (xs : List V) : Prop :=
  Rd H a (.lst xs) ∨
    ∃ (o : Obj) (its : Array Value) (n : Nat), K.lookup a = some o ∧ o.cls = .type "list" ∧ o.dict = none ∧ o.data = .seq its n ∧ its.size ≤ sizeLine ∧ Vals xs its.toList
noncomputable def SqT (K : PySem.W.Frag) (H : Hp) (a : Addr) (xs : List V) : Prop :=
  Rd H a (.tup xs) ∨
    ∃ (o : Obj) (its : Array Value) (n : Nat), K.lookup a = some o ∧ o.cls = .type "tuple" ∧ o.data = .seq its n ∧ its.size ≤ sizeLine ∧ Vals xs its.toList
noncomputable def absV : Value → Option V
  | .none => some .non
  | .bool b => some (.bl b)
  | .int i _ => some (.int i)
  | .str x _ => some (.str x)
  | .bytes b _ => some (.byt b)
  | .float b _ => some (.flt b)
  | .ref a => some (.ref a)
  | .type n => some (.ty n)
  | _ => none
private theorem RelV.abs {x : V} {u : Value} (r : RelV x u) : absV u = some x := by
  cases x with
  | non => cases r; rfl
  | bl _ => cases r; rfl
  | int _ => obtain ⟨t, rfl⟩ := r; rfl
  | str _ => obtain ⟨t, rfl⟩ := r; rfl
  | byt _ => obtain ⟨t, rfl⟩ := r; rfl
  | flt _ => obtain ⟨t, rfl⟩ := r; rfl
  | ref _ => cases r; rfl
  | ty _ => cases r; rfl
private theorem RelV.inj {x y : V} {u : Value} (r : RelV x u) (q : RelV y u) : x = y := Option.some.inj (r.abs.symm.trans q.abs)
private theorem Vals.inj {xs ys : List V} {us : List Value} (h : Vals xs us) (k : Vals ys us) : xs = ys := by
  induction h generalizing ys with
  | nil => cases k; rfl
  | cons r t ih =>
    cases k with
    | cons r' t' => rw [r.inj r', ih t']
section
variable {X : Cx} {pins : List (Addr × Obj)} {σ : St} {H : Hp} {s : Shared} {a : Addr} {xs ys : List V}
private theorem SqL.of {K : PySem.W.Frag} (h : H a = some (.lst xs)) : SqL K H a xs := .inl (.inl h)
private theorem SqT.of {K : PySem.W.Frag} (h : H a = some (.tup xs)) : SqT K H a xs := .inl (.inl h)
private theorem Inv.list (I : Inv X pins σ H s) (h : SqL X.K H a xs) : ∃ its : List Value, Vals xs its ∧ PlainL s.heap a its.toArray ∧ xs.length ≤ sizeLine := by
  rcases h with h | ⟨o, its, n, hk, hc, hd, hs, hz, r⟩
  · obtain ⟨z, its, n, r, e⟩ := h.ok I.hok
    exact ⟨its, r, ⟨_, n, e, rfl, rfl, rfl⟩, z⟩
  · refine ⟨its.toList, r, ⟨o, n, I.kIn a o hk, hc, hd, by simpa using hs⟩, ?_⟩
    have e := r.length
    simp only [Array.length_toList] at e
    omega
private theorem Inv.tuple (I : Inv X pins σ H s) (h : SqT X.K H a xs) : ∃ its : List Value, Vals xs its ∧ IsTup s.heap a its.toArray ∧ xs.length ≤ sizeLine := by
  rcases h with h | ⟨o, its, n, hk, hc, hs, hz, r⟩
  · obtain ⟨z, its, r, p⟩ := h.ok I.hok
    exact ⟨its, r, p, z⟩
  · refine ⟨its.toList, r, ⟨o, I.kIn a o hk, hc, n, by simpa using hs⟩, ?_⟩
    have e := r.length
    simp only [Array.length_toList] at e
    omega
private theorem Inv.list_inj (I : Inv X pins σ H s) (h : SqL X.K H a xs) (h' : SqL X.K H a ys) : xs = ys := by
  obtain ⟨its, r, ⟨o, n, e, _, _, d⟩, _⟩ := I.list h
  obtain ⟨its', r', ⟨o', n', e', _, _, d'⟩, _⟩ := I.list h'
  rw [e] at e'; cases e'
  rw [d] at d'
  injection d' with d1 _
  have : its = its' := by simpa using congrArg Array.toList d1
  subst this
  exact r.inj r'
private theorem Inv.tuple_inj (I : Inv X pins σ H s) (h : SqT X.K H a xs) (h' : SqT X.K H a ys) : xs = ys := by
  obtain ⟨its, r, ⟨o, e, _, n, d⟩, _⟩ := I.tuple h
  obtain ⟨its', r', ⟨o', e', _, n', d'⟩, _⟩ := I.tuple h'
  rw [e] at e'; cases e'
  rw [d] at d'
  injection d' with d1 _
  have : its = its' := by simpa using congrArg Array.toList d1
  subst this
  exact r.inj r'
end

noncomputable abbrev Cx.wish (X : Cx) (E : Value → Shared → Prop) : Cx := { X with xe := E }
noncomputable abbrev Cx.nox (X : Cx) : Cx := X.wish fun _ _ => False
private theorem Cx.Ok.wish {X : Cx} (ok : X.Ok) (E : Value → Shared → Prop) : (X.wish E).Ok :=
  ⟨ok.mod, ok.kind, ok.glob, ok.blt, ok.above, ok.inj, ok.has, ok.cab, ok.hd, ok.frames, ok.stk, ok.exf, ok.bs, ok.bsz, ok.noex, ok.exfs, ok.funs, ok.frf⟩
private theorem Cx.Ok.unwish {X : Cx} {E : Value → Shared → Prop} (ok : (X.wish E).Ok) : X.Ok :=
  ⟨ok.mod, ok.kind, ok.glob, ok.blt, ok.above, ok.inj, ok.has, ok.cab, ok.hd, ok.frames, ok.stk, ok.exf, ok.bs, ok.bsz, ok.noex, ok.exfs, ok.funs, ok.frf⟩
section
variable {X : Cx} {pins : List (Addr × Obj)} {σ : St} {H : Hp} {s : Shared} {E : Value → Shared → Prop}
private theorem Inv.wish (I : Inv X pins σ H s) (E : Value → Shared → Prop) : Inv (X.wish E) pins σ H s := ⟨I.ok.wish E, I.os, I.bare, I.base, I.loc, I.cell, I.free, I.freeC, I.pin, I.hok, I.len⟩
private theorem Inv.unwish (I : Inv (X.wish E) pins σ H s) : Inv X pins σ H s := ⟨I.ok.unwish, I.os, I.bare, I.base, I.loc, I.cell, I.free, I.freeC, I.pin, I.hok, I.len⟩
private theorem SP.unwish {D : Ends} {f : Flow} {s' : Shared} (h : SP (X.wish E) pins D f s') : SP X pins D f s' := by
  cases f with
  | next => obtain ⟨σ', H', I, q⟩ := h; exact ⟨σ', H', I.unwish, q⟩
  | brk => obtain ⟨σ', H', I, q⟩ := h; exact ⟨σ', H', I.unwish, q⟩
  | cont => obtain ⟨σ', H', I, q⟩ := h; exact ⟨σ', H', I.unwish, q⟩
  | ret u => obtain ⟨v, σ', H', I, r, q⟩ := h; exact ⟨v, σ', H', I.unwish, r, q⟩
private theorem PSs.nox {st : List Stmt} {t : TS} (h : PSs X.nox st t) : PSs X st t := fun pins s σ H D I hw =>
  wpAny_mono (h pins s σ H D (I.wish _) hw) (fun _ _ q => q.unwish) fun _ _ z => False.elim z
end

section
variable {X : Cx} {st : Stmt} {rest : List Stmt} {t u : TS} {e : Expr} {te : TE} {pos : Pos}
noncomputable def tNext : TS := fun D σ H => D.nx σ H
noncomputable def tSeq (t u : TS) : TS := fun D σ H => t { D with nx := u D } σ H
private theorem pss_nil : PSs X [] tNext := fun _ _ σ H _ I h => wpAny_execs_nil ⟨σ, H, I, h⟩
private theorem pss_cons (h1 : PS X st t) (h2 : PSs X rest u) : PSs X (st :: rest) (tSeq t u) := by
  intro pins s σ H D I h
  refine wpAny_execs_cons (thn (h1 pins s σ H { D with nx := u D } I h) fun f s1 q => ?_)
  cases f with
  | next =>
    obtain ⟨σ', H', I', q⟩ := q
    exact h2 pins s1 σ' H' D I' q
  | ret v => exact q
  | brk => exact q
  | cont => exact q
private theorem pss_one (h1 : PS X st t) : PSs X [st] t := by
  intro pins s σ H D I h
  refine wpAny_execs_cons (thn (h1 pins s σ H D I h) fun f s1 q => ?_)
  cases f with
  | next => exact wpAny_execs_nil q
  | ret v => exact q
  | brk => exact q
  | cont => exact q
private theorem Inv.quiet {pins : List (Addr × Obj)} {σ : St} {H : Hp} {s : Shared} (I : Inv X pins σ H s) : interactive X.env = false := by simp [interactive, I.ok.kind]
noncomputable def tDrop (te : TE) : TS := fun D σ H => te σ H fun _ H1 => D.nx σ H1
private theorem ps_expr (he : PE X e te) (hs : autoParam (swapsWith e none pos.line X.env = pure false) _root_.zt2) : PS X (.Expr e pos) (tDrop te) := by
  intro pins s σ H D I h
  exact wpAny_Expr_any (thn (he pins s σ H _ I h) fun v s1 ⟨x, H1, I1, r1, q1⟩ => ⟨σ, H1, I1, q1⟩) I.quiet hs
noncomputable def tRet (te : TE) : TS := fun D σ H => te σ H D.rt
private theorem ps_ret (he : PE X e te) : PS X (.Return (some e) pos) (tRet te) := by
  intro pins s σ H D I h
  exact wpAny_Return_some (thn (he pins s σ H _ I h) fun v s1 ⟨x, H1, I1, r1, q1⟩ => ⟨x, σ, H1, I1, r1, q1⟩)
noncomputable def tIfS (c : TT) (t u : TS) : TS := fun D σ H => c σ H fun b H1 => if b = true then t D σ H1 else u D σ H1
private theorem ps_if {c : Expr} {a b : List Stmt} {tc : TT} (hc : PT X c tc) (ha : PSs X a t) (hb : PSs X b u) : PS X (.If c a b pos) (tIfS tc t u) := by
  intro pins s σ H D I h
  refine wpAny_If (thn (hc pins s σ H _ I h) fun d s1 zq9 => ?_)
  obtain ⟨H1, I1, q1⟩ := zq9
  cases d with
  | true => exact ha pins s1 σ H1 D I1 q1
  | false => exact hb pins s1 σ H1 D I1 q1
end

noncomputable abbrev TG := V → St → Hp → (St → Hp → Prop) → Prop
noncomputable abbrev TGs := List V → St → Hp → (St → Hp → Prop) → Prop
noncomputable def PG (X : Cx) (target : Expr) (t : TG) : Prop :=
  ∀ (pins : List (Addr × Obj)) (s : Shared) (σ : St) (H : Hp) (v : V) (u : Value) (Q : St → Hp → Prop), Inv X pins σ H s → RelV v u → t v σ H Q →
    wpAny (model X.prog X.w) X.A (assign target X.env u) (fun _ s' => ∃ σ' H', Inv X pins σ' H' s' ∧ Q σ' H') X.xe s
noncomputable def PGs (X : Cx) (ts : List Expr) (t : TGs) : Prop :=
  ∀ (pins : List (Addr × Obj)) (s : Shared) (σ : St) (H : Hp) (vs : List V) (us : List Value) (Q : St → Hp → Prop), Inv X pins σ H s → Vals vs us → t vs σ H Q →
    wpAny (model X.prog X.w) X.A (assignInOrder ((assignEach ts X.env).map (·.2)) us) (fun _ s' => ∃ σ' H', Inv X pins σ' H' s' ∧ Q σ' H') X.xe s
section
variable {X : Cx} {pos : Pos}
noncomputable def gName (i : Nat) : TG := fun v σ H Q => Q (σ.set i (some v)) H
private theorem pg_name {i : Nat} {x : Str} (hN : X.N.Nodup) (hi : X.N[i]? = some x) (hx : Loc X.env.scope x) (hf : autoParam (X.fn x = true ∨ X.env.scope.names.lookup x = some .local) _root_.zt0) : PG X (.Name x pos) (gName i) := by
  intro pins s σ H v u Q I r h
  exact wpAny_assign_Name (store_ok I hN hi hx r (fun s' I' => ⟨_, H, I', h⟩) hf)
noncomputable def gNil : TGs := fun vs σ H Q => vs = [] ∧ Q σ H
noncomputable def gCons (t : TG) (u : TGs) : TGs := fun vs σ H Q => ∃ v r, vs = v :: r ∧ t v σ H fun σ' H' => u r σ' H' Q
private theorem pgs_nil : PGs X [] gNil := by
  intro pins s σ H vs us Q I r h
  obtain ⟨e, h⟩ := h
  subst e
  cases r
  exact assignInOrder_nil ⟨σ, H, I, h⟩
private theorem pgs_cons {e : Expr} {es : List Expr} {t : TG} {u : TGs} (h1 : PG X e t) (h2 : PGs X es u)
    (hs : autoParam ((assignEach (e :: es) X.env).map (·.2) = assign e X.env :: (assignEach es X.env).map (·.2)) _root_.zt2) : PGs X (e :: es) (gCons t u) := by
  intro pins s σ H vs us Q I r h
  obtain ⟨v, vr, e1, h⟩ := h
  subst e1
  cases r with
  | cons r rr =>
    rw [hs]
    refine assignInOrder_cons (thn (h1 pins s σ H _ _ _ I r h) fun _ s1 zq9 => ?_)
    obtain ⟨σ1, H1, I1, q1⟩ := zq9
    exact h2 pins s1 σ1 H1 _ _ Q I1 rr q1
noncomputable def gTup (K : PySem.W.Frag) (n : Nat) (t : TGs) : TG := fun v σ H Q => ∃ a xs, v = .ref a ∧ SqT K H a xs ∧ xs.length = n ∧ t xs σ H Q
private theorem pg_tup {es : List Expr} {k : Nat} {t : TGs} {n : Nat} (hc : X.calm = true) (h : PGs X es t)
    (hn : autoParam ((assignEach es X.env).length = n) _root_.zt2) (hst : autoParam ((assignEach es X.env).findIdx? (·.1) = none) _root_.zt2) : PG X (.Tuple es k pos) (gTup X.K n t) := by
  intro pins s σ H v u Q I r hw
  obtain ⟨a, xs, e1, hq, hl, hw⟩ := hw
  subst e1
  cases r
  obtain ⟨its, rv, ht, hz⟩ := I.tuple hq
  refine assign_Tuple_tuple (I.ok.hd hc) ht (by simp [hn, ← hl, rv.length]) hst fun h' hx => ?_
  have I1 : Inv X pins σ H { s with heap := h' } := I.kept (t' := s.toks) fun b o e => hx b o (Nat.ne_of_lt (Heap.lt_size e)) e
  exact h pins _ σ H xs _ Q I1 (by simpa using rv) hw
noncomputable def tAsg (te : TE) (g : TG) : TS := fun D σ H => te σ H fun x H1 => g x σ H1 D.nx
private theorem ps_asg {tg e : Expr} {te : TE} {g : TG} (he : PE X e te) (hg : PG X tg g) (hs : autoParam (swapsWithSole [tg] e pos.line X.env = pure false) _root_.zt2) (hw : autoParam (swappedStores [tg] e X.env = pure none) _root_.zt2)
    (h1 : autoParam ((assignEach [tg] X.env).map (·.2) = [assign tg X.env]) _root_.zt2) : PS X (.Assign [tg] e pos) (tAsg te g) := by
  intro pins s σ H D I h
  refine wpAny_Assign_stores (thn (he pins s σ H _ I h) fun v s1 zq9 => ?_) hs hw
  obtain ⟨x, H1, I1, r1, q1⟩ := zq9
  rw [h1]
  exact thn (hg pins s1 σ H1 x v _ I1 r1 q1) fun _ s2 q => q
private theorem ps_set {i : Nat} {x : Str} {e : Expr} {te : TE} {pos' : Pos} (hN : X.N.Nodup) (hi : X.N[i]? = some x) (hx : Loc X.env.scope x) (he : PE X e te) (hs : autoParam (swapsWith e (some (.Name x pos')) pos.line X.env = pure false) _root_.zt2) (hf : autoParam (X.fn x = true ∨ X.env.scope.names.lookup x = some .local) _root_.zt0) :
    PS X (.Assign [.Name x pos'] e pos) (tAsg te (gName i)) := by
  intro pins s σ H D I h
  refine wpAny_Assign_Name (thn (he pins s σ H _ I h) fun v s1 zq9 => ?_) hs
  obtain ⟨y, H1, I1, r1, q1⟩ := zq9
  exact store_ok I1 hN hi hx r1 (fun s2 I2 => ⟨_, H1, I2, q1⟩) hf
noncomputable def tPar (i j : Nat) (ta : TA) : TS := fun D σ H => ta σ H fun vs H1 => ∃ v w, vs = [v, w] ∧ D.nx ((σ.set i (some v)).set j (some w)) H1
private theorem ps_par {i j : Nat} {x y : Str} {a b : Expr} {ta : TA} {px py pt : Pos} {kt k2 pt2} (hc : X.calm = true) (hN : X.N.Nodup) (hi : X.N[i]? = some x) (hj : X.N[j]? = some y) (hij : i ≠ j)
    (hx : X.env.scope.names.lookup x = some .local) (hy : X.env.scope.names.lookup y = some .local) (ha : PA X [a, b] ta)
    (hw : swappedStores [.Tuple [.Name x px, .Name y py] kt pt] (.Tuple [a, b] k2 pt2) X.env = pure (some [x, y]))
    (hs : autoParam (swapsWithSole [.Tuple [.Name x px, .Name y py] kt pt] (.Tuple [a, b] k2 pt2) pos.line X.env = pure false) _root_.zt2) :
    PS X (.Assign [.Tuple [.Name x px, .Name y py] kt pt] (.Tuple [a, b] k2 pt2) pos) (tPar i j ta) := by
  intro pins s σ H D I h
  rw [exec_Assign_arm]
  refine wpAny_bind (wpAny_standAt ?_)
  rw [hs]
  refine wpAny_bind (wpAny_pure ?_)
  rw [if_neg (by decide)]
  refine wpAny_bind (Tuple_ (thn (ha _ pins s σ H _ I h) fun us s1 zq9 => ?_))
  obtain ⟨vs, H1, I1, r1, q1⟩ := zq9
  obtain ⟨v, w, e1, q1⟩ := q1
  subst e1
  obtain ⟨u1, u2, rfl, rv, rw'⟩ : ∃ u1 u2, us = [u1, u2] ∧ RelV v u1 ∧ RelV w u2 := by
    cases r1 with
    | cons p q =>
      cases q with
      | cons p' q' =>
        cases q'
        exact ⟨_, _, rfl, p, p'⟩
  refine wpAny_newObj_type ?_ (by show 2 ≤ sizeLine; decide)
  have I2 : Inv X pins σ H1 { s1 with heap := s1.heap.push { cls := .type "tuple", data := .seq [u1, u2].toArray } } := I1.kept (t' := s1.toks) fun b o e => Heap.get?_push_of_some _ e
  rw [hw]
  refine wpAny_bind (wpAny_pure ?_)
  show wpAny (model X.prog X.w) X.A (do rule "assign.swapped-stores"; let items ← unpackItems (.ref s1.heap.objs.size) 2 none; assignInOrder [fun v => bindName X.env y v, fun v => bindName X.env x v] items.reverse; pure Flow.next) _ _ _
  refine wpAny_bind (wpAny_rule (wpAny_bind (unpackItems_tuple (items := #[u1, u2]) (I.ok.hd hc) (IsTup.new s1.heap _) fun h' hx' => ?_)))
  have I3 := I2.kept (h' := h') (t' := s1.toks) fun b o e => hx' b o (Nat.ne_of_lt (Heap.lt_size e)) e
  show wpAny _ _ (assignInOrder [fun v => bindName X.env y v, fun v => bindName X.env x v] [u2, u1] >>= fun _ => pure Flow.next) _ _ _
  refine wpAny_bind (assignInOrder_cons (wpAny_bindName (store_ok I3 hN hj (.inl hy) rw' (fun s2 I4 => ?_) (.inr hy))))
  refine assignInOrder_cons (wpAny_bindName (store_ok I4 hN hi (.inl hx) rv (fun s3 I5 => assignInOrder_nil (wpAny_pure ?_)) (.inr hx)))
  rw [List.set_comm _ _ (Ne.symm hij)] at I5
  exact ⟨_, H1, I5, q1⟩
end

section
variable {X : Cx} {pos : Pos}
noncomputable def tWhile (c : TT) (tb : TS) : TS := fun D σ H => ∃ W : Nat → St → Hp → Prop, (∃ m, W m σ H) ∧ ∀ m σ H, W m σ H →
  c σ H fun b H1 => if b = true then ∃ N : St → Hp → Prop, (∀ σ' H', N σ' H' → ∃ m', m' < m ∧ W m' σ' H') ∧ tb { D with nx := N, ct := N, bk := D.nx } σ H1 else D.nx σ H1
private theorem ps_while {c : Expr} {body : List Stmt} {tc : TT} {tb : TS} (hp : PassesOwn (model X.prog X.w) X.A X.env X.xe) (hc : PT X c tc) (hb : PSs X body tb) : PS X (.While c body [] pos) (tWhile tc tb) := by
  intro pins s σ H D I h
  obtain ⟨W, ⟨m0, w0⟩, turn⟩ := h
  refine wpAny_While (codeAny_whileLoop (fun n s' => ∃ σ' H', Inv X pins σ' H' s' ∧ W n σ' H') ?_ m0 ⟨σ, H, I, w0⟩)
  rintro n s1 ⟨σ1, H1, I1, w1⟩
  refine wpAny_passesOwn hp (thn (hc pins s1 σ1 H1 _ I1 (turn n σ1 H1 w1)) fun b s2 zq9 => ?_)
  obtain ⟨H2, I2, q2⟩ := zq9
  cases b with
  | true =>
    obtain ⟨N, hN, q2⟩ := q2
    rw [if_pos rfl]
    refine wpAny_passesOwn hp (thn (hb pins s2 σ1 H2 _ I2 q2) fun f s3 q3 => ?_)
    cases f with
    | next =>
      obtain ⟨σ3, H3, I3, n3⟩ := q3
      obtain ⟨m', hm, w3⟩ := hN σ3 H3 n3
      exact ⟨m', hm, σ3, H3, I3, w3⟩
    | cont =>
      obtain ⟨σ3, H3, I3, n3⟩ := q3
      obtain ⟨m', hm, w3⟩ := hN σ3 H3 n3
      exact ⟨m', hm, σ3, H3, I3, w3⟩
    | brk => exact q3
    | ret v => exact q3
  | false =>
    rw [if_neg Bool.false_ne_true]
    exact wpAny_execs_nil ⟨σ1, H2, I2, q2⟩
end

structure It where
  go : Nat → Hp → Prop
  yld : Nat → Hp → V → Hp → Prop
  stop : Nat → Hp → Prop
noncomputable def FpOk (X : Cx) (pins : List (Addr × Obj)) (H : Hp) (b : Addr) : Prop :=
  H b = none ∧ b ≠ X.env.locals ∧ b ∉ X.fs ∧ (b ∈ X.ex ∨ X.s₀.heap.objs.size ≤ b) ∧ (∀ x c, X.env.cells.lookup x = some c → c ≠ b) ∧ ∀ p ∈ X.pn ++ pins, p.1 ≠ b
private theorem Inv.fpOk {X : Cx} {pins : List (Addr × Obj)} {σ : St} {H H' : Hp} {s : Shared} {b : Addr} (I : Inv X pins σ H s) (hb : s.heap.objs.size ≤ b) (hn : H' b = none) : FpOk X pins H' b := by
  refine ⟨hn, Nat.ne_of_gt (Nat.lt_of_lt_of_le I.lt hb), I.nofs hb, .inr (Nat.le_trans I.sz hb), fun x c e z => ?_, fun p hp z => ?_⟩
  · obtain ⟨v, q⟩ := I.cell x c e
    exact absurd (Nat.lt_of_lt_of_le q.lt (by rw [z]; exact hb)) (Nat.lt_irrefl _)
  · exact absurd (Nat.lt_of_lt_of_le (Heap.lt_size (I.pin p hp).1) (by rw [z]; exact hb)) (Nat.lt_irrefl _)
structure Turn (P : Program) (w : World) (K : PySem.W.Frag) (tg : Expr) (J : It) (fp : List Addr) (it : Addr) (tn : Nat → Heap → Prop) : Prop where
  mem : it ∈ fp
  obj : ∀ i h, tn i h → ∀ b ∈ fp, ∃ o, h.get? b = some o ∧ ∀ v, o.data ≠ .cell v
  keep : ∀ i h h', tn i h → (∀ b ∈ fp, ∀ o, h.get? b = some o → h'.get? b = some o) → tn i h'
  item : ∀ (X : Cx), X.prog = P → X.w = w → X.K = K → X.calm = true → ∀ (i : Nat) (pins : List (Addr × Obj)) (s : Shared) (σ : St) (H : Hp) (E : Value → Shared → Prop), Inv X pins σ H s → (∀ b ∈ fp, FpOk X pins H b) → tn i s.heap → J.go i H →
    wpAny (model P w) X.A (pyNext (.ref it)) (fun r s1 => ∃ u, r = some u ∧
      wpAny (model P w) X.A (letOwnedTupleGo tg (.ref it) u) (fun _ s2 => ∃ x H', Inv X pins σ H' s2 ∧ RelV x u ∧ J.yld i H x H' ∧ tn (i + 1) s2.heap ∧ ∀ b ∈ fp, H' b = none) E s1) E s
  done : ∀ (X : Cx), X.prog = P → X.w = w → X.K = K → X.calm = true → ∀ (i : Nat) (pins : List (Addr × Obj)) (s : Shared) (σ : St) (H : Hp) (E : Value → Shared → Prop), Inv X pins σ H s → (∀ b ∈ fp, FpOk X pins H b) → tn i s.heap → J.stop i H →
    wpAny (model P w) X.A (pyNext (.ref it)) (fun r s1 => r = none ∧ Inv X pins σ H s1) E s
  self : ∀ (A : Around) (i : Nat) (s : Shared) (Q : Value → Shared → Prop) (E : Value → Shared → Prop), tn i s.heap → Q (.ref it) s → wpAny (model P w) A (pyIter (.ref it)) Q E s
noncomputable abbrev TI := St → Hp → (It → Hp → Prop) → Prop
noncomputable def PIE (X : Cx) (pins : List (Addr × Obj)) (σ : St) (tg : Expr) (R : It → Hp → Prop) (itv : Value) (s2 : Shared) : Prop :=
  ∃ (it : Addr) (fp : List Addr) (tn : Nat → Heap → Prop) (J : It) (H' : Hp), itv = .ref it ∧ Inv X pins σ H' s2 ∧ Turn X.prog X.w X.K tg J fp it tn ∧ tn 0 s2.heap ∧ (∀ b ∈ fp, FpOk X pins H' b) ∧ R J H'
noncomputable def PI (X : Cx) (tg iter : Expr) (wi : TI) : Prop :=
  ∀ (pins : List (Addr × Obj)) (s : Shared) (σ : St) (H : Hp) (R : It → Hp → Prop), Inv X pins σ H s → wi σ H R →
    wpAny (model X.prog X.w) X.A (eval iter X.env) (fun v s1 => wpAny (model X.prog X.w) X.A (pyIter v) (PIE X pins σ tg R) X.xe s1) X.xe s

private theorem go_of {M : Model} {A : Around} {E : Value → Shared → Prop} {s : Shared} {tg : Expr} {it : Addr} {u : Value} {o : Obj} {n : String} {vs : Array Value} {Q : Unit → Shared → Prop} (ho : s.heap.get? it = some o) (hc : o.cls = .type n) (hd : o.data = .fields vs)
    (hn : ["enumerate", "zip", "dict_itemiterator", "dict_reverseitemiterator", "odict_iterator", "itertools.zip_longest", "itertools.pairwise"].contains n = false) (hQ : Q () s) : wpAny M A (letOwnedTupleGo tg (.ref it) u) Q E s := by
  unfold letOwnedTupleGo
  cases tg <;> first
    | exact wpAny_pure hQ
    | (cases u <;> first
        | exact wpAny_pure hQ
        | (refine wpAny_bind (wpAny_load ho ?_)
           rw [hc, hd]
           show wpAny M A (if (["enumerate", "zip", "dict_itemiterator", "dict_reverseitemiterator", "odict_iterator", "itertools.zip_longest", "itertools.pairwise"].contains n && vs[0]? == some (rawInt _)) = true then _ else _) Q E s
           rw [if_neg (by intro h; rw [hn, Bool.false_and] at h; cases h)]
           exact wpAny_pure hQ))

noncomputable def Itl (K : PySem.W.Frag) (a : Addr) : It :=
  ⟨fun i H => ∃ xs x, SqL K H a xs ∧ xs[i]? = some x, fun i H x H' => H' = H ∧ ∀ xs, SqL K H a xs → xs[i]? = some x, fun i H => ∃ xs, SqL K H a xs ∧ xs.length ≤ i⟩
noncomputable def Itt (K : PySem.W.Frag) (a : Addr) : It :=
  ⟨fun i H => ∃ xs x, SqT K H a xs ∧ xs[i]? = some x, fun i H x H' => H' = H ∧ ∀ xs, SqT K H a xs → xs[i]? = some x, fun i H => ∃ xs, SqT K H a xs ∧ xs.length ≤ i⟩
noncomputable def Itr (lo : Int) (n : Nat) : It := ⟨fun i _ => i < n, fun i H x H' => H' = H ∧ x = .int (lo + i), fun i _ => n ≤ i⟩
private theorem turn_list {P : Program} {w : World} {K : PySem.W.Frag} {tg : Expr} (a it : Addr) : Turn P w K tg (Itl K a) [it] it (fun i h => h.IsListIter it a i) where
  mem := by simp
  obj := fun i h st b hb => by
    have e : b = it := by simpa using hb
    subst e
    obtain ⟨o, e, c, d⟩ := st
    exact ⟨o, e, fun v z => by rw [d] at z; cases z⟩
  keep := fun i h h' st k => st.at fun o e => k it (by simp) o e
  item := by
    intro X hP hw hK hc i pins s σ H E I hf st hg
    subst hP hw hK
    obtain ⟨xs, x, hq, hx⟩ := hg
    obtain ⟨its, rv, p, hz⟩ := I.list hq
    obtain ⟨u, hu, ru⟩ := rv.get hx
    obtain ⟨f0, f1, f2, f3, f4, f5⟩ := hf it (by simp)
    refine wpAny_pyNext_list_item st p.isList (x := u) (by simpa using hu) fun h' st' sb => ?_
    have I1 : Inv X pins σ H { s with heap := h' } := I.turned (t' := s.toks) (fun b o hb e => (sb.2 b hb).trans e) f0 f1 f3 f4 f5
    obtain ⟨o, e, c, d⟩ := id st'
    exact ⟨u, rfl, go_of (s := { s with heap := h' }) e c d (by decide) ⟨x, H, I1, ru, ⟨rfl, fun ys hy => by rw [I.list_inj hy hq]; exact hx⟩, st', fun b hb => (hf b hb).1⟩⟩
  done := by
    intro X hP hw hK hc i pins s σ H E I hf st hg
    subst hP hw hK
    obtain ⟨xs, hq, hx⟩ := hg
    obtain ⟨its, rv, p, hz⟩ := I.list hq
    obtain ⟨f0, f1, f2, f3, f4, f5⟩ := hf it (by simp)
    have hl := rv.length
    exact wpAny_pyNext_list_end (I.ok.hd hc) st p.isList (by simp; omega) fun h' eb => ⟨rfl, I.turned (t' := s.toks) (fun b o hb e => eb b o hb e) f0 f1 f3 f4 f5⟩
  self := fun _ _ _ _ _ st h => wpAny_pyIter_listiter st h
private theorem turn_tuple {P : Program} {w : World} {K : PySem.W.Frag} {tg : Expr} (a it : Addr) : Turn P w K tg (Itt K a) [it] it (fun i h => h.IsTupleIter it a i) where
  mem := by simp
  obj := fun i h st b hb => by
    have e : b = it := by simpa using hb
    subst e
    obtain ⟨o, e, c, d⟩ := st
    exact ⟨o, e, fun v z => by rw [d] at z; cases z⟩
  keep := fun i h h' st k => st.at fun o e => k it (by simp) o e
  item := by
    intro X hP hw hK hc i pins s σ H E I hf st hg
    subst hP hw hK
    obtain ⟨xs, x, hq, hx⟩ := hg
    obtain ⟨its, rv, p, hz⟩ := I.tuple hq
    obtain ⟨u, hu, ru⟩ := rv.get hx
    obtain ⟨f0, f1, f2, f3, f4, f5⟩ := hf it (by simp)
    refine wpAny_pyNext_tuple_item st (show s.heap.IsTuple a its.toArray from p) (x := u) (by simpa using hu) fun h' st' sb => ?_
    have I1 : Inv X pins σ H { s with heap := h' } := I.turned (t' := s.toks) (fun b o hb e => (sb.2 b hb).trans e) f0 f1 f3 f4 f5
    obtain ⟨o, e, c, d⟩ := id st'
    exact ⟨u, rfl, go_of (s := { s with heap := h' }) e c d (by decide) ⟨x, H, I1, ru, ⟨rfl, fun ys hy => by rw [I.tuple_inj hy hq]; exact hx⟩, st', fun b hb => (hf b hb).1⟩⟩
  done := by
    intro X hP hw hK hc i pins s σ H E I hf st hg
    subst hP hw hK
    obtain ⟨xs, hq, hx⟩ := hg
    obtain ⟨its, rv, p, hz⟩ := I.tuple hq
    obtain ⟨f0, f1, f2, f3, f4, f5⟩ := hf it (by simp)
    have hl := rv.length
    exact wpAny_pyNext_tuple_end (I.ok.hd hc) st (show s.heap.IsTuple a its.toArray from p) (by simp; omega) fun h' eb => ⟨rfl, I.turned (t' := s.toks) (fun b o hb e => eb b o hb e) f0 f1 f3 f4 f5⟩
  self := fun _ _ _ _ _ st h => wpAny_pyIter_tupleiter st h
private theorem turn_range {P : Program} {w : World} {K : PySem.W.Frag} {tg : Expr} (it : Addr) (lo : Int) (n : Nat) : Turn P w K tg (Itr lo n) [it] it (fun i h => IsRangeIter h it (lo + (i : Nat) * 1) ((n : Int) - (i : Nat)) 1) where
  mem := by simp
  obj := fun i h st b hb => by
    have e : b = it := by simpa using hb
    subst e
    exact ⟨_, st, fun v z => by
      have z' : Data.fields _ = Data.cell v := z
      cases z'⟩
  keep := fun i h h' st k => k it (by simp) _ st
  item := by
    intro X hP hw hK hc i pins s σ H E I hf st hg
    subst hP hw hK
    obtain ⟨f0, f1, f2, f3, f4, f5⟩ := hf it (by simp)
    have W := Walks.range (prog := X.prog) (w := X.w) (I.ok.hd hc) it lo 1 n
    refine W.item i s _ _ hg st fun v h' tk hv st' kk => ?_
    obtain ⟨t, rfl⟩ := hv
    have I1 : Inv X pins σ H { s with heap := h', toks := tk } := I.turned (fun b o hb e => kk b o (by simpa using hb) e) f0 f1 f3 f4 f5
    refine ⟨_, rfl, go_of (s := { s with heap := h', toks := tk }) (n := "range_iterator") st' rfl rfl (by decide) ⟨.int (lo + i), H, I1, ⟨t, ?_⟩, ⟨rfl, rfl⟩, st', fun b hb => (hf b hb).1⟩⟩
    rw [Int.mul_one]
  done := by
    intro X hP hw hK hc i pins s σ H E I hf st hg
    subst hP hw hK
    obtain ⟨f0, f1, f2, f3, f4, f5⟩ := hf it (by simp)
    exact wpAny_pyNext_range_end (I.ok.hd hc) st (by have : n ≤ i := hg; omega) fun h' eb => ⟨rfl, I.turned (t' := s.toks) (fun b o hb e => eb b o hb e) f0 f1 f3 f4 f5⟩
  self := fun _ _ _ _ _ st h => wpAny_pyIter_rangeiter st h
end L2

namespace L2
open PySem PySem.Spec PyProof.Rows
section
variable {X : Cx} {tg : Expr}
private theorem range_it {pins : List (Addr × Obj)} {σ : St} {H : Hp} {s : Shared} {R : It → Hp → Prop} {E : Value → Shared → Prop} {lo hi : Int} {t u v : Tok} {tk : Nat} (I : Inv X pins σ H s) (h1 : -(2 ^ 62) ≤ lo) (h2 : lo < 2 ^ 62) (h3 : -(2 ^ 62) ≤ hi) (h4 : hi < 2 ^ 62)
    (q : R (Itr lo (hi - lo).toNat) H) : wpAny (model X.prog X.w) X.A (pyIter (.ref s.heap.objs.size)) (PIE X pins σ tg R) E { s with heap := s.heap.push { cls := .type "range", data := .fields #[.int lo t, .int hi u, .int 1 v] }, toks := tk } := by
  refine wpAny_pyIter_range (IsRange.new ..) (small_one h1 h2 h3 h4) ?_
  have I1 : Inv X pins σ H { s with heap := s.heap.push { cls := .type "range", data := .fields #[.int lo t, .int hi u, .int 1 v] }, toks := tk } := I.kept fun b o e => Heap.get?_push_of_some _ e
  refine ⟨(s.heap.push { cls := .type "range", data := .fields #[.int lo t, .int hi u, .int 1 v] }).objs.size, [(s.heap.push { cls := .type "range", data := .fields #[.int lo t, .int hi u, .int 1 v] }).objs.size], _, _, H, rfl,
    I1.kept (t' := tk) fun b o e => Heap.get?_push_of_some _ e, turn_range _ lo (hi - lo).toNat, ?_, fun b hb => ?_, q⟩
  · have e1 : lo + ((0 : Nat) : Int) * 1 = lo := by simp
    have e2 : (((hi - lo).toNat : Nat) : Int) - ((0 : Nat) : Int) = Builtin.Range.rangeSize lo hi 1 := by rw [rangeSize_one]; split <;> omega
    show IsRangeIter _ _ (lo + ((0 : Nat) : Int) * 1) ((((hi - lo).toNat : Nat) : Int) - ((0 : Nat) : Int)) 1
    rw [e1, e2]
    exact Heap.get?_push_size _ rfl
  · have e : b = (s.heap.push { cls := .type "range", data := .fields #[.int lo t, .int hi u, .int 1 v] }).objs.size := by simpa using hb
    subst e
    exact I1.fpOk (Nat.le_refl _) (I1.hok.fresh (Nat.le_refl _))
noncomputable def iRng1 (ta : TA) : TI := fun σ H R => ta σ H fun vs H1 => ∃ j : Int, vs = [.int j] ∧ -(2 ^ 62) ≤ j ∧ j < 2 ^ 62 ∧ R (Itr 0 j.toNat) H1
private theorem pi_range1 {a : Expr} {ta : TA} {p pos : Pos} (hg : Gl X "range") (hm : X.mg "range" = none) (ha : PA X [a] ta) (hs : autoParam (starEach [a] X.env = [(false, eval a X.env)]) _root_.zt2) : PI X tg (.Call (.Name "range" p) [a] [] pos) (iRng1 ta) := by
  intro pins s σ H R I h
  refine Call_ (ld_blt I hg hm boot_range (PyProof.Rows.callWith_type1 (thn (ha pos pins s σ H _ I h) fun us s1 zq9 => ?_) hs rfl))
  obtain ⟨vs, H1, I1, r1, q1⟩ := zq9
  obtain ⟨j, e, q1, q2, q⟩ := q1
  subst e
  cases r1 with
  | cons r rr =>
    cases rr
    obtain ⟨t, rfl⟩ := r
    exact call_range_1 (range_it I1 (by omega) (by omega) q1 q2 (by simpa using q))
noncomputable def tFor (wi : TI) (g : TG) (tb : TS) : TS := fun D σ H => wi σ H fun J H1 => ∃ W : Nat → Nat → St → Hp → Prop, (∃ m, W 0 m σ H1) ∧ ∀ i m σ H, W i m σ H →
  (J.stop i H ∧ D.nx σ H) ∨ (J.go i H ∧ ∃ N : St → Hp → Prop, (∀ σ' H', N σ' H' → ∃ m', m' < m ∧ W (i + 1) m' σ' H') ∧ ∀ x H', J.yld i H x H' → g x σ H' fun σ2 H2 => tb { D with nx := N, ct := N, bk := D.nx } σ2 H2)
noncomputable def pinsAt (fp : List Addr) (h : Heap) : List (Addr × Obj) := fp.filterMap fun b => (h.get? b).map fun o => (b, o)
private theorem mem_pinsAt {fp : List Addr} {h : Heap} {b : Addr} {o : Obj} (hb : b ∈ fp) (e : h.get? b = some o) : (b, o) ∈ pinsAt fp h := List.mem_filterMap.mpr ⟨b, hb, by rw [e]; rfl⟩
private theorem of_pinsAt {fp : List Addr} {h : Heap} {p : Addr × Obj} (hp : p ∈ pinsAt fp h) : p.1 ∈ fp ∧ h.get? p.1 = some p.2 := by
  obtain ⟨b, hb, e⟩ := List.mem_filterMap.mp hp
  cases q : h.get? b with
  | none => rw [q] at e; cases e
  | some o =>
    rw [q] at e
    have e' : (b, o) = p := Option.some.inj e
    subst e'
    exact ⟨hb, q⟩
private theorem Inv.pinned {pins : List (Addr × Obj)} {σ : St} {H : Hp} {s : Shared} {fp : List Addr} (I : Inv X pins σ H s) (hf : ∀ b ∈ fp, FpOk X pins H b) (ho : ∀ b ∈ fp, ∃ o, s.heap.get? b = some o ∧ ∀ v, o.data ≠ .cell v) : Inv X (pins ++ pinsAt fp s.heap) σ H s :=
  I.pins_of fun p hp => (List.mem_append.mp hp).elim (fun z => I.pin p (List.mem_append_right _ z)) fun z => by
    obtain ⟨hb, e⟩ := of_pinsAt z
    obtain ⟨f0, f1, f2, _⟩ := hf p.1 hb
    obtain ⟨o, e', d⟩ := ho p.1 hb
    rw [e] at e'; cases e'
    exact ⟨e, f0, f1, f2, d⟩
private theorem Inv.unpinned {pins pl : List (Addr × Obj)} {σ : St} {H : Hp} {s : Shared} (I : Inv X (pins ++ pl) σ H s) : Inv X pins σ H s := I.pins_of fun p hp => I.pin p (List.mem_append_right _ (List.mem_append_left _ hp))
private theorem ps_for {iter : Expr} {body : List Stmt} {wi : TI} {g : TG} {tb : TS} {pos : Pos} (hp : PassesOwn (model X.prog X.w) X.A X.env X.xe) (hc : X.calm = true) (hi : PI X tg iter wi) (hg : PG X tg g) (hb : PSs X body tb)
    (hs : autoParam (∀ x, foldedSetIterable iter X.env x = pure x) _root_.zt3) : PS X (.For tg iter body [] pos) (tFor wi g tb) := by
  intro pins s σ H D I h
  refine wpAny_For (thn (hi pins s σ H _ I h) fun v s1 h1 => thn h1 fun itv s2 h2 => ?_) hs
  obtain ⟨it, fp, tn, J, H2, e, I2, T, st2, f2, W, ⟨m0, w0⟩, turn⟩ := h2
  subst e
  -- what stays true of the iterator's objects through the loop
  have stat : ∀ {H' : Hp}, (∀ b ∈ fp, H' b = none) → ∀ b ∈ fp, FpOk X pins H' b := fun hn b hb => ⟨hn b hb, (f2 b hb).2⟩
  refine codeAny_forLoop_any (fun n s' => ∃ i σ' H', Inv X pins σ' H' s' ∧ tn i s'.heap ∧ (∀ b ∈ fp, H' b = none) ∧ W i n σ' H') ?_ m0 ⟨0, σ, H2, I2, st2, fun b hb => (f2 b hb).1, w0⟩
  rintro n s3 ⟨i, σ3, H3, I3, st3, fr3, w3⟩
  rcases turn i n σ3 H3 w3 with ⟨stop, qn⟩ | ⟨go, N, hN, step⟩
  · refine wpAny_passesOwn hp (thn (T.done X rfl rfl rfl hc i pins s3 σ3 H3 X.xe I3 (stat fr3) st3 stop) fun r s4 zq9 => ?_)
    obtain ⟨hr, I4⟩ := zq9
    subst hr
    exact wpAny_execs_nil ⟨σ3, H3, I4, qn⟩
  · refine wpAny_passesOwn hp (thn (T.item X rfl rfl rfl hc i pins s3 σ3 H3 X.xe I3 (stat fr3) st3 go) fun r s4 zq9 => ?_)
    obtain ⟨u, hr, h4⟩ := zq9
    subst hr
    refine wpAny_passesOwn hp (thn h4 fun _ s5 zq9 => ?_)
    obtain ⟨x, H5, I5, r5, y5, st5, fr5⟩ := zq9
    have I5' := I5.pinned (stat fr5) (T.obj _ _ st5)
    refine wpAny_passesOwn hp (thn (hg _ s5 σ3 H5 x u _ I5' r5 (step x H5 y5)) fun _ s6 zq9 => ?_)
    obtain ⟨σ6, H6, I6, q6⟩ := zq9
    refine wpAny_passesOwn hp (thn (hb _ s6 σ6 H6 _ I6 q6) fun f s7 q7 => ?_)
    have again : ∀ {σ7 : St} {H7 : Hp}, Inv X (pins ++ pinsAt fp s5.heap) σ7 H7 s7 → N σ7 H7 → ∃ m, m < n ∧ ∃ i σ' H', Inv X pins σ' H' s7 ∧ tn i s7.heap ∧ (∀ b ∈ fp, H' b = none) ∧ W i m σ' H' := fun {σ7 H7} I7 n7 => by
      obtain ⟨m', hm, w7⟩ := hN σ7 H7 n7
      refine ⟨m', hm, i + 1, σ7, H7, I7.unpinned, T.keep _ _ _ st5 fun b hb o e => (I7.pin (b, o) (List.mem_append_right _ (List.mem_append_right _ (mem_pinsAt hb e)))).1, fun b hb => ?_, w7⟩
      obtain ⟨o, e, d⟩ := T.obj _ _ st5 b hb
      exact (I7.pin (b, o) (List.mem_append_right _ (List.mem_append_right _ (mem_pinsAt hb e)))).2.1
    cases f with
    | next => obtain ⟨σ7, H7, I7, n7⟩ := q7; exact again I7 n7
    | cont => obtain ⟨σ7, H7, I7, n7⟩ := q7; exact again I7 n7
    | brk => obtain ⟨σ7, H7, I7, q7⟩ := q7; exact ⟨σ7, H7, I7.unpinned, q7⟩
    | ret v => obtain ⟨x7, σ7, H7, I7, r7, q7⟩ := q7; exact ⟨x7, σ7, H7, I7.unpinned, r7, q7⟩
end

end L2

namespace L2
open PySem PySem.Spec PyProof.Rows

noncomputable abbrev R2 := V → V → Hp → VK → Prop
noncomputable def OpR (X : Cx) (f : Value → Value → Sem Value) (r : R2) : Prop :=
  ∀ (pins : List (Addr × Obj)) (s : Shared) (σ : St) (H : Hp) (x y : V) (v u : Value) (Q : VK), Inv X pins σ H s → RelV x v → RelV y u → r x y H Q →
    wpAny (model X.prog X.w) X.A (f v u) (EP X pins σ Q) X.xe s
noncomputable def UnR (X : Cx) (f : Value → Sem Value) (r : V → Hp → VK → Prop) : Prop :=
  ∀ (pins : List (Addr × Obj)) (s : Shared) (σ : St) (H : Hp) (x : V) (v : Value) (Q : VK), Inv X pins σ H s → RelV x v → r x H Q →
    wpAny (model X.prog X.w) X.A (f v) (EP X pins σ Q) X.xe s
noncomputable def CallR (X : Cx) (f : Value) (r : List V → Hp → VK → Prop) : Prop :=
  ∀ (pins : List (Addr × Obj)) (s : Shared) (σ : St) (H : Hp) (xs : List V) (us : List Value) (Q : VK), Inv X pins σ H s → Vals xs us → r xs H Q →
    wpAny (model X.prog X.w) X.A (call f us) (EP X pins σ Q) X.xe s
noncomputable def TruR (X : Cx) (r : V → Hp → (Bool → Hp → Prop) → Prop) : Prop :=
  ∀ (pins : List (Addr × Obj)) (s : Shared) (σ : St) (H : Hp) (x : V) (v : Value) (Q : Bool → Hp → Prop), Inv X pins σ H s → RelV x v → r x H Q →
    wpAny (model X.prog X.w) X.A (truthy v) (TP X pins σ Q) X.xe s

noncomputable def tOp (r : R2) (ta tb : TE) : TE := fun σ H Q => ta σ H fun x H1 => tb σ H1 fun y H2 => r x y H2 Q
noncomputable def tUn (r : V → Hp → VK → Prop) (ta : TE) : TE := fun σ H Q => ta σ H fun x H1 => r x H1 Q
noncomputable def rI (C : Int → Int → Prop) (g : Int → Int → V) : R2 := fun x y H Q => ∃ i j, x = .int i ∧ y = .int j ∧ C i j ∧ Q (g i j) H
noncomputable def rI0 (g : Int → Int → V) : R2 := fun x y H Q => ∃ i j, x = .int i ∧ y = .int j ∧ Q (g i j) H
noncomputable def rU (g : Int → V) : V → Hp → VK → Prop := fun x H Q => ∃ i, x = .int i ∧ Q (g i) H

section
variable {X : Cx} {a b c : Expr} {ta tb tc : TE} {pos : Pos}

private theorem binT (ha : PE X a ta) (hb : PE X b tb) {pins : List (Addr × Obj)} {s : Shared} {σ : St} {H : Hp} {R : V → V → Hp → Prop} (I : Inv X pins σ H s)
    (h : ta σ H fun x H1 => tb σ H1 fun y H2 => R x y H2) {Q : Value → Shared → Prop} {f : Value → Value → Sem Value}
    (hf : ∀ v u s2 x y H2, Inv X pins σ H2 s2 → RelV x v → RelV y u → R x y H2 → wpAny (model X.prog X.w) X.A (f v u) Q X.xe s2) :
    wpAny (model X.prog X.w) X.A (eval a X.env) (fun v s₁ => wpAny (model X.prog X.w) X.A (eval b X.env) (fun u s₂ => wpAny (model X.prog X.w) X.A (f v u) Q X.xe s₂) X.xe s₁) X.xe s := by
  refine thn (ha pins s σ H _ I h) fun v s1 zq9 => ?_
  obtain ⟨x, H1, I1, r1, q1⟩ := zq9
  refine thn (hb pins s1 σ H1 _ I1 q1) fun u s2 zq9 => ?_
  obtain ⟨y, H2, I2, r2, q2⟩ := zq9
  exact hf v u s2 x y H2 I2 r1 r2 q2

private theorem pe_op {op : Operator} {r : R2} (ho : OpR X (binaryOp op) r) (ha : PE X a ta) (hb : PE X b tb) : PE X (.BinOp a op b pos) (tOp r ta tb) := by
  intro pins s σ H Q I h
  exact wpAny_BinOp (binT ha hb I h fun v u s2 x y H2 I2 rx ry q => ho pins s2 σ H2 x y v u Q I2 rx ry q)
private theorem pe_un {op : UnaryOp} {r : V → Hp → VK → Prop} (ho : UnR X (unaryOp op) r) (ha : PE X a ta) : PE X (.UnaryOp op a pos) (tUn r ta) := by
  intro pins s σ H Q I h
  exact UnaryOp_ (thn (ha pins s σ H _ I h) fun v s1 ⟨x, H1, I1, r1, q1⟩ => ho pins s1 σ H1 x v Q I1 r1 q1)
private theorem opI {f : Value → Value → Sem Value} {C : Int → Int → Prop} {g : Int → Int → Int}
    (rule : ∀ (i j : Int) (t u : Tok) (s : Shared) (Q : Value → Shared → Prop) (E : Value → Shared → Prop), C i j → Q (.int (g i j) s.toks) { s with toks := s.toks + 1 } → wpAny (model X.prog X.w) X.A (f (.int i t) (.int j u)) Q E s) :
    OpR X f (rI C fun i j => .int (g i j)) := by
  intro pins s σ H x y v u Q I rx ry h
  obtain ⟨i, j, rfl, rfl, hc, q⟩ := h
  obtain ⟨t, rfl⟩ := rx
  obtain ⟨t', rfl⟩ := ry
  exact rule i j t t' s _ _ hc ⟨.int (g i j), H, I.tok _, ⟨_, rfl⟩, q⟩
private theorem opI0 {f : Value → Value → Sem Value} {g : Int → Int → Int}
    (rule : ∀ (i j : Int) (t u : Tok) (s : Shared) (Q : Value → Shared → Prop) (E : Value → Shared → Prop), Q (.int (g i j) s.toks) { s with toks := s.toks + 1 } → wpAny (model X.prog X.w) X.A (f (.int i t) (.int j u)) Q E s) :
    OpR X f (rI0 fun i j => .int (g i j)) := by
  intro pins s σ H x y v u Q I rx ry h
  obtain ⟨i, j, rfl, rfl, q⟩ := h
  obtain ⟨t, rfl⟩ := rx
  obtain ⟨t', rfl⟩ := ry
  exact rule i j t t' s _ _ ⟨.int (g i j), H, I.tok _, ⟨_, rfl⟩, q⟩
private theorem opB0 {f : Value → Value → Sem Value} {g : Int → Int → Bool}
    (rule : ∀ (i j : Int) (t u : Tok) (s : Shared) (Q : Value → Shared → Prop) (E : Value → Shared → Prop), Q (.bool (g i j)) s → wpAny (model X.prog X.w) X.A (f (.int i t) (.int j u)) Q E s) :
    OpR X f (rI0 fun i j => .bl (g i j)) := by
  intro pins s σ H x y v u Q I rx ry h
  obtain ⟨i, j, rfl, rfl, q⟩ := h
  obtain ⟨t, rfl⟩ := rx
  obtain ⟨t', rfl⟩ := ry
  exact rule i j t t' s _ _ ⟨.bl (g i j), H, I, rfl, q⟩

noncomputable def CPow (i j : Int) : Prop := 0 ≤ j ∧ j ≤ 1000000 ∧ i.natAbs < 2 ^ 64
noncomputable def CMul (i j : Int) : Prop := (-(2 ^ 64) < i ∧ i < 2 ^ 64) ∨ (-(2 ^ 64) < j ∧ j < 2 ^ 64)
private theorem CMul.ok {i j : Int} (h : CMul i j) : IntMulOk i j := by
  rcases h with ⟨h1, h2⟩ | ⟨h1, h2⟩
  · exact .of_left (intBits_le_64 h1 h2)
  · exact .of_right (intBits_le_64 h1 h2)
private theorem op_add : OpR X (binaryOp .Add) (rI0 fun i j => .int (i + j)) := opI0 fun _ _ _ _ _ _ _ q => add_int q
private theorem op_sub : OpR X (binaryOp .Sub) (rI0 fun i j => .int (i - j)) := opI0 fun _ _ _ _ _ _ _ q => sub_int q
private theorem op_mod : OpR X (binaryOp .Mod) (rI (fun _ j => 0 < j) fun i j => .int (i % j)) := opI fun i j _ _ _ _ _ hc q => by
  have h1 : (0 : Int) < j := hc
  exact mod_int' (by omega) (by rw [Int.fmod_eq_emod_of_nonneg i (by omega)]; exact q)
private theorem op_pow : OpR X (binaryOp .Pow) (rI CPow fun i j => .int (i ^ j.toNat)) := opI fun _ _ _ _ _ _ _ hc q => pow_int_small hc.1 hc.2.1 hc.2.2 q
private theorem unI {f : Value → Sem Value} {g : Int → Int}
    (rule : ∀ (i : Int) (t : Tok) (s : Shared) (Q : Value → Shared → Prop) (E : Value → Shared → Prop), Q (.int (g i) s.toks) { s with toks := s.toks + 1 } → wpAny (model X.prog X.w) X.A (f (.int i t)) Q E s) :
    UnR X f (rU fun i => .int (g i)) := by
  intro pins s σ H x v Q I rx h
  obtain ⟨i, rfl, q⟩ := h
  obtain ⟨t, rfl⟩ := rx
  exact rule i t s _ _ ⟨.int (g i), H, I.tok _, ⟨_, rfl⟩, q⟩
private theorem un_neg : UnR X (unaryOp .USub) (rU fun i => .int (-i)) := unI fun _ _ _ _ _ q => neg_int q
end

section
variable {X : Cx} {a b c : Expr} {ta tb tc : TE} {pos : Pos}
private theorem op_lt : OpR X (compareOp .Lt) (rI0 fun i j => .bl (decide (i < j))) := opB0 fun _ _ _ _ _ _ _ q => lt_int q
private theorem op_gt : OpR X (compareOp .Gt) (rI0 fun i j => .bl (decide (j < i))) := opB0 fun _ _ _ _ _ _ _ q => gt_int q
private theorem nomark (b : Expr) {op : CmpOp} (h : autoParam (op ≠ .In) _root_.zt1) (h2 : autoParam (op ≠ .NotIn) _root_.zt1) : behindInMarks op b = false := by
  have e1 : (op == CmpOp.In) = false := by cases op <;> first | rfl | exact absurd rfl h
  have e2 : (op == CmpOp.NotIn) = false := by cases op <;> first | rfl | exact absurd rfl h2
  cases b <;> simp [behindInMarks, e1, e2]
noncomputable def tTest (t : TE) : TT := fun σ H Q => t σ H fun x H' => ∃ k, x = .bl k ∧ Q k H'
private theorem pt_cmpR {op : CmpOp} {r : R2} (ho : OpR X (compareOp op) r) (ha : PE X a ta) (hb : PE X b tb) (hm : behindInMarks op b = false) : PT X (.Compare a [op] [b] pos) (tTest (tOp r ta tb)) := by
  intro pins s σ H Q I h
  refine wpAny_isTrue_Compare1 (thn (ha pins s σ H _ I h) fun v s1 ⟨x, H1, I1, r1, q1⟩ => thn (hb pins s1 σ H1 _ I1 q1) fun u s2 ⟨y, H2, I2, r2, q2⟩ =>
    thn (ho pins s2 σ H2 x y v u _ I2 r1 r2 q2) fun c s3 ⟨z, H3, I3, r3, k, e, q3⟩ => ?_) hm
  subst e
  cases r3
  exact wpAny_truthy_bool ⟨H3, I3, q3⟩
noncomputable def TruV (K : PySem.W.Frag) (x : V) (H : Hp) (k : Bool) : Prop :=
  match x with
  | .non => k = false
  | .bl b => k = b
  | .int i => k = (i != 0)
  | .str y => y.length ≤ sizeLine ∧ k = ((y.length : Int) != 0)
  | .byt y => y.size ≤ sizeLine ∧ k = ((y.size : Int) != 0)
  | .ref p => (∃ xs, SqL K H p xs ∧ k = !xs.isEmpty) ∨ (∃ xs, SqT K H p xs ∧ k = !xs.isEmpty) ∨ ∃ kvs, H p = some (.dK kvs) ∧ k = !kvs.isEmpty
  | _ => False
private theorem isEmpty_kv {κ : Type} {kvs : List (κ × V)} {vs : List (κ × Value)} (r : KV kvs vs) : (!vs.isEmpty) = !kvs.isEmpty := by
  cases r <;> rfl
private theorem isEmpty_of {xs : List V} {its : List Value} (r : Vals xs its) : (!its.toArray.isEmpty) = !xs.isEmpty := by
  cases r <;> simp
private theorem line63 : (sizeLine : Nat) < 2 ^ 63 := by rw [sizeLine_eq]; decide
private theorem tru_ok : TruR X (fun x H Q => ∃ k, TruV X.K x H k ∧ Q k H) := by
  intro pins s σ H x v Q I rx h
  obtain ⟨k, e, q⟩ := h
  have hl := line63
  have hs : sizeLine = 16777216 := sizeLine_eq
  cases x with
  | non =>
    cases rx
    have e' : k = false := e
    subst e'
    exact truthy_none ⟨H, I, q⟩
  | bl b =>
    cases rx
    have e' : k = b := e
    subst e'
    exact wpAny_truthy_bool ⟨H, I, q⟩
  | int i =>
    obtain ⟨t, rfl⟩ := rx
    have e' : k = (i != 0) := e
    subst e'
    exact PySem.P.truthy_int ⟨H, I, q⟩
  | str y =>
    obtain ⟨t, rfl⟩ := rx
    obtain ⟨hy, e'⟩ : y.length ≤ sizeLine ∧ k = ((y.length : Int) != 0) := e
    subst e'
    exact PySem.P.truthy_str (by omega) ⟨H, I.tok _, q⟩
  | byt y =>
    obtain ⟨t, rfl⟩ := rx
    obtain ⟨hy, e'⟩ : y.size ≤ sizeLine ∧ k = ((y.size : Int) != 0) := e
    subst e'
    exact PySem.W.truthy_bytes (by omega) ⟨H, I.tok _, q⟩
  | ref p =>
    cases rx
    have e' : (∃ xs, SqL X.K H p xs ∧ k = !xs.isEmpty) ∨ (∃ xs, SqT X.K H p xs ∧ k = !xs.isEmpty) ∨ ∃ kvs, H p = some (.dK kvs) ∧ k = !kvs.isEmpty := e
    rcases e' with ⟨xs, hx, e'⟩ | ⟨xs, hx, e'⟩ | ⟨kvs, hx, e'⟩
    · subst e'
      obtain ⟨its, r, pl, hz⟩ := I.list hx
      have hlen := r.length
      exact wpAny_truthy_list pl.isList (by simp only [List.size_toArray]; omega) ⟨H, I.tok _, by rw [isEmpty_of r]; exact q⟩
    · subst e'
      obtain ⟨its, r, pl, hz⟩ := I.tuple hx
      have hlen := r.length
      exact truthy_tuple pl (by simp only [List.size_toArray]; omega) ⟨H, I.tok _, by rw [isEmpty_of r]; exact q⟩
    · subst e'
      obtain ⟨hz, hS, vs, r, m⟩ : kvs.length ≤ sizeLine ∧ (p == sysModules) = false ∧ ∃ vs, KV kvs vs ∧ s.heap.DictOf (mixKind X.prog X.w) p vs := I.hok p _ hx
      have hlen : kvs.length = vs.length := Paired.length r
      exact wpAny_truthy_dict hS m (by omega) ⟨H, I.tok _, by rw [isEmpty_kv r]; exact q⟩
  | _ => exact (show False from e).elim
private theorem pt_truth (ha : PE X a ta) (he : ∀ whole, isTrue a X.env whole = (do let v ← whole; standAt a.pos; holding [v] (truthy v))) :
    PT X a (fun σ H Q => ta σ H fun x H' => ∃ k, TruV X.K x H' k ∧ Q k H') := by
  intro pins s σ H Q I h
  exact isTrue_plain (thn (ha pins s σ H _ I h) fun v s1 ⟨x, H1, I1, r1, q1⟩ => tru_ok pins s1 σ H1 x v Q I1 r1 q1) (he _)

private theorem vals1 {x : V} {us : List Value} (r : Vals [x] us) : ∃ u, us = [u] ∧ RelV x u := by
  cases r with
  | cons r1 r2 => cases r2; exact ⟨_, rfl, r1⟩
private theorem vals2 {x y : V} {us : List Value} (r : Vals [x, y] us) : ∃ u w', us = [u, w'] ∧ RelV x u ∧ RelV y w' := by
  cases r with
  | cons r1 r2 =>
    cases r2 with
    | cons r3 r4 => cases r4; exact ⟨_, _, rfl, r1, r3⟩
private theorem call_min2 (hc : X.calm = true) : CallR X (.builtin "min") (fun xs H Q => ∃ i j, xs = [.int i, .int j] ∧ Q (.int (if j < i then j else i)) H) := by
  intro pins s σ H xs us Q I r h
  obtain ⟨i, j, rfl, q⟩ := h
  obtain ⟨u, w', rfl, ⟨t, rfl⟩, ⟨t', rfl⟩⟩ := vals2 r
  refine min_two_ints (I.ok.hd hc) fun h' tk k => ⟨_, H, I.kept k, ?_, q⟩
  by_cases hj : j < i
  · rw [if_pos hj, if_pos hj]; exact ⟨_, rfl⟩
  · rw [if_neg hj, if_neg hj]; exact ⟨_, rfl⟩
end
end L2

namespace L2
open PySem PySem.Spec PyProof.Rows

private theorem lookIn_ns {h : Heap} {dx : Addr} {mA : Str → Option Value} (n : h.Ns1 dx mA) : ∃ od, h.get? dx = some od ∧ ∀ name, PySem.W.lookIn name od = some (mA name) := by
  obtain ⟨o, es, ep, ho, hd, hk, _, hm⟩ := n
  refine ⟨o, ho, fun name => ?_⟩
  have e := hm name
  unfold nsFind findBy at e
  rw [← Array.find?_toList] at e
  unfold PySem.W.lookIn
  rw [hd]
  dsimp only
  split
  · rename_i y q
    rw [q] at e
    exact congrArg some e
  · rename_i q
    rw [q] at e
    have a : es.toList.any (·.refKey) = false := by
      rw [List.any_eq_false]
      intro y hy
      obtain ⟨z, t, hkey⟩ := hk y (Array.mem_toList_iff.mp hy)
      simp [DictEntry.refKey, hkey]
    have a' : ¬ es.toList.any (·.refKey) = true := by rw [a]; exact Bool.false_ne_true
    rw [if_neg a']
    exact congrArg some e

section
variable {prog : Program} {w : World} {A : Around} {E : Value → Shared → Prop} {s : Shared} {K : PySem.W.Frag} {x dx C f : Addr} {mA : Str → Option Value} {name : Str} {v : Value}

end

private theorem RelO.some_of {v : V} {o : Option Value} (r : RelO (some v) o) : ∃ u, o = some u ∧ RelV v u := by
  cases o with
  | none => exact (show False from r).elim
  | some u => exact ⟨u, rfl, r⟩
private theorem handed_of {v : V} {u : Value} (r : RelV v u) : PySem.W.handedIn u = true := by
  cases v with
  | non => cases (show u = Value.none from r); rfl
  | bl b => cases (show u = Value.bool b from r); rfl
  | int i => obtain ⟨t, e⟩ := (show ∃ t, u = Value.int i t from r); cases e; rfl
  | str x => obtain ⟨t, e⟩ := (show ∃ t, u = Value.str x t from r); cases e; rfl
  | byt b => obtain ⟨t, e⟩ := (show ∃ t, u = Value.bytes b t from r); cases e; rfl
  | flt b => obtain ⟨t, e⟩ := (show ∃ t, u = Value.float b t from r); cases e; rfl
  | ref a => cases (show u = Value.ref a from r); rfl
  | ty n => cases (show u = Value.type n from r); rfl

section
variable {P : Program} {w : World} {H H' : Hp} {h h' : Heap} {a C dx : Addr} {fs fs' : List (Str × V)}
end

noncomputable def NoAttr (K : PySem.W.Frag) (C : Addr) (f : Str) : Prop := PySem.W.findIn K (.ref C) f = some none
private theorem NoAttr.taker {K : PySem.W.Frag} {C : Addr} {f : Str} (n : NoAttr K C f) : PySem.W.takerIn K C f = some none := by
  unfold PySem.W.takerIn
  rw [show PySem.W.findIn K (.ref C) f = some none from n]
  rfl
section
variable {X : Cx} {pins : List (Addr × Obj)} {σ : St} {H : Hp} {s : Shared} {a C dx : Addr} {fs : List (Str × V)} {f : Str} {v : V} {A : Around} {E : Value → Shared → Prop}

private theorem attr_of {prog : Program} {w : World} {env : Env} {e : Expr} {f : Str} {pos : Pos} {s : Shared} {Q : Value → Shared → Prop} (hb : attributeBase e f env (eval e env) = eval e env)
    (h : wpAny (model prog w) A (eval e env) (fun o s₁ => wpAny (model prog w) A (getAttr o f true) Q E s₁) E s) : wpAny (model prog w) A (eval (.Attribute e f pos) env) Q E s :=
  Attribute_any_ h (by rw [arm_eval_Attribute, hb])
end

section
variable {X : Cx} {o e value : Expr} {f : Str} {pos pos' tpos : Pos} {ta tv : TE}
end

section
variable {X : Cx} {pins : List (Addr × Obj)} {σ : St} {H : Hp} {s : Shared} {A : Around} {E : Value → Shared → Prop} {Q : Value → Shared → Prop} {c : Value} {b : Bool}
end
end L2

namespace L2
open PySem PySem.Spec PyProof.Rows

structure Room (k : Nat) (A : Around) : Prop where
  hd : A.handled = none
  dp : A.depth + 3 * k + 5 < recursionLimit
  un : A.units + 16 * k + 200 < cLine
private theorem Room.mono {j k : Nat} {A : Around} (r : Room k A) (h : j ≤ k) : Room j A := ⟨r.hd, by have := r.dp; omega, by have := r.un; omega⟩
private theorem Room.deeper {k : Nat} {A : Around} (r : Room (k + 1) A) (env : Env) : Room k (A.deeper env) :=
  ⟨r.hd, by have := r.dp; show A.depth + 1 + 3 * k + 5 < _; omega, by have := r.un; show A.units + 3 + 16 * k + 200 < _; omega⟩
private theorem make_depth {A : Around} {C : Addr} {us : List Value} {kw : List (Str × Value)} : (A.under (.builtin "type.__call__" ⟨.ref C :: us, kw⟩)).depth = A.depth + 1 := by
  first | rfl | simp [Around.under, Code.weight, Code.isCreation, Code.isGuard, Code.isCaller, Code.frames, Code.isFrame, guardIds]
private theorem make_units {A : Around} {C : Addr} {us : List Value} {kw : List (Str × Value)} : (A.under (.builtin "type.__call__" ⟨.ref C :: us, kw⟩)).units = A.units + 1 := by
  first | rfl | simp [Around.under, Code.cUnits, Code.frames, Code.isFrame]
private theorem Room.make {k : Nat} {A : Around} (r : Room (k + 1) A) (C : Addr) (us : List Value) (kw : List (Str × Value)) : Room k (A.under (.builtin "type.__call__" ⟨.ref C :: us, kw⟩)) :=
  ⟨r.hd, by have := r.dp; rw [make_depth]; omega, by have := r.un; rw [make_units]; omega⟩
private theorem Room.depth {k : Nat} {A : Around} (r : Room k A) : A.depth < recursionLimit := by have := r.dp; omega
private theorem Room.units {k : Nat} {A : Around} (r : Room k A) : A.units + 64 < cLine := by have := r.un; omega
noncomputable def tNil : TA := fun _ H Q => Q [] H
noncomputable def tCons (ta : TE) (tr : TA) : TA := fun σ H Q => ta σ H fun x H1 => tr σ H1 fun xs H2 => Q (x :: xs) H2
section
variable {X : Cx} {e : Expr} {es : List Expr} {te : TE} {t : TA} {pos : Pos}
private theorem pa_nil : PA X [] tNil := fun _ _ _ _ H Q I h => Calls.spliced_nil ⟨[], H, I, .nil, h⟩
private theorem pa_cons (ha : PE X e te) (hr : PA X es t) (hs : autoParam (starEach (e :: es) X.env = (false, eval e X.env) :: starEach es X.env) _root_.zt2) : PA X (e :: es) (tCons te t) := by
  intro pos pins s σ H Q I h
  rw [hs]
  show wpAny _ _ (spliced ((false, eval e X.env) :: backTo pos (starEach es X.env))) _ _ s
  refine Calls.spliced_cons (thn (ha pins s σ H _ I h) fun u s1 zq9 => ?_)
  obtain ⟨x, H1, I1, r1, q1⟩ := zq9
  exact thn (hr pos pins s1 σ H1 _ I1 q1) fun us s2 ⟨xs, H2, I2, r2, q2⟩ => ⟨x :: xs, H2, I2, .cons r1 r2, q2⟩

noncomputable def tTup (t : TA) : TE := fun σ H Q => t σ H fun xs H1 => xs.length ≤ sizeLine ∧ ∀ p, H1 p = none → Q (.ref p) (upd H1 p (.tup xs))
noncomputable def tLst (t : TA) : TE := fun σ H Q => t σ H fun xs H1 => xs.length ≤ sizeLine ∧ ∀ p, H1 p = none → Q (.ref p) (upd H1 p (.lst xs))
private theorem pe_tup {x1} (h : PA X es t) : PE X (.Tuple es x1 pos) (tTup t) := by
  intro pins s σ H Q I hq
  refine wpAny_Tuple_spliced (thn (h pos pins s σ H _ I hq) fun us s1 ⟨xs, H1, I1, r, z, q⟩ => ⟨by rw [← r.length]; exact z, ?_⟩)
  have hf : H1 s1.heap.objs.size = none := I1.hok.fresh (Nat.le_refl _)
  refine ⟨.ref s1.heap.objs.size, upd H1 s1.heap.objs.size (.tup xs), I1.laid (t' := s1.toks) (fun b u e => Heap.get?_push_of_some _ e) (Nat.le_refl _) ?_, rfl, q _ hf⟩
  exact ⟨z, us, r, ⟨_, Heap.get?_push_size _ rfl, rfl, _, rfl⟩⟩
private theorem pe_lst (h : PA X es t) : PE X (.List es pos) (tLst t) := by
  intro pins s σ H Q I hq
  refine wpAny_List_spliced (thn (h pos pins s σ H _ I hq) fun us s1 ⟨xs, H1, I1, r, z, q⟩ => ⟨by rw [← r.length]; exact z, ?_⟩)
  have hf : H1 s1.heap.objs.size = none := I1.hok.fresh (Nat.le_refl _)
  refine ⟨.ref s1.heap.objs.size, upd H1 s1.heap.objs.size (.lst xs), I1.laid (t' := s1.toks) (fun b u e => Heap.get?_push_of_some _ e) (Nat.le_refl _) ?_, rfl, q _ hf⟩
  exact ⟨z, us, 0, r, Heap.get?_push_size _ rfl⟩
end

noncomputable abbrev Sp := List V → Hp → VK → XK → Prop
noncomputable abbrev CXT := List Env → Hp → Shared → XK → Value → Shared → Prop

structure Env0 (P : Program) (w : World) (K : PySem.W.Frag) (mg : Str → Option Value) (base : Heap) (A : Around) (outer : List Env) (s : Shared) (H : Hp) : Prop where
  frames : A.frames = some outer
  mod : Mod K mg base
  bs : ∀ b o, base.get? b = some o → s.heap.get? b = some o ∧ H b = none
  bsz : base.objs.size ≤ s.heap.objs.size
  funs : s.heap.FunFrames base outer
  frf : ∀ b ∈ frs outer, H b = none
  hok : HOk P w H s.heap
  bare : AllBare s.gens
noncomputable def CE (outer : List Env) (P : Program) (w : World) (H : Hp) (s : Shared) (Q : VK) (u : Value) (s' : Shared) : Prop :=
  ∃ v H', s'.os = s.os ∧ AllBare s'.gens ∧ Un (frs outer) [] H H' s.heap s'.heap ∧ HOk P w H' s'.heap ∧ RelV v u ∧ Q v H'
noncomputable def CR (CX : CXT) (outer : List Env) (P : Program) (w : World) (H : Hp) (s : Shared) (Q : VK) (E : XK) (r : Result) (s' : Shared) : Prop :=
  match r with
  | .ok (.ret u) => CE outer P w H s Q u s'
  | .ok _ => False
  | .error e => CX outer H s E e s'
structure FnOk (P : Program) (w : World) (K : PySem.W.Frag) (mg : Str → Option Value) (base : Heap) (CX : CXT) (k : Nat) (f : Addr) (fd : FuncData) (ps : List Str) (sp : Sp) : Prop where
  len : ∀ vs H Q E, sp vs H Q E → vs.length = ps.length
  run : ∀ (A : Around) (outer : List Env) (s : Shared) (H : Hp) (args : Args) (us : List Value) (vs : List V) (Q : VK) (E : XK), Room k A → Env0 P w K mg base A outer s H → BindsTo s fd args (ps.zip us) → Vals vs us → sp vs H Q E →
    codeAny (model P w) A (.call (.ref f) args) (CR CX outer P w H s Q E) s
private theorem FnOk.mono {P : Program} {w : World} {K : PySem.W.Frag} {mg : Str → Option Value} {base : Heap} {CX : CXT} {j k : Nat} {f : Addr} {fd : FuncData} {ps : List Str} {sp : Sp} (F : FnOk P w K mg base CX j f fd ps sp) (h : j ≤ k) :
    FnOk P w K mg base CX k f fd ps sp := ⟨F.len, fun A outer s H args us vs Q E hr => F.run A outer s H args us vs Q E (hr.mono h)⟩
private theorem Env0.make {P : Program} {w : World} {K : PySem.W.Frag} {mg : Str → Option Value} {base : Heap} {A : Around} {outer : List Env} {s : Shared} {H : Hp} (e : Env0 P w K mg base A outer s H) (C : Addr) (us : List Value) (kw : List (Str × Value)) :
    Env0 P w K mg base (A.under (.builtin "type.__call__" ⟨.ref C :: us, kw⟩)) outer s H := ⟨by first | exact e.frames | (simpa [Around.under, Code.envs, Code.isFrame, pushEnvs] using e.frames), e.mod, e.bs, e.bsz, e.funs, e.frf, e.hok, e.bare⟩
section
variable {X : Cx} {pins : List (Addr × Obj)} {σ : St} {H : Hp} {s s' : Shared}
private theorem Inv.env0 (I : Inv X pins σ H s) : Env0 X.prog X.w X.K X.mg X.base X.A X.stack s H :=
  ⟨I.ok.frames, I.ok.mod, I.bs, Nat.le_trans I.ok.bsz I.sz, I.stack, I.stkFree, I.hok, I.bare⟩
private theorem Inv.after {Q : VK} {u : Value} (I : Inv X pins σ H s) (h : CE X.stack X.prog X.w H s Q u s') : EP X pins σ Q u s' := by
  obtain ⟨v, H', os, bare, un, hok, r, q⟩ := h
  obtain ⟨hh, g, d, t, os'⟩ := s'
  obtain rfl : os' = s.os := os
  exact ⟨v, H', I.call (h' := hh) (g' := g) (d' := d) (t' := t) (ch := []) un hok bare (fun b z => absurd z (by simp)), r, q⟩
end

noncomputable def tCall (sp : Sp) (dvs : List V) (E : XK) (t : TA) : TE := fun σ H Q => t σ H fun vs H1 => sp (vs ++ dvs) H1 Q E
noncomputable def Binds (K : PySem.W.Frag) (fd : FuncData) (ps : List Str) (ds : List Value) : Prop :=
  ∀ (s : Shared) (us : List Value), K.In s.heap → (us ++ ds).length = ps.length → BindsTo s fd ⟨us, []⟩ (ps.zip (us ++ ds))
private theorem Binds.all {K : PySem.W.Frag} {fd : FuncData} {ps : List Str} (h : ∀ us : List Value, us.length = ps.length → bindArgs fd ⟨us, []⟩ = pure (ps.zip us)) : Binds K fd ps [] := fun s us _ hl => by
  rw [List.append_nil] at hl ⊢
  exact .of_eq (h us hl)

noncomputable def Passes (CX : CXT) (X : Cx) (E : XK) : Prop := ∀ (pins : List (Addr × Obj)) (σ : St) (H : Hp) (s : Shared) (e : Value) (s' : Shared), Inv X pins σ H s → CX X.stack H s E e s' → X.xe e s'

section
variable {X : Cx} {CX : CXT} {k : Nat} {f C : Addr} {fd : FuncData} {ps : List Str} {sp : Sp} {dvs : List V} {ds : List Value} {E : XK} {x m : Str} {p pos apos : Pos} {e o : Expr} {es : List Expr} {ta : TE} {t : TA}

private theorem run_fn {pins : List (Addr × Obj)} {σ : St} {H : Hp} {s : Shared} {Q : VK} {us : List Value} {vs : List V} (F : FnOk X.prog X.w X.K X.mg X.base CX k f fd ps sp) (hr : Room k X.A) (hb : Binds X.K fd ps ds) (hd : Vals dvs ds) (hx : Passes CX X E)
    (I : Inv X pins σ H s) (r : Vals vs us) (h : sp (vs ++ dvs) H Q E) : wpAny (model X.prog X.w) X.A (call (.ref f) us) (EP X pins σ Q) X.xe s := by
  have r2 : Vals (vs ++ dvs) (us ++ ds) := r.append hd
  have hl : (us ++ ds).length = ps.length := by rw [← r2.length]; exact F.len _ _ _ _ h
  refine wpAny_call (codeAny_mono (F.run X.A X.stack s H ⟨us, []⟩ (us ++ ds) (vs ++ dvs) Q E hr I.env0 (hb s us I.kIn hl) r2 h) fun r s' hq => ?_)
  cases r with
  | error e => exact hx pins σ H s e s' I hq
  | ok fl =>
    cases fl with
    | ret u => exact I.after hq
    | next => exact False.elim hq
    | brk => exact False.elim hq
    | cont => exact False.elim hq

private theorem pe_call (F : FnOk X.prog X.w X.K X.mg X.base CX k f fd ps sp) (hr : Room k X.A) (hg : Gl X x) (hm : X.mg x = some (.ref f)) (hk : PySem.W.keepIn X.K (.ref f) = true) (hb : Binds X.K fd ps ds) (hd : Vals dvs ds) (hx : Passes CX X E)
    (ha : PA X (e :: es) t) (hdb : autoParam ((x == ("__debug__" : Str)) = false) _root_.zt1) (he : autoParam (starEach (e :: es) X.env = (false, eval e X.env) :: starEach es X.env) _root_.zt2) (hpl : autoParam ((backTo pos (starEach es X.env)).any (·.1) = false) _root_.zt2) :
    PE X (.Call (.Name x p) (e :: es) [] pos) (tCall sp dvs E t) := by
  intro pins s σ H Q I h
  refine wpAny_Call_Name_kw (ld_glob I hg hm ?_ hdb)
  refine PySem.W.callWith_K (h₀ := X.base) I.ok.mod.kin hk (thn (ha pos pins s σ H _ I h) fun us s1 ⟨vs, H1, I1, r, q⟩ => ⟨I1.kIn, ?_⟩) he hpl
  exact run_fn F hr hb hd hx I1 r q
end

section
variable {X : Cx} {CX : CXT} {k : Nat} {f C : Addr} {fd : FuncData} {ps ks : List Str} {sp : Sp} {E : XK} {x m : Str} {p pos apos kpos : Pos} {e o : Expr} {es : List Expr} {kws : List Keyword} {te ta : TE} {t tk : TA} {nm : Option Str}
variable {g : List Value → List Value → List Value} {gV : List V → List V → List V}
end

structure FnScope (N P : List Str) (sc : Scope) : Prop where
  kind : sc.kind = .function
  co : sc.isCoroutine = false
  gen : sc.isGenerator = false
  nd : N.Nodup
  pre : N.take P.length = P
  par : ∀ x ∈ P, sc.names.lookup x = some .local ∨ sc.names.lookup x = some .cell
  nofree : ∀ y ∈ sc.names, y.2 ≠ .free

private theorem bindL_out {kindOf : Str → Option NameKind} {x : Str} : ∀ {binds : List (Str × Value)} {m : Str → Option Value}, (∀ v, (x, v) ∉ binds) → bindL kindOf binds m x = m x
  | [], _, _ => rfl
  | (n, v) :: r, m, h => by
    unfold bindL
    rw [bindL_out fun w hw => h w (List.mem_cons_of_mem _ hw)]
    split
    · have : x ≠ n := by rintro rfl; exact h v List.mem_cons_self
      simp [this]
    · rfl
private theorem bindC_out {kindOf : Str → Option NameKind} {x : Str} : ∀ {binds : List (Str × Value)} {m : Str → Option Value}, (∀ v, (x, v) ∉ binds) → bindC kindOf binds m x = m x
  | [], _, _ => rfl
  | (n, v) :: r, m, h => by
    unfold bindC
    rw [bindC_out fun w hw => h w (List.mem_cons_of_mem _ hw)]
    split
    · rfl
    · have : x ≠ n := by rintro rfl; exact h v List.mem_cons_self
      simp [this]
private theorem bindL_get {kindOf : Str → Option NameKind} {x : Str} {v : Value} : ∀ {P : List Str} {vs : List Value} {i : Nat} {m : Str → Option Value}, P.Nodup → P[i]? = some x → vs[i]? = some v → kindOf x = some .local →
    bindL kindOf (P.zip vs) m x = some v
  | [], _, _, _, _, h, _, _ => by simp at h
  | _ :: _, [], _, _, _, _, h, _ => by simp at h
  | p :: P, w :: vs, 0, m, nd, h1, h2, hk => by
    simp at h1 h2; subst h1; subst h2
    show bindL kindOf ((p, w) :: P.zip vs) m p = _
    unfold bindL
    rw [bindL_out fun v hv => (List.nodup_cons.mp nd).1 (List.of_mem_zip hv).1, if_pos hk]
    simp
  | p :: P, w :: vs, i + 1, m, nd, h1, h2, hk => by
    show bindL kindOf ((p, w) :: P.zip vs) m x = _
    unfold bindL
    exact bindL_get (i := i) (List.nodup_cons.mp nd).2 (by simpa using h1) (by simpa using h2) hk
private theorem bindC_get {kindOf : Str → Option NameKind} {x : Str} {v : Value} : ∀ {P : List Str} {vs : List Value} {i : Nat} {m : Str → Option Value}, P.Nodup → P[i]? = some x → vs[i]? = some v → kindOf x ≠ some .local →
    bindC kindOf (P.zip vs) m x = some v
  | [], _, _, _, _, h, _, _ => by simp at h
  | _ :: _, [], _, _, _, _, h, _ => by simp at h
  | p :: P, w :: vs, 0, m, nd, h1, h2, hk => by
    simp at h1 h2; subst h1; subst h2
    show bindC kindOf ((p, w) :: P.zip vs) m p = _
    unfold bindC
    rw [bindC_out fun v hv => (List.nodup_cons.mp nd).1 (List.of_mem_zip hv).1, if_neg hk]
    simp
  | p :: P, w :: vs, i + 1, m, nd, h1, h2, hk => by
    show bindC kindOf ((p, w) :: P.zip vs) m x = _
    unfold bindC
    exact bindC_get (i := i) (List.nodup_cons.mp nd).2 (by simpa using h1) (by simpa using h2) hk

noncomputable def start (N : List Str) (vs : List V) : St := vs.map some ++ List.replicate (N.length - vs.length) none

noncomputable def cxOf (CX : CXT) (P : Program) (w : World) (K : PySem.W.Frag) (mg : Str → Option Value) (base : Heap) (N : List Str) (qual : Str) (scope : Scope) (f : Addr) (cd : Value) (A : Around) (outer : List Env) (s : Shared) (H : Hp) (E : XK) : Cx where
  prog := P
  w := w
  K := K
  mg := mg
  base := base
  A := A.deeper (envOfC qual scope s.heap.objs.size f cd)
  N := N
  s₀ := s
  H₀ := H
  env := envOfC qual scope s.heap.objs.size f cd
  outer := outer
  stack := envOfC qual scope s.heap.objs.size f cd :: outer
  ex := []
  calm := true
  fn := fun _ => true
  pn := []
  xe := fun e s' => wpAny (model P w) (A.deeper (envOfC qual scope s.heap.objs.size f cd)) (leaving (envOfC qual scope s.heap.objs.size f cd) e) (fun _ s'' => CX outer H s E e s'') (fun e' s'' => CX outer H s E e' s'') s'

private theorem cell_has {sc : Scope} {n : Nat} {x : Str} (h : sc.names.lookup x = some .cell) : ∃ c, (cellsFrom n sc.names []).lookup x = some c := by
  have q := PySem.W.cellsFrom_some sc.names n [] (.inl h)
  exact Option.isSome_iff_exists.mp q

private theorem inv_start {CX : CXT} {P : Program} {w : World} {K : PySem.W.Frag} {mg : Str → Option Value} {base : Heap} {N ps : List Str} {qual : Str} {scope : Scope} {f : Addr} {cd : Value} {A : Around} {outer : List Env} {s s1 : Shared} {H : Hp} {E : XK} {us : List Value} {vs : List V}
    (S : FnScope N ps scope) (hd : A.handled = none) (e0 : Env0 P w K mg base A outer s H) (hl : vs.length = ps.length) (r : Vals vs us)
    (x : InCallC s s.heap.objs.size (bindL (envOfC qual scope s.heap.objs.size f cd).kindOf (ps.zip us) fun _ => none) (cellsFrom (s.heap.objs.size + 1) scope.names []) (bindC (envOfC qual scope s.heap.objs.size f cd).kindOf (ps.zip us) fun _ => none) s1) :
    Inv (cxOf CX P w K mg base N qual scope f cd A outer s H E) [] (start N vs) H s1 := by
  have hpl : ps.length ≤ N.length := by have := congrArg List.length S.pre; rw [List.length_take] at this; omega
  obtain ⟨h1, tk, rfl, hk⟩ := x.done
  have noA : ∀ b : Addr, b ∉ (cxOf CX P w K mg base N qual scope f cd A outer s H E).ex := fun b z => absurd (show b ∈ ([] : List Addr) from z) (by simp)
  refine ⟨⟨e0.mod, S.kind, rfl, rfl, Nat.le_refl _, fun y z c h1 h2 => ?_, fun y hy => ?_, fun y c _ h => ?_, fun _ => hd, Around.frames_deeper e0.frames, .inr ⟨rfl, rfl⟩, fun b z => absurd z (noA b), e0.bs, e0.bsz, fun b _ _ => noA b, fun b z => absurd z (noA b), e0.funs, e0.frf⟩,
    rfl, e0.bare, Un.kept hk, ⟨_, x.toInCall.ns, fun i y v h1 h2 h3 => ?_⟩, fun y c h => ⟨_, x.cell y c h⟩, e0.hok.fresh (Nat.le_refl _), fun y c h => ?_, fun p hp => absurd (show p ∈ ([] : List (Addr × Obj)) from hp) (by simp), e0.hok.kept hk, ?_⟩
  · exact name_of_addr x.apart (PySem.mem_of_lookup h1) (PySem.mem_of_lookup h2)
  · have hy : scope.names.lookup y = some .cell ∨ scope.names.lookup y = some .free := hy
    rcases hy with hy | hy
    · exact cell_has hy
    · exact absurd rfl (S.nofree _ (PySem.mem_of_lookup hy))
  · exact Nat.le_of_lt (x.above y c (PySem.mem_of_lookup h))
  · have hi : i < vs.length := by
      unfold start at h2
      by_cases hi : i < vs.length
      · exact hi
      · rw [List.getElem?_append_right (by simpa using hi)] at h2
        rw [List.getElem?_replicate] at h2
        split at h2 <;> cases h2
    have ha : vs[i]? = some v := by
      unfold start at h2
      rw [List.getElem?_append_left (by simpa using hi), List.getElem?_map] at h2
      cases e : vs[i]? with
      | none => rw [e] at h2; cases h2
      | some a => rw [e] at h2; cases h2; rfl
    obtain ⟨u, hu, rv⟩ := r.get ha
    have hp : ps[i]? = some y := by
      rw [← S.pre, List.getElem?_take_of_lt (by omega)]; exact h1
    have ndP : ps.Nodup := by rw [← S.pre]; exact S.nd.sublist (List.take_sublist _ _)
    refine ⟨u, rv, ?_⟩
    rcases S.par y (List.mem_of_getElem? hp) with k | k
    · exact .inl ⟨k, bindL_get ndP hp hu k⟩
    · obtain ⟨c, e⟩ := cell_has (n := s.heap.objs.size + 1) k
      refine .inr ⟨.inl k, c, e, ?_⟩
      have q := x.cell y c e
      rw [bindC_get ndP hp hu (by show scope.names.lookup y ≠ _; rw [k]; decide)] at q
      exact q
  · exact e0.hok.fresh (Nat.le_of_lt (x.above y c (PySem.mem_of_lookup h)))
  · unfold start
    show _ = N.length
    rw [List.length_append, List.length_map, List.length_replicate]
    omega

private theorem fn_of {CX : CXT} {P : Program} {w : World} {K : PySem.W.Frag} {mg : Str → Option Value} {base : Heap} {k : Nat} {f : Addr} {name qual : Str} {params : Arguments} {body : List Stmt} {scope : Scope} {dV kV doc pm cdv ct oc : Value} {an od : Option Addr}
    {osl : Array (Option Value)} {N ps : List Str} {sp : Sp} (lk : K.lookup f = some ⟨oc, od, .func (PySem.W.fnOf name qual params body scope dV kV doc pm an cdv ct), osl⟩) (hcd : PySem.W.codeIn K cdv qual = true) (S : FnScope N ps scope)
    (len : ∀ vs H Q E, sp vs H Q E → vs.length = ps.length)
    (hbody : ∀ (A : Around) (outer : List Env) (s : Shared) (H : Hp) (vs : List V) (Q : VK) (E : XK), Room k (A.deeper (envOfC qual scope s.heap.objs.size f cdv)) → sp vs H Q E →
      ∃ t, PSs (cxOf CX P w K mg base N qual scope f cdv A outer s H E) body t ∧ t { nx := fun _ H' => Q .non H', rt := Q } (start N vs) H) :
    FnOk P w K mg base CX (k + 1) f (PySem.W.fnOf name qual params body scope dV kV doc pm an cdv ct) ps sp := by
  refine ⟨len, fun A outer s H args us vs Q E hr e0 hb r hsp => ?_⟩
  have hl := len _ _ _ _ hsp
  have KX : K.In s.heap := e0.mod.kin.keeps fun b o e => (e0.bs b o e).1
  have lim : s.heap.NoLimit := e0.mod.nolimit.keeps fun b o e => (e0.bs b o e).1
  have hkind : ∀ y ∈ ps.zip us, scope.names.lookup y.1 = some .local ∨ (scope.names.lookup y.1 = some .cell ∧ ((cellsFrom (s.heap.objs.size + 1) scope.names []).lookup y.1).isSome = true) := fun ⟨n, v⟩ hy => by
    rcases S.par n (List.of_mem_zip hy).1 with q | q
    · exact .inl q
    · exact .inr ⟨q, PySem.W.cellsFrom_some _ _ _ (.inl q)⟩
  refine codeAny_call_function hr.depth (KX _ _ lk) rfl S.co S.gen rfl (PySem.W.codeRec_of KX hcd) (hb _ _ _ _ ?_)
  refine wpAny_newFunctionEnv_cells S.kind hkind fun env he s1 x => ?_
  subst he
  refine ⟨lim.keeps x.toInCall.keep, codeAny_func ?_⟩
  obtain ⟨t, ht, hq⟩ := hbody A outer s H vs Q E (hr.deeper _) hsp
  have I : Inv (cxOf CX P w K mg base N qual scope f cdv A outer s H E) [] (start N vs) H s1 := inv_start S hr.hd e0 hl r x
  refine wpAny_mono (ht [] s1 (start N vs) H _ I hq) (fun fl s' hs => ?_) fun e s' hs => hs
  have fin : ∀ {σ' : St} {H' : Hp} {v : V} {u : Value}, Inv (cxOf CX P w K mg base N qual scope f cdv A outer s H E) [] σ' H' s' → RelV v u → Q v H' → CE outer P w H s Q u s' :=
    fun {σ' H' v u} J rv q => ⟨v, H', J.os, J.bare, J.base, J.hok, rv, q⟩
  cases fl with
  | ret u =>
    obtain ⟨v, σ', H', J, rv, q⟩ := hs
    exact fin J rv q
  | next =>
    obtain ⟨σ', H', J, q⟩ := hs
    exact fin (v := V.non) (u := Value.none) J rfl q
  | brk =>
    obtain ⟨_, _, _, q⟩ := hs
    exact False.elim q
  | cont =>
    obtain ⟨_, _, _, q⟩ := hs
    exact False.elim q
end L2

namespace L2
open PySem PySem.Spec PyProof.Rows
section
variable {X : Cx} {x : Str} {p pos : Pos} {e : Expr} {es : List Expr} {t : TA} {id T : String} {r : List V → Hp → VK → Prop}

noncomputable def tCB (r : List V → Hp → VK → Prop) (t : TA) : TE := fun σ H Q => t σ H fun vs H1 => r vs H1 Q
private theorem pe_callB (hc : CallR X (.builtin id) r) (hg : Gl X x) (hm : X.mg x = none) (hv : bootBuiltins x = some (.builtin id)) (ha : PA X (e :: es) t) (hn : autoParam (x ≠ "__name__") _root_.zt1) (hdb : autoParam ((x == ("__debug__" : Str)) = false) _root_.zt1)
    (he : autoParam (starEach (e :: es) X.env = (false, eval e X.env) :: starEach es X.env) _root_.zt2) (hpl : autoParam ((backTo pos (starEach es X.env)).any (·.1) = false) _root_.zt2) : PE X (.Call (.Name x p) (e :: es) [] pos) (tCB r t) := by
  intro pins s σ H Q I h
  refine wpAny_Call_Name_kw (ld_blt I hg hm hv ?_ hn hdb)
  exact PyProof.Rows.callWith_builtin1 (thn (ha pos pins s σ H _ I h) fun us s1 ⟨vs, H1, I1, r1, q1⟩ => hc pins s1 σ H1 vs us Q I1 r1 q1) he hpl
end
end L2

namespace HT
open PySem PyProof.Rows

section
open PySem.SeqAt
open PySem.AutoSeq1 (wpAny_loadPart')
open PySem.MeetsSeq PySem.MeetsSeq2 PySem.MeetsSeq3

end

section
variable {prog : Program} {w : World} {A : Around} {E : Value → Shared → Prop} {s : Shared}

noncomputable def sIx (n d : Nat) : Option Int → Nat
  | none => d
  | some v => if v < 0 then (v + (n : Int)).toNat else min v.toNat n
end
end HT

namespace L2
open PySem PySem.Spec PyProof.Rows

noncomputable abbrev TO := St → Hp → (Option Int → Hp → Prop) → Prop
noncomputable def PO (X : Cx) (e : Option Expr) (t : TO) : Prop :=
  ∀ (pins : List (Addr × Obj)) (s : Shared) (σ : St) (H : Hp) (Q : Option Int → Hp → Prop), Inv X pins σ H s → t σ H Q →
    wpAny (model X.prog X.w) X.A (evalPart e X.env) (fun u s' => ∃ o H', Inv X pins σ H' s' ∧ IsPart u o ∧ Q o H') X.xe s
noncomputable def tNoPart : TO := fun _ H Q => Q none H
noncomputable def tPart (t : TE) : TO := fun σ H Q => t σ H fun x H1 => ∃ i, x = .int i ∧ Q (some i) H1

section
variable {X : Cx} {e : Expr} {te : TE} {lo hi : Option Expr} {tl th : TO} {pos p2 : Pos}

private theorem po_none : PO X none tNoPart := by
  intro pins s σ H Q I h
  rw [evalPart_none]
  exact wpAny_pure ⟨none, H, I, .none, h⟩
private theorem po_some (h : PE X e te) : PO X (some e) (tPart te) := by
  intro pins s σ H Q I hw
  rw [evalPart_some]
  refine thn (h pins s σ H _ I hw) fun u s1 zq9 => ?_
  obtain ⟨x, H1, I1, r1, q1⟩ := zq9
  obtain ⟨i, rfl, q⟩ := q1
  obtain ⟨t, rfl⟩ := r1
  exact ⟨some i, H1, I1, .int i t, q⟩

noncomputable def SlR (X : Cx) (r : V → Option Int → Option Int → Hp → VK → Prop) : Prop :=
  ∀ (pins : List (Addr × Obj)) (s : Shared) (σ : St) (H : Hp) (x : V) (v vl vu : Value) (lo hi : Option Int) (sl : Addr) (Q : VK), Inv X pins σ H s → RelV x v → s.heap.IsSliceOf sl vl vu .none → IsPart vl lo → IsPart vu hi → r x lo hi H Q →
    ∃ T id, typeLookup (.type T) "__getitem__" = pure (some (.builtin id)) ∧ s.TypeIs v T ∧ wpAny (model X.prog X.w) X.A (getItem v (.ref sl)) (EP X pins σ Q) X.xe s
noncomputable def tSl (r : V → Option Int → Option Int → Hp → VK → Prop) (te : TE) (tl th : TO) : TE := fun σ H Q => te σ H fun x H1 => tl σ H1 fun l H2 => th σ H2 fun u H3 => r x l u H3 Q
private theorem pe_slice {r : V → Option Int → Option Int → Hp → VK → Prop} (hr : SlR X r) (he : PE X e te) (hl : PO X lo tl) (hu : PO X hi th) : PE X (.Subscript e (.Slice lo hi none p2) pos) (tSl r te tl th) := by
  intro pins s σ H Q I h
  refine Subscript_ (thn (he pins s σ H _ I h) fun v s1 zq9 => ?_)
  obtain ⟨x, H1, I1, r1, q1⟩ := zq9
  refine wpAny_Slice (thn (hl pins s1 σ H1 _ I1 q1) fun vl s2 ⟨l, H2, I2, pl, q2⟩ => thn (hu pins s2 σ H2 _ I2 q2) fun vu s3 zq9 => ?_)
  obtain ⟨u, H3, I3, pu, q3⟩ := zq9
  rw [evalPart_none]
  refine wpAny_pure ?_
  have I4 : Inv X pins σ H3 { s3 with heap := s3.heap.push { cls := .type "slice", data := .fields #[vl, vu, .none] } } := I3.kept (t' := s3.toks) fun b ob q => Heap.get?_push_of_some _ q
  obtain ⟨T, id, hT, ht, hg⟩ := hr pins { s3 with heap := s3.heap.push { cls := .type "slice", data := .fields #[vl, vu, .none] } } σ H3 x v vl vu l u s3.heap.objs.size Q I4 r1 (Heap.IsSliceOf.new ..) pl pu q3
  show wpAny (model X.prog X.w) X.A (subscriptTail e (.Slice lo hi none p2) v (.ref s3.heap.objs.size)) (EP X pins σ Q) X.xe { s3 with heap := s3.heap.push { cls := .type "slice", data := .fields #[vl, vu, .none] } }
  exact tail_any (ops := [.ref s3.heap.objs.size, v]) ht hT hg (by with_unfolding_all rfl)

noncomputable def cutV (xs : List V) (lo hi : Option Int) : List V := (xs.drop (HT.sIx xs.length 0 lo)).take (HT.sIx xs.length xs.length hi - HT.sIx xs.length 0 lo)
private theorem cutV_length (xs : List V) (lo hi : Option Int) : (cutV xs lo hi).length ≤ xs.length := by
  unfold cutV
  rw [List.length_take, List.length_drop]
  omega
end
end L2

namespace L2
open PySem PySem.Spec PyProof.Rows

noncomputable def ixN (n : Nat) (i : Int) : Option Nat := if 0 ≤ i then (if i < n then some i.toNat else none) else if -(n : Int) ≤ i then some (i + n).toNat else none
noncomputable def atI {α : Type} (xs : List α) (i : Int) : Option α := (ixN xs.length i).bind fun j => xs[j]?
private theorem ixN_seq {n : Nat} {i : Int} {j : Nat} (h : ixN n i = some j) : seqIndex? i n = some j ∧ j < n ∧ -(n : Int) ≤ i ∧ i < n := by
  unfold ixN at h
  by_cases h0 : 0 ≤ i
  · rw [if_pos h0] at h
    by_cases h1 : i < n
    · rw [if_pos h1] at h
      have e : i.toNat = j := Option.some.inj h
      exact ⟨by rw [seqIndex_of h0 h1, e], by omega, by omega, h1⟩
    · rw [if_neg h1] at h; cases h
  · rw [if_neg h0] at h
    by_cases h1 : -(n : Int) ≤ i
    · rw [if_pos h1] at h
      have e : (i + n).toNat = j := Option.some.inj h
      exact ⟨by rw [seqIndex_neg (by omega) h1, e], by omega, h1, by omega⟩
    · rw [if_neg h1] at h; cases h
private theorem atI_get {α : Type} {xs : List α} {i : Int} {v : α} (h : atI xs i = some v) : ∃ j, seqIndex? i xs.length = some j ∧ xs[j]? = some v ∧ j < xs.length ∧ -(xs.length : Int) ≤ i ∧ i < xs.length := by
  unfold atI at h
  cases e : ixN xs.length i with
  | none => rw [e] at h; cases h
  | some j =>
    rw [e] at h
    obtain ⟨h1, h2, h3, h4⟩ := ixN_seq e
    exact ⟨j, h1, h, h2, h3, h4⟩
private theorem atI_nat {α : Type} {xs : List α} {j : Nat} {v : α} (h : xs[j]? = some v) : atI xs (j : Int) = some v := by
  have hj : j < xs.length := (List.getElem?_eq_some_iff.mp h).1
  have e : ixN xs.length (j : Int) = some j := by
    unfold ixN
    rw [if_pos (by omega), if_pos (by omega)]; simp
  unfold atI; rw [e]; exact h
noncomputable def PlainIx (b : Expr) : Prop := ∀ o i, subscripted b false o i = operate [o, i] (getItem o i)
noncomputable def IxR (X : Cx) (r : R2) : Prop :=
  ∀ (value slice : Expr) (pins : List (Addr × Obj)) (s : Shared) (σ : St) (H : Hp) (x y : V) (v u : Value) (Q : VK), Inv X pins σ H s → RelV x v → RelV y u → r x y H Q →
    subscripted slice false v u = operate [v, u] (getItem v u) → wpAny (model X.prog X.w) X.A (subscriptTail value slice v u) (EP X pins σ Q) X.xe s
noncomputable def MtR (X : Cx) (id : String) (r : V → List V → Hp → VK → Prop) : Prop :=
  ∀ (pins : List (Addr × Obj)) (s : Shared) (σ : St) (H : Hp) (x : V) (xs : List V) (v : Value) (us : List Value) (Q : VK), Inv X pins σ H s → RelV x v → Vals xs us → r x xs H Q →
    wpAny (model X.prog X.w) X.A (call (.builtin id) (v :: us)) (EP X pins σ Q) X.xe s
section
variable {X : Cx} {a b : Expr} {ta tb : TE} {pos : Pos}
private theorem pe_ix {r : R2} (hr : IxR X r) (ha : PE X a ta) (hb : PE X b tb) (hs : PlainIx b) : PE X (.Subscript a b pos) (tOp r ta tb) := by
  intro pins s σ H Q I h
  exact Subscript_ (binT ha hb I h fun v u s2 x y H2 I2 rx ry q => hr a b pins s2 σ H2 x y v u Q I2 rx ry q (hs _ _))

noncomputable def rIxL (K : PySem.W.Frag) : R2 := fun x y H Q => ∃ p xs i v, x = .ref p ∧ y = .int i ∧ SqL K H p xs ∧ atI xs i = some v ∧ Q v H
noncomputable def rIxT (K : PySem.W.Frag) : R2 := fun x y H Q => ∃ p xs i v, x = .ref p ∧ y = .int i ∧ SqT K H p xs ∧ atI xs i = some v ∧ Q v H
noncomputable def rIxS : R2 := fun x y H Q => ∃ z i c, x = .str z ∧ y = .int i ∧ z.length ≤ sizeLine ∧ atI z.cps.toList i = some c ∧ Q (.str ⟨#[c]⟩) H
private theorem ix_list : IxR X (rIxL X.K) := by
  intro value slice pins s σ H x y v u Q I rx ry h hs
  obtain ⟨p, xs, i, z, rfl, rfl, hq, he, q⟩ := h
  cases rx
  obtain ⟨t, rfl⟩ := ry
  obtain ⟨its, r, pl, hz⟩ := I.list hq
  obtain ⟨j, h1, h2, h3, h4, h5⟩ := atI_get he
  obtain ⟨w, ew, rw'⟩ := r.get h2
  have hl := r.length
  have hn := line63
  have fin : EP X pins σ Q w s := ⟨z, H, I, rw', q⟩
  by_cases h0 : 0 ≤ i
  · have hj : i.toNat = j := by
      rw [seqIndex_of h0 h5] at h1
      exact Option.some.inj h1
    exact item_listR pl.isList h0 (by omega) (by rw [hj]; simpa using ew) fin hs
  · have hj : (i + (its.toArray.size : Int)).toNat = j := by
      rw [seqIndex_neg (by omega) h4] at h1
      rw [List.size_toArray, ← hl]
      exact Option.some.inj h1
    exact subscriptTail_builtinR (x := w) pl.isList.typeIs slot_list_getitem.lookup
      (wpAny_getItem_list_neg (Q := fun r s' => r = w ∧ EP X pins σ Q r s') pl.isList (by omega) (by rw [List.size_toArray] <;> omega) (by omega) (by rw [hj]; simpa using ew) ⟨rfl, fin⟩) hs
private theorem ix_tup : IxR X (rIxT X.K) := by
  intro value slice pins s σ H x y v u Q I rx ry h hs
  obtain ⟨p, xs, i, z, rfl, rfl, hq, he, q⟩ := h
  cases rx
  obtain ⟨t, rfl⟩ := ry
  obtain ⟨its, r, pl, hz⟩ := I.tuple hq
  obtain ⟨j, h1, h2, h3, h4, h5⟩ := atI_get he
  obtain ⟨w, ew, rw'⟩ := r.get h2
  have hl := r.length
  have hn := line63
  have fin : EP X pins σ Q w s := ⟨z, H, I, rw', q⟩
  exact subscriptTail_builtinR (x := w) pl.typeIs slot_tuple_getitem.lookup
    (getItem_tuple (j := j) (Q := fun r s' => r = w ∧ EP X pins σ Q r s') pl (by omega) (by omega) (by rw [List.size_toArray, ← hl]; exact h1) (by simpa using ew) ⟨rfl, fin⟩) hs
private theorem ix_str : IxR X rIxS := by
  intro value slice pins s σ H x y v u Q I rx ry h hs
  obtain ⟨z, i, c, rfl, rfl, hz, he, q⟩ := h
  obtain ⟨t, rfl⟩ := rx
  obtain ⟨t', rfl⟩ := ry
  obtain ⟨j, h1, h2, h3, h4, h5⟩ := atI_get he
  have hl : z.cps.toList.length = z.length := by simp [Str.length]
  rw [hl] at h1 h4 h5
  have hn := line63
  exact tail_any (typeIs_str s z t) slot_str_getitem.lookup (getItem_str (c := c) (by
    have e1 : decide (i < -(2 ^ 63 : Int)) = false := decide_eq_false (by omega)
    have e2 : decide (i ≥ 2 ^ 63) = false := decide_eq_false (by omega)
    rw [e1, e2, Bool.or_false]) (by rw [h1]; simpa using h2) ⟨.str ⟨#[c]⟩, H, I.tok _, ⟨_, rfl⟩, q⟩) hs
noncomputable def rIx (K : PySem.W.Frag) : R2 := fun x y H Q => rIxL K x y H Q ∨ rIxT K x y H Q ∨ rIxS x y H Q
private theorem slice_bounds (lo hi : Option Int) (n : Nat) : (sliceBounds lo hi none n).1 = ((HT.sIx n 0 lo : Nat) : Int) ∧ (sliceBounds lo hi none n).2.1 = ((HT.sIx n n hi : Nat) : Int) ∧ (sliceBounds lo hi none n).2.2 = 1 := by
  refine ⟨?_, ?_, rfl⟩
  · cases lo with
    | none => simp [sliceBounds, HT.sIx]
    | some i =>
      simp only [sliceBounds, HT.sIx, Option.getD_none, show (1 : Int) > 0 by decide, if_true]
      by_cases h : i < 0
      · simp only [h, if_true] <;> omega
      · simp only [h, if_false] <;> omega
  · cases hi with
    | none => simp [sliceBounds, HT.sIx]
    | some i =>
      simp only [sliceBounds, HT.sIx, Option.getD_none, show (1 : Int) > 0 by decide, if_true]
      by_cases h : i < 0
      · simp only [h, if_true] <;> omega
      · simp only [h, if_false] <;> omega
private theorem slicePick_cut (its : List Value) (lo hi : Option Int) : slicePick its.toArray lo hi none = ((its.drop (HT.sIx its.length 0 lo)).take (HT.sIx its.length its.length hi - HT.sIx its.length 0 lo)).toArray := by
  obtain ⟨h1, h2, h3⟩ := slice_bounds lo hi its.toArray.size
  unfold slicePick
  rw [h1, h2, h3]
  simp only [sliceRange_one, pick_run, List.size_toArray] <;> rfl
noncomputable def rSlL (K : PySem.W.Frag) : V → Option Int → Option Int → Hp → VK → Prop := fun x lo hi H Q => ∃ a xs, x = .ref a ∧ SqL K H a xs ∧ ∀ p, H p = none → Q (.ref p) (upd H p (.lst (cutV xs lo hi)))
private theorem sl_list : SlR X (rSlL X.K) := by
  intro pins s σ H x v vl vu lo hi sl Q I rx hs pl pu h
  obtain ⟨a, xs, rfl, hx, q⟩ := h
  cases rx
  obtain ⟨its, r, ht, hz⟩ := I.list hx
  have hlen := r.length
  refine ⟨"list", _, slot_list_getitem.lookup, ht.isList.typeIs, ?_⟩
  refine wpAny_getItem_list_slice ht.isList hs pl pu .none (by simp) ?_ (by rw [List.size_toArray] <;> omega)
  rw [slicePick_cut, ← hlen]
  refine ⟨.ref s.heap.objs.size, _, I.laid (t' := s.toks) (o := .lst (cutV xs lo hi)) (fun b ob q => Heap.get?_push_of_some _ q) (Nat.le_refl _) ?_, rfl, q _ (I.hok.fresh (Nat.le_refl _))⟩
  exact ⟨Nat.le_trans (cutV_length xs lo hi) hz, _, 0, (r.drop (HT.sIx xs.length 0 lo)).take (HT.sIx xs.length xs.length hi - HT.sIx xs.length 0 lo), Heap.get?_push_size _ rfl⟩

noncomputable def flatV : V → Bool
  | .non => true
  | .bl _ => true
  | .int _ => true
  | .str _ => true
  | _ => false
noncomputable def eqV : V → V → Bool
  | .non, .non => true
  | .bl a, .bl b => a == b
  | .bl a, .int b => (if a then 1 else 0) == b
  | .int a, .bl b => a == (if b then 1 else 0)
  | .int a, .int b => a == b
  | .str a, .str b => a == b
  | _, _ => false
private theorem eqAt_V {A : Around} {s : Shared} {y x : V} {u v : Value} (ry : RelV y u) (rx : RelV x v) (fy : flatV y = true) (fx : flatV x = true) : SeqAt.EqAt A s u v (eqV y x) := by
  cases y with
  | non =>
    cases ry
    cases x with
    | non => cases rx; exact SeqAt.EqAt.same _
    | bl b => cases rx; exact SeqAt.EqAt.none_bool b
    | int b => obtain ⟨t, rfl⟩ := rx; exact SeqAt.EqAt.none_int b t
    | str b => obtain ⟨t, rfl⟩ := rx; exact SeqAt.EqAt.none_str b t
    | _ => exact absurd (show false = true from fx) Bool.false_ne_true
  | bl a =>
    cases ry
    cases x with
    | non => cases rx; exact SeqAt.EqAt.bool_none a
    | bl b => cases rx; exact SeqAt.EqAt.bool_bool a b
    | int b => obtain ⟨t, rfl⟩ := rx; exact SeqAt.EqAt.bool_int a b t
    | str b => obtain ⟨t, rfl⟩ := rx; exact SeqAt.EqAt.bool_str a b t
    | _ => exact absurd (show false = true from fx) Bool.false_ne_true
  | int a =>
    obtain ⟨t', rfl⟩ := ry
    cases x with
    | non => cases rx; exact SeqAt.EqAt.int_none a t'
    | bl b => cases rx; exact SeqAt.EqAt.int_bool a t' b
    | int b => obtain ⟨t, rfl⟩ := rx; exact SeqAt.EqAt.int_int a t' b t
    | str b => obtain ⟨t, rfl⟩ := rx; exact SeqAt.EqAt.int_str a t' b t
    | _ => exact absurd (show false = true from fx) Bool.false_ne_true
  | str a =>
    obtain ⟨t', rfl⟩ := ry
    cases x with
    | non => cases rx; exact SeqAt.EqAt.str_none a t'
    | bl b => cases rx; exact SeqAt.EqAt.str_bool a t' b
    | int b => obtain ⟨t, rfl⟩ := rx; exact SeqAt.EqAt.str_int a t' b t
    | str b => obtain ⟨t, rfl⟩ := rx; exact SeqAt.EqAt.str_str a t' b t
    | _ => exact absurd (show false = true from fx) Bool.false_ne_true
  | _ => exact absurd (show false = true from fy) Bool.false_ne_true
noncomputable def eqU (x : V) (u : Value) : Bool := match u with
  | .none => eqV .non x
  | .bool b => eqV (.bl b) x
  | .int i _ => eqV (.int i) x
  | .str z _ => eqV (.str z) x
  | _ => false
private theorem eqU_of {x y : V} {u : Value} (r : RelV y u) (f : flatV y = true) : eqU x u = eqV y x := by
  cases y with
  | non => cases r; rfl
  | bl b => cases r; rfl
  | int i => obtain ⟨t, rfl⟩ := r; rfl
  | str z => obtain ⟨t, rfl⟩ := r; rfl
  | _ => exact absurd (show false = true from f) Bool.false_ne_true
private theorem any_eqU {x : V} : ∀ {xs : List V} {us : List Value}, Vals xs us → xs.all flatV = true → us.any (eqU x) = xs.any fun y => eqV y x
  | _, _, .nil, _ => rfl
  | y :: xs, u :: us, .cons r t, f => by
    rw [List.all_cons, Bool.and_eq_true] at f
    rw [List.any_cons, List.any_cons, eqU_of r f.1, any_eqU t f.2]
private theorem mem_eqAt {A : Around} {s : Shared} {x : V} {v : Value} (rx : RelV x v) (fx : flatV x = true) : ∀ {xs : List V} {us : List Value}, Vals xs us → xs.all flatV = true → ∀ u ∈ us, SeqAt.EqAt A s u v (eqU x u)
  | _, _, .nil, _ => fun u hu => by cases hu
  | y :: xs, u :: us, .cons r t, f => fun u' hu => by
    rw [List.all_cons, Bool.and_eq_true] at f
    rcases List.mem_cons.mp hu with rfl | hu
    · rw [eqU_of r f.1]; exact eqAt_V r rx f.1 fx
    · exact mem_eqAt rx fx t f.2 u' hu
noncomputable def inV (x : V) (xs : List V) : Bool := xs.any fun y => eqV y x
noncomputable def rIn (K : PySem.W.Frag) (neg : Bool) : R2 := fun x y H Q => ∃ p xs, y = .ref p ∧ (SqL K H p xs ∨ SqT K H p xs) ∧ flatV x = true ∧ xs.all flatV = true ∧ Q (.bl (if neg then !inV x xs else inV x xs)) H
private theorem op_in_seq : OpR X (compareOp .In) (rIn X.K false) := by
  intro pins s σ H x y v u Q I rx ry h
  obtain ⟨p, xs, rfl, hq, fx, fs, q⟩ := h
  cases ry
  rcases hq with hq | hq
  · obtain ⟨its, r, pl, hz⟩ := I.list hq
    refine SeqAt.in_listAt (eqU x) pl.isList (fun w hw => mem_eqAt rx fx r fs w (by simpa using hw)) ⟨.bl _, H, I, rfl, ?_⟩
    rw [show its.toArray.any (eqU x) = its.any (eqU x) by simp, any_eqU r fs]
    exact q
  · obtain ⟨its, r, pl, hz⟩ := I.tuple hq
    refine SeqAt.in_tupleAt (eqU x) pl (fun w hw => mem_eqAt rx fx r fs w (by simpa using hw)) ⟨.bl _, H, I, rfl, ?_⟩
    rw [show its.toArray.any (eqU x) = its.any (eqU x) by simp, any_eqU r fs]
    exact q
private theorem call_len_seq : CallR X (.builtin "len") (fun xs H Q => ∃ p ys, xs = [.ref p] ∧ (SqL X.K H p ys ∨ SqT X.K H p ys) ∧ Q (.int ys.length) H) := by
  intro pins s σ H xs us Q I r h
  obtain ⟨p, ys, rfl, hq, q⟩ := h
  obtain ⟨u, rfl, rx⟩ := vals1 r
  cases rx
  have hn := line63
  rcases hq with hq | hq
  · obtain ⟨its, r', pl, hz⟩ := I.list hq
    have hlen := r'.length
    exact Calls.call_len_list pl.isList (by simp only [List.size_toArray] <;> omega) ⟨.int ys.length, H, I.tok _, ⟨s.toks + 1, by rw [List.size_toArray, hlen]⟩, q⟩
  · obtain ⟨its, r', pl, hz⟩ := I.tuple hq
    have hlen := r'.length
    exact len_tuple pl (by simp only [List.size_toArray] <;> omega) ⟨.int ys.length, H, I.tok _, ⟨s.toks + 1, by rw [List.size_toArray, hlen]⟩, q⟩
private theorem call_len_str : CallR X (.builtin "len") (fun xs H Q => ∃ z, xs = [.str z] ∧ z.length ≤ sizeLine ∧ Q (.int z.length) H) := by
  intro pins s σ H xs us Q I r h
  obtain ⟨z, rfl, hz, q⟩ := h
  obtain ⟨u, rfl, t, rfl⟩ := vals1 r
  have hn := line63
  exact len_str (by omega) ⟨.int z.length, H, I.tok _, ⟨_, rfl⟩, q⟩
noncomputable def tyV (K : PySem.W.Frag) (T : String) (x : V) (H : Hp) : Prop := match x with
  | .str _ => T = "str"
  | .int _ => T = "int"
  | .ref p => (T = "list" ∧ ∃ xs, SqL K H p xs) ∨ (T = "tuple" ∧ ∃ o, K.lookup p = some o ∧ o.cls = .type "tuple" ∧ o.dict = none) ∨
      (T = "dict" ∧ ((∃ kvs, H p = some (.dK kvs)) ∨ ∃ kvs, H p = some (.dT kvs))) ∨ (T = "set" ∧ ∃ S n, H p = some (.set S n))
  | _ => False
private theorem tyV_is {pins : List (Addr × Obj)} {σ : St} {H : Hp} {s : Shared} {T : String} {x : V} {v : Value} (I : Inv X pins σ H s) (r : RelV x v) (ty : tyV X.K T x H) :
    s.TypeIs v T ∧ ∀ a, v = .ref a → ∃ ob, s.heap.get? a = some ob ∧ ob.dict = none := by
  cases x with
  | str z =>
    obtain ⟨t, rfl⟩ := r
    cases (show T = "str" from ty)
    exact ⟨typeIs_str s z t, fun _ e => nomatch e⟩
  | int i =>
    obtain ⟨t, rfl⟩ := r
    cases (show T = "int" from ty)
    exact ⟨typeIs_int s i t, fun _ e => nomatch e⟩
  | ref p =>
    cases r
    rcases ty with ⟨rfl, xs, hq⟩ | ⟨rfl, o, hk, hc, hd⟩ | ⟨rfl, hk⟩ | ⟨rfl, S, n, hk⟩
    · obtain ⟨its, _, pl, _⟩ := I.list hq
      refine ⟨pl.isList.typeIs, fun a e => ?_⟩
      cases e
      obtain ⟨o, n, e, c, hd, _⟩ := pl
      exact ⟨o, e, hd⟩
    · refine ⟨⟨o, I.kIn p o hk, hc⟩, fun a e => ?_⟩
      cases e
      exact ⟨o, I.kIn _ o hk, hd⟩
    · have z : ∃ o, s.heap.get? p = some o ∧ o.ExactDict := by
        rcases hk with ⟨kvs, hk⟩ | ⟨kvs, hk⟩
        · obtain ⟨_, _, _, _, o, _, _, e, ex, _⟩ := I.hok p _ hk
          exact ⟨o, e, ex⟩
        · obtain ⟨_, _, _, _, o, _, _, e, ex, _⟩ := I.hok p _ hk
          exact ⟨o, e, ex⟩
      obtain ⟨o, e, ex⟩ := z
      refine ⟨⟨o, e, ex.1⟩, fun a e2 => ?_⟩
      cases e2
      exact ⟨o, e, ex.2.1⟩
    · obtain ⟨o, _, _, _, e, ex, _⟩ := I.hok p _ hk
      refine ⟨⟨o, e, ex.1⟩, fun a e2 => ?_⟩
      cases e2
      exact ⟨o, e, ex.2.1⟩
  | _ => exact False.elim ty
noncomputable def tBM (K : PySem.W.Frag) (T : String) (r : V → List V → Hp → VK → Prop) (to : TE) (t : TA) : TE := fun σ H Q => to σ H fun x H1 => tyV K T x H1 ∧ t σ H1 fun xs H2 => r x xs H2 Q
variable {o e : Expr} {es : List Expr} {to : TE} {t : TA} {name : Str} {apos cpos : Pos} {T id : String} {r : V → List V → Hp → VK → Prop}
private theorem pe_bm (pa : PlainAttrs T) (slot : Slot T name id) (hty : typeOf (.builtin id) = pure (.type "method_descriptor")) (hm : MtR X id r) (ho : PE X o to) (ha : PA X (e :: es) t)
    (hbase : autoParam (attributeBase o name X.env (eval o X.env) = eval o X.env) _root_.zt2)
    (hfew : autoParam (((backTo cpos (starEach (e :: es) X.env)).all (fun x => !x.1) && (backToKw cpos (keywordEach [] X.env)).all (fun x => x.1.isSome)
      && decide ((e :: es).length + ([] : List Keyword).length + (if ([] : List Keyword).isEmpty then 0 else 1) < 30)) = true) _root_.zt2)
    (hline : autoParam ((apos.endLine == cpos.line) = true) _root_.zt2) (hs : autoParam (starEach (e :: es) X.env = (false, eval e X.env) :: starEach es X.env) _root_.zt2) (hplain : autoParam ((backTo cpos (starEach es X.env)).any (·.1) = false) _root_.zt2) :
    PE X (.Call (.Attribute o name apos) (e :: es) [] cpos) (tBM X.K T r to t) := by
  intro pins s σ H Q I h
  refine wpAny_Call_method_late hbase hfew hline rfl (thn (ho pins s σ H _ I h) fun v s1 zq9 => ?_)
  obtain ⟨x, H1, I1, r1, ty, q1⟩ := zq9
  obtain ⟨h1, h2⟩ := tyV_is I1 r1 ty
  refine ⟨T, id, pa, slot, hty, h1, h2, ?_⟩
  have hA := ha cpos pins s1 σ H1 _ I1 q1
  rw [hs] at hA ⊢
  refine Calls.callWith_builtin (by show (false || (backTo cpos (starEach es X.env)).any (·.1)) = false; rw [hplain] <;> rfl) (Calls.evalArgs_plain ?_)
  exact thn hA fun us s2 ⟨vs, H2, I2, r2, q2⟩ => hm pins s2 σ H2 x vs v us Q I2 r1 r2 q2
/- xs.append(e), list.index on a module's tuple .. are MtR facts of 06m -/
end
end L2

namespace L2
open PySem PySem.Spec PyProof.Rows

noncomputable def MtM (X : Cx) (id : String) (r : V → List V → Hp → VK → Prop) : Prop :=
  ∀ (pins : List (Addr × Obj)) (s : Shared) (σ : St) (H : Hp) (x : V) (xs : List V) (v : Value) (us : List Value) (Q : VK), Inv X pins σ H s → RelV x v → Vals xs us → r x xs H Q →
    wpAny (model X.prog X.w) X.A (call (.builtin id) (v :: us)) (EP X pins σ Q) X.xe s

private theorem Vals.one {x : V} {us : List Value} (h : Vals [x] us) : ∃ u, us = [u] ∧ RelV x u := by
  cases h with
  | cons r q =>
    cases q
    exact ⟨_, rfl, r⟩
private theorem Vals.two {x y : V} {us : List Value} (h : Vals [x, y] us) : ∃ u v, us = [u, v] ∧ RelV x u ∧ RelV y v := by
  cases h with
  | cons r q =>
    cases q with
    | cons q z =>
      cases z
      exact ⟨_, _, rfl, r, q⟩
section
variable {X : Cx} {pins : List (Addr × Obj)} {σ : St} {H : Hp} {s : Shared} {l b : Addr} {xs ys zs : List V}

private theorem Inv.lset {its its' : List Value} {n : Nat} {f : Array Value → Array Value} {t' : Nat} (I : Inv X pins σ H s) (hH : H l = some (.lst xs))
    (e : s.heap.get? l = some { cls := .type "list", data := .seq its.toArray n }) (hf : f its.toArray = its'.toArray) (hv : Vals ys its') (hz : ys.length ≤ sizeLine) :
    Inv X pins σ (upd H l (.lst ys)) { s with heap := s.heap.update l (Obj.mapSeq f), toks := t' } := by
  have q := PySem.IsL.update e f
  rw [hf] at q
  refine I.write (x := l) (e := l) (by rw [hH]; exact trivial) (.inl rfl) (fun b' u hb hu => (Heap.get?_update_other s.heap (Obj.mapSeq f) (Ne.symm hb)).trans hu) ⟨_, q⟩ ?_
  exact ⟨hz, its', _, hv, q⟩
private theorem Inv.lnew {its : List Value} {t' : Nat} (I : Inv X pins σ H s) (hv : Vals ys its) (hz : ys.length ≤ sizeLine) :
    Inv X pins σ (upd H s.heap.objs.size (.lst ys)) { s with heap := s.heap.push { cls := .type "list", data := .seq its.toArray }, toks := t' } :=
  I.laid (fun _ _ q => Heap.get?_push_of_some _ q) (Nat.le_refl _) ⟨hz, its, 0, hv, Heap.get?_push_size _ rfl⟩
private theorem Inv.fresh (I : Inv X pins σ H s) : H s.heap.objs.size = none := I.hok.fresh (Nat.le_refl _)
private theorem Inv.lstM (I : Inv X pins σ H s) (hH : H l = some (.lst xs)) : xs.length ≤ sizeLine ∧ ∃ (its : List Value) (n : Nat), Vals xs its ∧ xs.length = its.length ∧ s.heap.get? l = some { cls := .type "list", data := .seq its.toArray n } := by
  obtain ⟨z, its, n, r, e⟩ := I.hok l _ hH
  exact ⟨z, its, n, r, r.length, e⟩

end

section
variable {X : Cx}

noncomputable def rAppend : V → List V → Hp → VK → Prop := fun x vs H Q => ∃ l xs y, x = .ref l ∧ vs = [y] ∧ H l = some (.lst xs) ∧ xs.length < sizeLine ∧ Q .non (upd H l (.lst (xs ++ [y])))
private theorem mt_append : MtM X "list.append" rAppend := by
  intro pins s σ H x vs v us Q I rx rv h
  obtain ⟨l, xs, y, rfl, rfl, hH, hz, q⟩ := h
  cases rx
  obtain ⟨u, rfl, ru⟩ := rv.one
  obtain ⟨z, its, n, r, hl, e⟩ := I.lstM hH
  refine call_meets F.slot_list_append ⟨_, e, rfl⟩ F.entry_list_append (F.args_list_append_2 _ _) (PySem.list_append l its.toArray n u (by rw [List.size_toArray]; omega)) ⟨e, ?_⟩
  refine ⟨.non, _, I.lset (its' := its ++ [u]) hH e (by simp) (r.append (.cons ru .nil)) ?_, rfl, q⟩
  rw [List.length_append, List.length_singleton]
  omega

end

section
variable {prog : Program} {w : World} {A : Around} {E : Value → Shared → Prop} {s : Shared}
end

section
variable {X : Cx}
end
end L2

namespace L2
open PySem PySem.Spec PyProof.Rows

section
variable {κ : Type} [DecidableEq κ]
noncomputable def valV (kvs : List (κ × V)) (k : κ) : Option V := (kvs.find? fun kv => decide (kv.1 = k)).map (·.2)
private theorem valV_pos {p : κ × V} {r : List (κ × V)} {k : κ} (e : p.1 = k) : valV (p :: r) k = some p.2 := by simp [valV, List.find?_cons, e]
private theorem valV_neg {p : κ × V} {r : List (κ × V)} {k : κ} (e : ¬ p.1 = k) : valV (p :: r) k = valV r k := by simp [valV, List.find?_cons, e]
private theorem KV.val {kvs : List (κ × V)} {vs : List (κ × Value)} (r : KV kvs vs) (k : κ) : RelO (valV kvs k) (valueAt vs k) := by
  unfold KV at r
  induction r with
  | nil => exact True.intro
  | @cons p q ps qs h t ih =>
    obtain ⟨h1, h2⟩ := h
    by_cases e : p.1 = k
    · have e' : q.1 = k := h1.symm.trans e
      have b : valueAt (q :: qs) k = some q.2 := by simp [valueAt, List.find?_cons, e']
      rw [valV_pos e, b]; exact h2
    · have e' : ¬ q.1 = k := fun z => e (h1.trans z)
      have b : valueAt (q :: qs) k = valueAt qs k := by simp [valueAt, List.find?_cons, e']
      rw [valV_neg e, b]; exact ih
end


private theorem kV_is {P : Program} {w : World} {k : Key} {u : Value} (r : RelV (kV k) u) : (mixKind P w).is k u = true := by
  cases k with
  | inl i => obtain ⟨t, e⟩ := (show ∃ t, u = Value.int i t from r); subst e; exact mixKind_int P w i t
  | inr x => obtain ⟨t, e⟩ := (show ∃ t, u = Value.str x t from r); subst e; exact mixKind_str P w x t
section
variable {P : Program} {w : World} {H : Hp} {h : Heap} {a : Addr}
private theorem rd_of {u : HO} (ok : HOk P w H h) (e : Rd H a u) : ObjOk P w H h a u := e.ok ok
private theorem dk_rd {kvs : List (Key × V)} (ok : HOk P w H h) (e : Rd H a (.dK kvs)) : kvs.length ≤ sizeLine ∧ (a == sysModules) = false ∧ ∃ vs, KV kvs vs ∧ h.DictOf (mixKind P w) a vs :=
  show ObjOk P w H h a (.dK kvs) from rd_of ok e
end

noncomputable def DGet (H : Hp) (a : Addr) (y : V) (r : Option V) : Prop :=
  ∃ kvs k, Rd H a (.dK kvs) ∧ y = kV k ∧ r = valV kvs k
private theorem DGet.k {H : Hp} {a : Addr} {kvs : List (Key × V)} {k : Key} (e : H a = some (.dK kvs)) : DGet H a (kV k) (valV kvs k) := ⟨kvs, k, .inl e, rfl, rfl⟩
section
variable {X : Cx} {pins : List (Addr × Obj)} {σ : St} {H : Hp} {s : Shared} {a : Addr} {y v : V} {u r : Value} {o : Option V} {A : Around} {E : Value → Shared → Prop}

private theorem d_getItem {Q : Value → Shared → Prop} (hu : A.units + 1 < cLine) (I : Inv X pins σ H s) (g : DGet H a y (some v)) (ry : RelV y u) (h : ∀ w' s', Inv X pins σ H s' → RelV v w' → Q w' s') :
    wpAny (model X.prog X.w) A (getItem (.ref a) u) Q E s := by
  obtain ⟨kvs, k, e, ey, l⟩ := g
  · subst ey
    obtain ⟨z, hd, vs, rel, dd⟩ := dk_rd I.hok e
    obtain ⟨w', hw, rw'⟩ := RelO.some_of (v := v) (o := valueAt vs k) (by rw [l]; exact rel.val k)
    exact wpAny_getItem_of (kV_is ry) dd.mapOf hw (h w' _ (I.tok _) rw')
end

section
variable {X : Cx} {pins : List (Addr × Obj)} {σ : St} {H : Hp} {s : Shared} {a : Addr} {kvs : List (Key × V)} {k : Key} {u : Value} {A : Around} {E : Value → Shared → Prop}
end


private theorem dict_typeIs {X : Cx} {pins : List (Addr × Obj)} {σ : St} {H : Hp} {s : Shared} {a : Addr} {y : V} {o : Option V} (I : Inv X pins σ H s) (g : DGet H a y o) : s.TypeIs (.ref a) "dict" := by
  obtain ⟨kvs, k, e, _, _⟩ := g
  · obtain ⟨_, _, vs, _, dd⟩ := dk_rd I.hok e
    exact dd.typeIs
section
variable {X : Cx} {o i e value : Expr} {pos pos' tpos : Pos} {td ty tv : TE}
end


section
variable {X : Cx} {pos : Pos}
end

section
variable {X : Cx} {pins : List (Addr × Obj)} {σ : St} {H : Hp} {s : Shared} {a : Addr} {y d : V} {u r : Value} {o : Option V} {A : Around} {E : Value → Shared → Prop}
end

section
variable {X : Cx} {o e f : Expr} {apos cpos : Pos} {td ty tx : TE}
end

section
variable {X : Cx} {pins : List (Addr × Obj)} {σ : St} {H : Hp} {s : Shared} {a : Addr} {kvs : List (Key × V)} {A : Around} {E : Value → Shared → Prop}
end


section
variable {X : Cx} {pins : List (Addr × Obj)} {σ : St} {H : Hp} {s : Shared} {a : Addr} {y : V} {u : Value} {A : Around} {E : Value → Shared → Prop}
end
end L2

namespace Att
open PySem PySem.W PySem.Calls PyProof.Rows

private theorem ints_of_wellAll {P : Params} {h : Heap} : ∀ (ns : List Int) (vs : List Value), WellAll P h vs (ns.map WData.int) → IntsAre vs ns := by
  intro ns
  induction ns with
  | nil =>
    intro vs w
    rw [List.map_nil] at w
    cases w
    exact .nil
  | cons n ns ih =>
    intro vs w
    rw [List.map_cons] at w
    cases w with
    | cons a b =>
      cases a
      exact .cons _ _ (ih _ b)

private theorem script_of {l : OpenLaw} {n : Nat} (hn : l.most = some n) {P : Params} {h : Heap} {args : List WData} {vals : List Value}
    (hpre : l.row.toRowW.claim.pre args = true) (hwl : WellAll P h vals args) :
    ∃ a vs ns, vals = [Value.ref a] ∧ args = [WData.list (ns.map WData.int)] ∧ h.get? a = some { cls := .type "list", data := .seq vs.toArray } ∧ IntsAre vs ns ∧ ns.length ≤ n := by
  have hsh : WShape.hasAll [] args [.list .int] = true := (pre_splitW hpre).1
  have hc : l.pre.holds [] { args := args } = true := (pre_splitW hpre).2
  obtain ⟨d, r, rfl, h1, h2⟩ := hasAllW_cons hsh
  obtain rfl := hasAllW_nil h2
  obtain ⟨xs, rfl, h3⟩ := hasW_list h1
  obtain ⟨ns, rfl⟩ := items_int h3
  have hlen : ns.length ≤ n := by
    unfold OpenLaw.pre at hc
    have h4 : (WTm.not (.lt (.lit (.int (n : Int))) (.len (.arg 0)))).holds [] { args := [.list (ns.map .int)] } = true := by
      have h4 := (holds_andW hc).1
      rw [hn] at h4
      exact h4
    have h5 := condW_of h4 (w_not (w_lt w_lit (w_len_list (w_arg rfl))))
    rw [List.length_map] at h5
    refine Nat.le_of_not_lt fun q => ?_
    have q' : (n : Int) < ((ns.length : Nat) : Int) := by omega
    first
      | (rw [decide_eq_true q'] at h5; exact absurd h5 (by decide))
      | (simp at h5; omega)
  cases hwl with
  | cons w1 w2 =>
    cases w2
    cases w1 with
    | list ho hall => exact ⟨_, _, ns, rfl, rfl, ho, ints_of_wellAll ns _ hall, hlen⟩

private theorem post_true (l : OpenLaw) (args : List WData) : l.row.toRowW.claim.post args (.bool true) args = true :=
  postW_of (r := l.row.toRowW) (X := (true == true))
    (show WShape.has [] (.bool true) .bool = true by first | rfl | decide | simp [WShape.has, WShape.arms, WShape.armsAll])
    (show (WTm.eq .res (.lit (.bool true))).value [] { args := args, res := some (.bool true), after := args } = some (.bool (true == true)) from w_eq_bool (w_res rfl) w_lit) rfl

private theorem attach_call {l : OpenLaw} {n : Nat} {q : Program} {loose : List Str} {XP : (Str → Option Value) → Heap → Prop} {YP : World → Heap → Prop} {d : DefRec}
    (hn : l.most = some n) (hdf : d.params.defaults = [])
    (call : ∀ (w : World) (s₀ s₁ : Shared) (mg mb : Str → Option Value) (fa : Addr) (o : Obj) (pm cd doc : Value) (a : Addr) (vs : List Value) (ns : List Int),
      Ground q loose [] XP w s₀ mg mb s₁.heap → YP w s₁.heap →
      s₁.heap.get? fa = some o → o.data = .func (docDef d.name d.params d.body d.scope pm cd doc) → s₁.heap.CodeRec cd d.name → mg d.name = some (.ref fa) →
      s₁.heap.get? a = some { cls := .type "list", data := .seq vs.toArray } → IntsAre vs ns → ns.length ≤ n → s₁.gens = #[] →
      codeAny (model l.prog w) callerA (.call (.ref fa) ⟨[.ref a], []⟩) (fun r s' => r = .ok (.ret (.bool true)) ∧ OldK s₁.heap s'.heap ∧ s'.os = s₁.os ∧ AllBare s'.gens) s₁) :
    WalkO q loose XP YP l.row.toRowW d [] (fun f vs => PySem.call f vs) := by
  intro w s₀ s₁ mg mb G Y fa o pm cd doc dV kV ho hd hcd hD hmg hg args vals as hpre hlay hrd hwl hlo
  obtain rfl : dV = .none := Dflts.none hD hdf
  obtain rfl : kV = .none := Dflts.noKw hD
  obtain ⟨a, vs, ns, rfl, rfl, hobj, hints, hlen⟩ := script_of hn hpre hwl
  refine enter_call (codeAny_mono (call w s₀ s₁ mg mb fa o pm cd doc a vs ns G Y ho (fd_plain hd) hcd hmg hobj hints hlen hg) fun r s' hq => ?_)
  obtain ⟨rfl, h2, h3, h4⟩ := hq
  exact ⟨.inl ⟨.bool true, .bool true, [], rfl, fun _ => rfl, .bool true, post_true l _, fun _ => ⟨List.Pairwise.nil, fun _ hm => (nomatch hm)⟩⟩, h2, h3, h4⟩

section
variable {prog : Program} {w : World} {A : Around} {E : Value → Shared → Prop} {s : Shared} {K : Frag}

noncomputable def ledger (h : Heap) (L d : Addr) : List (Addr × Obj) := (List.range h.objs.size).filterMap fun a => if a = L ∨ a = d then none else (h.get? a).map fun o => (a, o)
end
end Att

namespace L2
open PySem PySem.Spec PyProof.Rows

private theorem vals_ints : ∀ {vs : List Value} {ns : List Int}, IntsAre vs ns → Vals (ns.map V.int) vs
  | _, _, .nil => .nil
  | _, _, .cons n t h => .cons ⟨t, rfl⟩ (vals_ints h)

noncomputable def Only (H : Hp) : Prop := ∀ b, H b = none ∨ ∃ o xs, H b = some (.frz o (.lst xs))

private theorem law_call {P : Program} {w : World} {K : PySem.W.Frag} {mg mb : Str → Option Value} {CX : CXT} {k : Nat} {fa a : Addr} {fd : FuncData} {x : Str} {sp : Sp} {s₁ : Shared} {vs : List Value} {ns : List Int}
    (KX : K.In s₁.heap) (hns : s₁.heap.Ns mainGlobals mg) (hb : s₁.heap.Ns builtinsNs mb) (hbb : ∀ x : Str, x ≠ "__name__" → mb x = bootBuiltins x) (hlim : s₁.heap.NoLimit) (hg : s₁.gens = #[])
    (ha : s₁.heap.get? a = some { cls := .type "list", data := .seq vs.toArray }) (hi : IntsAre vs ns) (hl : ns.length ≤ sizeLine) (hr : Room k callerA)
    (F : ∀ base : Heap, K.In base → base.Ns mainGlobals mg → FnOk P w K mg base CX k fa fd [x] sp) (hbind : ∀ (s : Shared) (u : Value), BindsTo s fd ⟨[u], []⟩ [(x, u)])
    (hsp : ∀ H : Hp, Only H → SqL K H a (ns.map V.int) → sp [.ref a] H (fun v _ => v = .bl true) fun _ _ _ => False)
    (hCX : ∀ H e s', CX [] H s₁ (fun _ _ _ => False) e s' → False) :
    codeAny (model P w) callerA (.call (.ref fa) ⟨[.ref a], []⟩) (fun r s' => r = .ok (.ret (.bool true)) ∧ OldK s₁.heap s'.heap ∧ s'.os = s₁.os ∧ AllBare s'.gens) s₁ := by
  have rv := vals_ints hi
  have lenV := hi.length
  -- from an abstract heap in which nothing but the script may be tracked
  have core : ∀ H : Hp, Only H → SqL K H a (ns.map V.int) → HOk P w H s₁.heap → (∀ b, H b ≠ none → b = a) → (H a ≠ none → K.lookup a = none) →
      codeAny (model P w) callerA (.call (.ref fa) ⟨[.ref a], []⟩) (fun r s' => r = .ok (.ret (.bool true)) ∧ OldK s₁.heap s'.heap ∧ s'.os = s₁.os ∧ AllBare s'.gens) s₁ := by
    intro H hO hS hok hA hK
    have base_of : ∀ {b : Addr} {o : Obj}, s₁.heap.get? b = some o → H b = none → (hidT s₁.heap H).get? b = some o := fun e n => hidT_get e n
    have noA : ∀ {b : Addr} {o : Obj} {es : Array DictEntry} {ep : Nat}, s₁.heap.get? b = some o → o.data = .dict es ep → H b = none := fun {b o es ep} e d => by
      cases q : H b with
      | none => rfl
      | some u =>
        have e' : b = a := hA b (by rw [q]; simp)
        subst e'
        rw [ha] at e; cases e
        have d' : Data.seq vs.toArray _ = Data.dict es ep := d
        cases d'
    have nsK : ∀ {b : Addr} {m : Str → Option Value}, s₁.heap.Ns b m → (hidT s₁.heap H).Ns b m := fun {b m} ⟨o, es, ep, e, d, r⟩ => ⟨o, es, ep, base_of e (noA e d), d, r⟩
    have hKb : K.In (hidT s₁.heap H) := fun b o e => base_of (KX b o e) (by
      cases q : H b with
      | none => rfl
      | some u =>
        have e' : b = a := hA b (by rw [q]; simp)
        subst e'
        rw [hK (by rw [q]; simp)] at e; cases e)
    have hM : Mod K mg (hidT s₁.heap H) := ⟨hKb, nsK hns, ⟨mb, nsK hb, hbb⟩, let ⟨mc, h1, h2⟩ := hlim; ⟨mc, nsK h1, h2⟩⟩
    have e0 : Env0 P w K mg (hidT s₁.heap H) callerA [] s₁ H := ⟨rfl, hM, fun b o e => of_hidT e, Nat.le_of_eq (hidT_size _ _), trivial, fun b hb => absurd (show b ∈ ([] : List Addr) from hb) (by simp), hok, .of_eq hg⟩
    refine codeAny_mono ((F _ hKb (nsK hns)).run callerA [] s₁ H ⟨[.ref a], []⟩ [.ref a] [.ref a] _ _ hr e0 (hbind s₁ (.ref a)) (.cons rfl .nil) (hsp H hO hS)) fun r s' h => ?_
    cases r with
    | error e => exact (hCX H e s' h).elim
    | ok fl =>
      cases fl with
      | next => exact False.elim h
      | brk => exact False.elim h
      | cont => exact False.elim h
      | ret u =>
        obtain ⟨v, H', os, bare, un, hok', r', q⟩ := h
        have q' : v = .bl true := q
        subst q'
        obtain rfl : u = Value.bool true := r'
        refine ⟨rfl, OldK.of_keep fun b o e => ?_, os, bare⟩
        cases q : H b with
        | none => exact un.keep b o e q (by intro z; exact absurd (show b ∈ ([] : List Addr) from z) (by simp)) (by simp)
        | some u =>
          rcases hO b with z | ⟨ob, xs, z⟩
          · rw [q] at z; cases z
          · have z2 := un.frzs b ob _ z
            obtain ⟨e1, _⟩ := hok b _ z
            obtain ⟨e2, _⟩ := hok' b _ z2
            rw [e] at e1; cases e1
            exact e2
  cases hk : K.lookup a with
  | some o =>
    -- the script is one of the module's own objects
    have e := KX a o hk
    rw [ha] at e
    cases e
    refine core (fun _ => none) (fun _ => .inl rfl) (.inr ⟨_, vs.toArray, _, hk, rfl, rfl, rfl, by rw [List.size_toArray, lenV]; exact hl, by simpa using rv⟩) (fun b u z => by have z' : (none : Option HO) = some u := z; cases z') (fun b z => absurd rfl z) fun z => absurd rfl z
  | none =>
    refine core (fun b => if b = a then some (.frz { cls := .type "list", data := .seq vs.toArray } (.lst (ns.map V.int))) else none) (fun b => ?_) (.inl (.inr ⟨{ cls := .type "list", data := .seq vs.toArray }, if_pos rfl⟩)) (fun b u z => ?_) (fun b z => ?_) fun _ => hk
    · by_cases hb : b = a
      · exact .inr ⟨_, _, if_pos hb⟩
      · exact .inl (if_neg hb)
    · by_cases hb : b = a
      · have z' := (if_pos hb).symm.trans z
        cases z'
        subst hb
        exact ⟨ha, by rw [List.length_map]; exact hl, vs, _, rv, ha⟩
      · have z' := (if_neg hb).symm.trans z
        cases z'
    · by_cases hb : b = a
      · exact hb
      · exact absurd (if_neg hb) z
end L2

namespace L2
open PySem PySem.Spec PyProof.Rows

private theorem walk_of {l : PySem.W.OpenLaw} {n k : Nat} {q : Program} {loose : List Str} {XP : (Str → Option Value) → Heap → Prop} {YP : World → Heap → Prop} {d : DefRec} {K : Params → PySem.W.Frag} {CX : World → CXT} {sp : World → Sp} {x : Str}
    (hn : l.most = some n) (hn2 : n ≤ sizeLine) (hdf : d.params.defaults = []) (hr : Room k callerA)
    (hY : ∀ (w : World) (h : Heap), YP w h → (K w.params).In h)
    (F : ∀ (w : World) (mg : Str → Option Value) (fa : Addr) (h : Heap), (K w.params).In h → h.Ns mainGlobals mg → mg d.name = some (.ref fa) →
      ∃ fd : FuncData, (∀ (s : Shared) (u : Value), BindsTo s fd ⟨[u], []⟩ [(x, u)]) ∧
        ∀ base : Heap, (K w.params).In base → base.Ns mainGlobals mg → FnOk l.prog w (K w.params) mg base (CX w) k fa fd [x] (sp w))
    (hsp : ∀ (w : World) (H : Hp) (a : Addr) (ns : List Int), ns.length ≤ n → Only H → SqL (K w.params) H a (ns.map V.int) → sp w [.ref a] H (fun v _ => v = .bl true) fun _ _ _ => False)
    (hCX : ∀ (w : World) (H : Hp) (s : Shared) (e : Value) (s' : Shared), CX w [] H s (fun _ _ _ => False) e s' → False) :
    PySem.W.WalkO q loose XP YP l.row.toRowW d [] (fun f vs => PySem.call f vs) := by
  refine Att.attach_call hn hdf fun w s₀ s₁ mg mb fa o pm cd doc a vs ns G Y ho hd hcd hmg hobj hints hlen hg => ?_
  have KX := hY w _ Y
  obtain ⟨fd, hb, hF⟩ := F w mg fa _ KX G.T.g hmg
  exact law_call KX G.T.g G.T.b G.T.builtins G.T.nolimit hg hobj hints (Nat.le_trans hlen hn2) hr hF hb (fun H hO hS => hsp w H a ns hlen hO hS) fun H e s' => hCX w H s₁ e s'
end L2

/- THE LAST THEOREM (shape; LID, My.* are yours):
   My.Adr: a structure of the addresses that your layer names (classes, functions); My.Txt K t: a structure (Prop) of the equations over K;
   My.txt_mk : {K} {implicit addresses ..} (e1 : nsIn K mainGlobals "law" = some (some (.ref f))) (e2 : K.lookup f = some ⟨oc, od, .func (fnOf "law" "law" params body scope dV kV doc pm an cdv ct), sl⟩) (e3 : codeIn K cdv "law" = true) .. : ∃ t, My.Txt K t

(the tactic k_is has no namespace: write k_is) -/

namespace L2
open PySem PySem.Spec PyProof.Rows

noncomputable def inClass (s : Stmt) (j : Nat) : Stmt := match s with
  | .ClassDef _ _ _ body _ _ _ _ _ _ _ => body.getD j (.Pass ⟨0, 0, 0, 0⟩)
  | _ => .Pass ⟨0, 0, 0, 0⟩
noncomputable def defArgs (s : Stmt) : Arguments := match s with
  | .FunctionDef _ a _ _ _ _ _ _ _ _ => a
  | _ => { posonlyargs := [], args := [], vararg := none, kwonlyargs := [], kw_defaults := [], kwarg := none, defaults := [] }
noncomputable def defBody (s : Stmt) : List Stmt := match s with
  | .FunctionDef _ _ b _ _ _ _ _ _ _ => b
  | _ => []
noncomputable def defScope (s : Stmt) : Scope := match s with
  | .FunctionDef _ _ _ _ _ _ sc _ _ _ => sc
  | _ => { kind := .function, names := [], isGenerator := false, isCoroutine := false }

noncomputable abbrev CX0 : CXT := fun _ _ _ _ _ _ => False
noncomputable abbrev E0 : XK := fun _ _ _ => False
private theorem pass0 {X : Cx} : Passes CX0 X E0 := fun _ _ _ _ _ _ _ h => h.elim

structure Fun (K : PySem.W.Frag) (x qual : Str) (st : Stmt) (f : Addr) (fd : FuncData) : Prop where
  ex : ∃ (oc : Value) (od : Option Addr) (kV doc pm : Value) (an : Option Addr) (cdv ct : Value) (osl : Array (Option Value)),
    fd = PySem.W.fnOf x qual (defArgs st) (defBody st) (defScope st) .none kV doc pm an cdv ct ∧ K.lookup f = some ⟨oc, od, .func fd, osl⟩ ∧ PySem.W.codeIn K cdv qual = true
  kp : PySem.W.keepIn K (.ref f) = true
section
variable {P : Program} {w : World} {K : PySem.W.Frag} {mg : Str → Option Value} {base : Heap}
private theorem Fun.ok {x qual : Str} {st : Stmt} {f : Addr} {fd : FuncData} {N ps : List Str} {k : Nat} {sp : Sp} (F : Fun K x qual st f fd) (S : FnScope N ps (defScope st)) (len : ∀ vs H Q E, sp vs H Q E → vs.length = ps.length)
    (hbody : ∀ (cdv : Value) (A : Around) (outer : List Env) (s : Shared) (H : Hp) (vs : List V) (Q : VK) (E : XK), Room k (A.deeper (envOfC qual (defScope st) s.heap.objs.size f cdv)) → sp vs H Q E →
      ∃ t, PSs (cxOf CX0 P w K mg base N qual (defScope st) f cdv A outer s H E).nox (defBody st) t ∧ t { nx := fun _ H' => Q .non H', rt := Q } (start N vs) H) : FnOk P w K mg base CX0 (k + 1) f fd ps sp := by
  obtain ⟨oc, od, kV, doc, pm, an, cdv, ct, osl, rfl, lk, hcd⟩ := F.ex
  refine fn_of lk hcd S len fun A outer s H vs Q E hr hsp => ?_
  obtain ⟨t, h, q⟩ := hbody cdv A outer s H vs Q E hr hsp
  exact ⟨t, h.nox, q⟩
private theorem Fun.binds {x qual : Str} {st : Stmt} {f : Addr} {fd : FuncData} {ps : List Str} (F : Fun K x qual st f fd)
    (h : ∀ (kV doc pm : Value) (an : Option Addr) (cdv ct : Value) (us : List Value), us.length = ps.length → bindArgs (PySem.W.fnOf x qual (defArgs st) (defBody st) (defScope st) .none kV doc pm an cdv ct) ⟨us, []⟩ = pure (ps.zip us)) : Binds K fd ps [] := by
  obtain ⟨oc, od, kV, doc, pm, an, cdv, ct, osl, rfl, lk, hcd⟩ := F.ex
  exact .all (h kV doc pm an cdv ct)
private theorem fun_mk {x qual : Str} {st : Stmt} {f : Addr} {oc : Value} {od an : Option Addr} {osl : Array (Option Value)} {kV doc pm cdv ct : Value} (l : K.lookup f = some ⟨oc, od, .func (PySem.W.fnOf x qual (defArgs st) (defBody st) (defScope st) .none kV doc pm an cdv ct), osl⟩)
    (c : PySem.W.codeIn K cdv qual = true) (k : PySem.W.keepIn K (.ref f) = true) : Fun K x qual st f (PySem.W.fnOf x qual (defArgs st) (defBody st) (defScope st) .none kV doc pm an cdv ct) := ⟨⟨oc, od, kV, doc, pm, an, cdv, ct, osl, rfl, l, c⟩, k⟩
end
private theorem hu_of {A : Around} {k : Nat} (hr : Room k A) : A.units + 1 < cLine := Nat.lt_of_le_of_lt (Nat.add_le_add_left (by decide : 1 ≤ 64) _) hr.units
private theorem small1000 {n : Nat} (h : n ≤ 1000) : n < sizeLine := Nat.lt_of_le_of_lt h (by decide)

section
variable {X : Cx}
private theorem pv (i : Nat) {x : Str} {pos : Pos} (hN : autoParam (X.N[i]? = some x) _root_.zt2) (hv : autoParam (Vis X.env.scope x) _root_.zt4) (hd : autoParam ((x == ("__debug__" : Str)) = false) _root_.zt1)
    (hcd : autoParam ((x == ("__classdict__" : Str)) = false) _root_.zt1) : PE X (.Name x pos) (tVar i) := pe_var hN hv hd hcd
end

private theorem iteF {A B : Prop} (h : B) : if false = true then A else B := by
  rw [if_neg Bool.false_ne_true]
  exact h
private theorem iteT {A B : Prop} (h : A) : if true = true then A else B := by
  rw [if_pos rfl]
  exact h
noncomputable def Same (H H' : Hp) : Prop := ∀ b o, H b = some o → H' b = some o
private theorem Same.refl (H : Hp) : Same H H := fun _ _ h => h
private theorem Same.trans {H H1 H2 : Hp} (a : Same H H1) (b : Same H1 H2) : Same H H2 := fun c o h => b c o (a c o h)
private theorem Same.free {H H' : Hp} (e : Same H H') {l : Addr} (h : H' l = Option.none) : H l = Option.none := by
  cases q : H l with
  | none => rfl
  | some o =>
    rw [e l o q] at h
    cases h
private theorem Same.seq {K : PySem.W.Frag} {H H' : Hp} {a : Addr} {xs : List V} (e : Same H H') (h : SqL K H a xs) : SqL K H' a xs := by
  rcases h with (h | ⟨o, h⟩) | h
  · exact .inl (.inl (e _ _ h))
  · exact .inl (.inr ⟨o, e _ _ h⟩)
  · exact .inr h

end L2

namespace L2
open PySem PySem.Spec PyProof.Rows
section
variable {X : Cx}
end
section
variable {κ : Type} [DecidableEq κ]
end
end L2

namespace L3
open PySem PySem.Spec L2
open PyProof.Rows hiding St

noncomputable def TbOk (B h : Heap) (e : Addr) (v : Value) : Prop := v = .none ∨ ∃ T oT ts, v = .ref T ∧ B.get? T = none ∧ T ≠ e ∧ h.get? T = some oT ∧ oT.data = .fields ts ∧ ts[3]? = some .none
structure Flies (B : Heap) (l : List Env) (e : Addr) (C : Value) (dx : Option Addr) (h : Heap) : Prop where
  st : B.StaysIn h
  nw : B.get? e = none
  fr : h.FunFrames B l
  ob : ∃ oe vs v, h.get? e = some oe ∧ oe.cls = C ∧ oe.dict = dx ∧ oe.data = .fields vs ∧ vs[1]? = some v ∧ TbOk B h e v
private theorem Flies.pop {B : Heap} {env : Env} {l : List Env} {e : Addr} {C : Value} {dx : Option Addr} {h : Heap} (x : Flies B (env :: l) e C dx h) : Flies B l e C dx h := ⟨x.st, x.nw, x.fr.2.2, x.ob⟩
section
variable {M : Model} {A : Around} {E : Value → Shared → Prop} {s : Shared}
private theorem entry_land {B : Heap} {env : Env} {l : List Env} {L e : Addr} {ob : Obj} {fs : Array Value} {hd : Value} {nx : Bool} {Q : Unit → Shared → Prop} (kf : A.frames = some (env :: l)) (fr : s.heap.FunFrames B (env :: l)) (hL : env.frame = some L)
    (ge : s.heap.get? e = some ob) (st : B.StaysIn s.heap) (nw : B.get? e = none) (de : ob.data = .fields fs) (z1 : 1 < fs.size) (k : ∀ h', Flies B (env :: l) e ob.cls ob.dict h' → s.heap.UpToSlots h' → Q () { s with heap := h' }) :
    wpAny M A (do let fo ← frameOf env; let pl ← entryPlaceOf L nx; let tb ← EntryCells.newEntry hd fo .none (rawInt L) .none pl; setField (.ref e) 1 tb) (fun _ s' => wpAny M A (setFlight (.ref e) none) Q E s') E s := by
  have ne : e ∉ (env :: l).filterMap (·.frame) := fun m => by
    obtain ⟨_, o, ho, no⟩ := fr.mem m
    rw [ge] at ho; cases ho
    exact no fs de
  refine wpAny_bind (wpAny_frameOf_fun kf fr hL fun g1 r1 => wpAny_bind (wpAny_entryPlaceOf fun pl hp => ?_))
  unfold EntryCells.newEntry newFields
  refine wpAny_bind (wpAny_newObj_type ?_ (hp.sizeOk5 _ _ _ _ _))
  obtain ⟨tb, htb⟩ : ∃ tb : Obj, tb = { cls := .type "traceback", dict := none, data := .fields ([hd, .ref L, .none, rawInt L, .none] ++ (if pl.isEmpty then List.replicate 6 Value.none else pl)).toArray } := ⟨_, rfl⟩
  rw [← htb]
  have e1 : g1.get? e = some ob := (r1.2.1 e ne).trans ge
  have s1 : B.StaysIn g1 := fun b o q => (r1.2.1 b fun m => by rw [(fr.mem m).1] at q; cases q).trans (st b o q)
  have e2 : (g1.push tb).get? e = some ob := Heap.get?_push_of_some tb e1
  refine wpAny_setField e2 de z1 ?_
  have Te : g1.objs.size ≠ e := Nat.ne_of_gt (Heap.lt_size e1)
  have d3 := Obj.data_mapFields de (·.setIfInBounds 1 (Value.ref g1.objs.size))
  have e3 := Heap.get?_update_self (Obj.mapFields (·.setIfInBounds 1 (Value.ref g1.objs.size))) e2 (Obj.isFreed_of_fields d3)
  have T2 : (g1.push tb).get? g1.objs.size = some tb := Heap.get?_push_size g1 (by rw [htb]; rfl)
  have T3 := (Heap.get?_update_other (g1.push tb) (Obj.mapFields (·.setIfInBounds 1 (Value.ref g1.objs.size))) (Ne.symm Te)).trans T2
  unfold setFlight
  refine wpAny_bind (wpAny_field e3 d3 (x := .ref g1.objs.size) (by simp [z1]) ?_)
  rw [if_pos (by simp : (Value.ref g1.objs.size != Value.none) = true)]
  have dT : tb.data = .fields ([hd, .ref L, .none, rawInt L, .none] ++ (if pl.isEmpty then List.replicate 6 Value.none else pl)).toArray := by rw [htb]
  have z3 : 3 < ([hd, .ref L, .none, rawInt L, .none] ++ (if pl.isEmpty then List.replicate 6 Value.none else pl)).toArray.size := by
    simp only [List.size_toArray, List.length_append, List.length_cons, List.length_nil]; omega
  have kp : ∀ b o, b ≠ e → g1.get? b = some o → (((g1.push tb).update e (Obj.mapFields (·.setIfInBounds 1 (Value.ref g1.objs.size)))).update g1.objs.size (Obj.mapFields (·.setIfInBounds 3 ((none : Option Addr).elim Value.none fun f => rawInt f)))).get? b = some o := fun b o be q => by
    have bT : g1.objs.size ≠ b := Nat.ne_of_gt (Heap.lt_size q)
    rw [Heap.get?_update_other _ _ bT, Heap.get?_update_other _ _ (Ne.symm be)]
    exact Heap.get?_push_of_some tb q
  have nr : ∀ b o, s.heap.get? b = some o → (∀ xs, o.data ≠ .fields xs) → b ≠ e := fun b o q no z => by
    rw [z, ge] at q; cases q
    exact no fs de
  refine wpAny_setField T3 dT z3 (k _ ⟨fun b o q => kp b o (fun z => by rw [z, nw] at q; cases q) (s1 b o q), nw, fr.of_keeps fun b o q no => ?_, ?_⟩ fun b o q no => ?_)
  · obtain ⟨sl, q2⟩ := r1.2.2 b o q
    exact ⟨_, kp b _ (nr b o q no) q2, rfl⟩
  · refine ⟨_, _, .ref g1.objs.size, (Heap.get?_update_other _ _ Te).trans e3, Obj.cls_mapFields _ _, ?_, d3, by simp [z1], .inr ⟨g1.objs.size, _, _, rfl, s1.fresh, Te, Heap.get?_update_self _ T3 (Obj.isFreed_of_fields (Obj.data_mapFields dT _)), Obj.data_mapFields dT _, ?_⟩⟩
    · obtain ⟨a, b, c, d⟩ := ob
      simp only at de
      subst de
      rfl
    · rw [Array.getElem?_setIfInBounds_self_of_lt z3]; rfl
  · obtain ⟨sl, q2⟩ := r1.2.2 b o q
    exact ⟨sl, kp b _ (nr b o q no) q2⟩
private theorem note_land {B : Heap} {env : Env} {l : List Env} {L e : Addr} {C : Value} {dx : Option Addr} {Q : Unit → Shared → Prop} (kf : A.frames = some (env :: l)) (hL : env.frame = some L) (x : Flies B (env :: l) e C dx s.heap)
    (k : ∀ h', Flies B (env :: l) e C dx h' → s.heap.UpToSlots h' → Q () { s with heap := h' }) : wpAny M A (noteFrame (.ref e) env) (fun _ s' => wpAny M A (setFlight (.ref e) none) Q E s') E s := by
  obtain ⟨st, nw, fr, ob, vs, v, ge, hc, hx, de, h1, tb⟩ := x
  subst hc hx
  have z1 : 1 < vs.size := (Array.getElem?_eq_some_iff.mp h1).1
  unfold noteFrame
  simp only [hL]
  refine wpAny_bind (wpAny_field ge de h1 ?_)
  rcases tb with rfl | ⟨T, oT, ts, rfl, nT, Te, gT, dT, h3⟩
  · rw [if_neg (by decide)]
    exact entry_land kf fr hL ge st nw de z1 k
  · rw [if_pos (by simp : (Value.ref T != Value.none) = true)]
    refine wpAny_bind (wpAny_field gT dT h3 ?_)
    rw [if_neg (by simp [rawInt] : ¬ ((Value.none == rawInt L) = true))]
    have z3 : 3 < ts.size := (Array.getElem?_eq_some_iff.mp h3).1
    refine wpAny_bind (wpAny_setField gT dT z3 ?_)
    have oth : ∀ b, b ≠ T → (s.heap.update T (Obj.mapFields (·.setIfInBounds 3 Value.none))).get? b = s.heap.get? b := fun b q => Heap.get?_update_other _ _ (Ne.symm q)
    have nr : ∀ b o, s.heap.get? b = some o → (∀ xs, o.data ≠ .fields xs) → b ≠ T := fun b o q no z => by
      rw [z, gT] at q; cases q
      exact no ts dT
    exact entry_land (s := { s with heap := s.heap.update T (Obj.mapFields (·.setIfInBounds 3 Value.none)) }) kf (fr.of_keeps fun b o q no => ⟨o, (oth b (nr b o q no)).trans q, rfl⟩) hL ((oth e (Ne.symm Te)).trans ge)
      (fun b o q => (oth b fun z => by rw [z, nT] at q; cases q).trans (st b o q)) nw de z1 fun h' f u => k h' f fun b o q no => u b o ((oth b (nr b o q no)).trans q) no
private theorem leave_land {B : Heap} {env : Env} {l : List Env} {L e : Addr} {C : Value} {dx : Option Addr} {Q : Unit → Shared → Prop} (kf : A.frames = some (env :: l)) (hL : env.frame = some L) (x : Flies B (env :: l) e C dx s.heap)
    (k : ∀ h', Flies B (env :: l) e C dx h' → s.heap.UpToSlots h' → Q () { s with heap := h' }) : wpAny M A (leaving env (.ref e)) Q E s := by
  unfold leaving
  exact wpAny_bind (note_land kf hL x k)
end
end L3
namespace L3
open PySem PySem.Spec L2
open PyProof.Rows hiding St
open PySem.W (Looks)

private theorem lenS {α : Type} {us : List α} {n : Nat} (h : us.length = n + 1) : ∃ a r, us = a :: r ∧ r.length = n := by
  cases us with
  | nil => cases h
  | cons a r => exact ⟨a, r, rfl, Nat.succ.inj h⟩
private theorem len1 {α : Type} {us : List α} (h : us.length = 1) : ∃ a0, us = [a0] := by
  obtain ⟨a, r, rfl, k⟩ := lenS h
  cases List.eq_nil_of_length_eq_zero k
  exact ⟨a, rfl⟩
private theorem len2 {α : Type} {us : List α} (h : us.length = 2) : ∃ a0 a1, us = [a0, a1] := by
  obtain ⟨a, r, rfl, k⟩ := lenS h
  obtain ⟨b0, rfl⟩ := len1 k
  exact ⟨a, b0, rfl⟩
private theorem len3 {α : Type} {us : List α} (h : us.length = 3) : ∃ a0 a1 a2, us = [a0, a1, a2] := by
  obtain ⟨a, r, rfl, k⟩ := lenS h
  obtain ⟨b0, b1, rfl⟩ := len2 k
  exact ⟨a, b0, b1, rfl⟩
private theorem len4 {α : Type} {us : List α} (h : us.length = 4) : ∃ a0 a1 a2 a3, us = [a0, a1, a2, a3] := by
  obtain ⟨a, r, rfl, k⟩ := lenS h
  obtain ⟨b0, b1, b2, rfl⟩ := len3 k
  exact ⟨a, b0, b1, b2, rfl⟩
private theorem len5 {α : Type} {us : List α} (h : us.length = 5) : ∃ a0 a1 a2 a3 a4, us = [a0, a1, a2, a3, a4] := by
  obtain ⟨a, r, rfl, k⟩ := lenS h
  obtain ⟨b0, b1, b2, b3, rfl⟩ := len4 k
  exact ⟨a, b0, b1, b2, b3, rfl⟩
private theorem len6 {α : Type} {us : List α} (h : us.length = 6) : ∃ a0 a1 a2 a3 a4 a5, us = [a0, a1, a2, a3, a4, a5] := by
  obtain ⟨a, r, rfl, k⟩ := lenS h
  obtain ⟨b0, b1, b2, b3, b4, rfl⟩ := len5 k
  exact ⟨a, b0, b1, b2, b3, b4, rfl⟩
noncomputable def xTail : List Value := [.type "ValueError", .type "Exception", .type "BaseException", .type "object"]
noncomputable def tyV : Value → Option String
  | .type n => some n
  | _ => none
noncomputable def refV : Value → Option Addr
  | .ref a => some a
  | _ => none
noncomputable def bltV : Value → Option String
  | .builtin n => some n
  | _ => none
noncomputable def clsV : Data → Option ClassData
  | .cls cd => some cd
  | _ => none
private theorem tyV_eq {v : Value} {n : String} (h : tyV v = some n) : v = .type n := by
  cases v <;> first | exact congrArg Value.type (Option.some.inj h) | cases h
private theorem refV_eq {v : Value} {a : Addr} (h : refV v = some a) : v = .ref a := by
  cases v <;> first | exact congrArg Value.ref (Option.some.inj h) | cases h
private theorem bltV_eq {v : Value} {n : String} (h : bltV v = some n) : v = .builtin n := by
  cases v <;> first | exact congrArg Value.builtin (Option.some.inj h) | cases h
private theorem clsV_eq {v : Data} {cd : ClassData} (h : clsV v = some cd) : v = .cls cd := by
  cases v <;> first | exact congrArg Data.cls (Option.some.inj h) | cases h
noncomputable def xclsIn (K : PySem.W.Frag) (C : Addr) : Bool := (K.lookup C).any fun o => tyV o.cls == some "type" && (clsV o.data).any fun cd =>
  cd.mro.head?.bind refV == some C && o.slots.toList.length == 6 && ((o.slots.toList[4]?).bind id).bind bltV == some "ValueError.__new__" && !cd.hasDel && PySem.W.tailIn K xTail cd.mro.tail
private theorem any_some {α : Type} {p : α → Bool} {o : Option α} (h : o.any p = true) : ∃ a, o = some a ∧ p a = true := by
  cases o with
  | none => cases h
  | some a => exact ⟨a, rfl, h⟩
private theorem and_two {a b : Bool} (h : (a && b) = true) : a = true ∧ b = true := Bool.and_eq_true_iff.mp h
private theorem xcls_of {K : PySem.W.Frag} {C : Addr} (q : xclsIn K C = true) : ∃ nm qn N bs bm hd sn sub ab col dd k0 k1 k2 k3 k5,
    K.lookup C = some (excClassObj nm qn C N bs bm hd sn sub ab col dd k0 k1 k2 k3 k5 "ValueError.__new__") ∧ PySem.W.tailIn K xTail bm = true := by
  obtain ⟨⟨c, dd, da, ⟨sl⟩⟩, lk, q⟩ := any_some q
  obtain ⟨q1, q⟩ := and_two q
  obtain ⟨⟨nm, bs, mro, ns, qn, hd, sn, sub, ab, col, del⟩, hda, q⟩ := any_some q
  cases tyV_eq (eq_of_beq q1)
  cases clsV_eq hda
  obtain ⟨q, tl⟩ := and_two q
  obtain ⟨q, nd⟩ := and_two q
  obtain ⟨q, s2⟩ := and_two q
  obtain ⟨m1, s1⟩ := and_two q
  cases mro with
  | nil => cases m1
  | cons m bm =>
    cases refV_eq (eq_of_beq m1)
    obtain ⟨k0, k1, k2, k3, k4, k5, rfl⟩ := len6 (eq_of_beq s1)
    cases k4 with
    | none => cases s2
    | some v =>
      cases bltV_eq (eq_of_beq s2)
      cases del with
      | true => cases nd
      | false => exact ⟨nm, qn, ns, bs, bm, hd, sn, sub, ab, col, dd, k0, k1, k2, k3, k5, lk, tl⟩
noncomputable def xnsIn (K : PySem.W.Frag) (C : Addr) : Bool := (K.lookup C).any fun o => (clsV o.data).any fun cd => PySem.W.nsOkIn K cd.ns && PySem.W.nsIn K cd.ns "__init__" == some none
section
variable {prog : Program} {w : World} {A : Around} {E : Value → Shared → Prop} {h : Heap} {g : Array GenState} {d : Drawn} {t : Nat} {os : OsState} {K : PySem.W.Frag} {C : Addr}
private theorem tcall_init {fI : Addr} {us : List Value} {Q : Fin → Shared → Prop} (X : K.In h) (q : xclsIn K C = true) (hi : PySem.W.findIn K (.ref C) "__init__" = some (some (.ref fI))) (hf : PySem.W.typeIn K (.ref fI) = some (.type "function")) (hl : us.length ≤ sizeLine)
    (k : ∀ h' e, Heap.MadeExcOf h h' e (.ref C) us → wpAny (model prog w) A (call (.ref fI) (.ref e :: us)) (fun r s' => r = .none ∧ Q (.done (.ret (.ref e))) s') E ⟨h', g, d, t, os⟩) :
    wpAny (model prog w) A (Builtin.«type.__call__» ⟨.ref C :: us, []⟩) Q E ⟨h, g, d, t, os⟩ := by
  obtain ⟨nm, qn, N, bs, bm, hd, sn, sub, ab, col, dd, k0, k1, k2, k3, k5, lk, tl⟩ := xcls_of q
  have gC := X _ _ lk
  have T := PySem.W.tail_of_in X tl
  have F := PySem.F.excBase_ValueError
  repeat (first | wp_step | with_reducible refine wpAny_loadPart_at gC ?_ | with_reducible refine wpAny_madeBy_exc gC ?_)
  refine codeAny_call_builtin_code (Code.quiet_builtin _ F.quiet) (wpAny_check_new_subT F T gC (codeAny_exc_new_subT F T gC ?_ hl))
  show wpAny _ _ _ _ _ _
  obtain ⟨ob, hob⟩ : ∃ ob : Obj, ob = { cls := .ref C, data := .fields #[.ref h.objs.size, .none, .none, .none, .bool false, .none] } := ⟨_, rfl⟩
  obtain ⟨tp, htp⟩ : ∃ tp : Obj, tp = { cls := .type "tuple", data := .seq us.toArray } := ⟨_, rfl⟩
  rw [← hob, ← htp]
  have kp : ∀ b o, h.get? b = some o → ((h.push tp).push ob).get? b = some o := fun b o z => Heap.get?_push_of_some ob (Heap.get?_push_of_some tp z)
  have g1 := kp _ _ gC
  have ge : ((h.push tp).push ob).get? (h.objs.size + 1) = some ob := by
    have := Heap.get?_push_size (h.push tp) (o := ob) (by rw [hob]; rfl)
    rwa [Heap.size_push] at this
  have gt : ((h.push tp).push ob).get? h.objs.size = some tp := Heap.get?_push_of_some ob (Heap.get?_push_size h (by rw [htp]; rfl))
  have cl : ob.cls = .ref C := by rw [hob]
  have me : (Value.ref C :: bm).contains (.ref C) = true := by simp
  unfold isInstance
  repeat (first | rw [cl] | (with_reducible refine wpAny_isSubtype_exc g1 ?_; rw [me]) | (with_reducible refine wpAny_loadPart_at ge ?_) | wp_step)
  show wpAny _ _ (typeLookup (.ref C) _) _ _ _
  refine (PySem.W.looks_findIn (X.keeps kp) hi).at ?_
  refine wpAny_holding (wpAny_bind ((PySem.W.bind_fn (X.keeps kp) (.ref (h.objs.size + 1)) hf).at (wpAny_bind ?_)))
  refine wpAny_mono (k _ (h.objs.size + 1) ⟨kp, Heap.get?_none_of_le (Nat.le_succ _), h.objs.size, by rw [ge, hob], Heap.get?_none_of_le (Nat.le_refl _), by rw [gt, htp]⟩) (fun r s' hr => ?_) fun _ _ z => z
  obtain ⟨rfl, hQ⟩ := hr
  wp_walk
  exact hQ
private theorem ccall_init {fI : Addr} {us : List Value} {Q : Value → Shared → Prop} (X : K.In h) (q : xclsIn K C = true) (hi : PySem.W.findIn K (.ref C) "__init__" = some (some (.ref fI))) (hf : PySem.W.typeIn K (.ref fI) = some (.type "function")) (hl : us.length ≤ sizeLine)
    (k : ∀ h' e, Heap.MadeExcOf h h' e (.ref C) us → wpAny (model prog w) (A.under (.builtin "type.__call__" ⟨.ref C :: us, []⟩)) (call (.ref fI) (.ref e :: us)) (fun r s' => r = .none ∧ Q (.ref e) s') E ⟨h', g, d, t, os⟩) :
    wpAny (model prog w) A (call (.ref C) us) Q E ⟨h, g, d, t, os⟩ := by
  obtain ⟨nm, qn, N, bs, bm, hd, sn, sub, ab, col, dd, k0, k1, k2, k3, k5, lk, tl⟩ := xcls_of q
  have gC := X _ _ lk
  have a1 := tc_lookup
  have a2 := tc_bind (.ref C)
  have a3 : (⟨h, g, d, t, os⟩ : Shared).TypeIs (.ref C) "type" := ⟨_, gC, rfl⟩
  refine wpAny_call (codeAny_of_tree ?_)
  show wpAny _ _ (callAny (.ref C) _) _ _ _
  repeat (any_goals (first | wp_step | assumption | with_reducible refine wpAny_loadPart_at gC ?_))
  refine ⟨rfl, codeAny_call_builtin_at (Code.quiet_builtin _ (by decide +kernel)) entry_typeCall (wpAny_check_type_call_sub gC (tcall_init X q hi hf hl fun h' e hm => ?_))⟩
  exact k h' e hm
private theorem ccall_plain {us : List Value} {Q : Value → Shared → Prop} (X : K.In h) (q0 : xclsIn K C = true) (q : xnsIn K C = true) (hl : us.length ≤ sizeLine)
    (k : ∀ h' e, Heap.MadeExcOf h h' e (.ref C) us → Q (.ref e) ⟨h', g, d, t, os⟩) : wpAny (model prog w) A (call (.ref C) us) Q E ⟨h, g, d, t, os⟩ := by
  obtain ⟨nm, qn, N, bs, bm, hd, sn, sub, ab, col, dd, k0, k1, k2, k3, k5, lk, tl⟩ := xcls_of q0
  unfold xnsIn at q
  rw [lk] at q
  obtain ⟨nk, ni⟩ := and_two (show (PySem.W.nsOkIn K N && PySem.W.nsIn K N "__init__" == some none) = true from q)
  exact wpAny_call_exc_subT (hrest := hl) PySem.F.excBase_ValueError (PySem.W.tail_of_in X tl) (X _ _ lk) (.of_isNs (PySem.W.isNs_of_in X nk)) (PySem.W.nsMap_none_of_in X nk (eq_of_beq ni)) k
end

noncomputable def xMro : List Value → Bool
  | .ref _ :: r => xMro r
  | l => l == xTail
private theorem xMro_refuse (self : Value) : ∀ {l : List Value}, xMro l = true → refuseLoop self "__setattr__" l = pure ()
  | .ref c :: r, e => by rw [refuseLoop_ref]; exact xMro_refuse self (l := r) (by unfold xMro at e; exact e)
  | [], e => by cases e
  | .none :: _, e => by unfold xMro at e; rw [beq_iff_eq.mp e]; exact PySem.F.store_ValueError.passes self
  | .bool _ :: _, e => by unfold xMro at e; rw [beq_iff_eq.mp e]; exact PySem.F.store_ValueError.passes self
  | .int _ _ :: _, e => by unfold xMro at e; rw [beq_iff_eq.mp e]; exact PySem.F.store_ValueError.passes self
  | .str _ _ :: _, e => by unfold xMro at e; rw [beq_iff_eq.mp e]; exact PySem.F.store_ValueError.passes self
  | .type _ :: _, e => by unfold xMro at e; rw [beq_iff_eq.mp e]; exact PySem.F.store_ValueError.passes self
  | v :: l, e => by
    cases v <;> first
      | (unfold xMro at e; rw [beq_iff_eq.mp e]; exact PySem.F.store_ValueError.passes self)
      | (rw [refuseLoop_ref]; exact xMro_refuse self (l := l) (by unfold xMro at e; exact e))
end L3
namespace L3
open PySem PySem.Spec L2
open PyProof.Rows hiding St
open PySem.W (Looks InstAt)

private theorem xMro_has : ∀ {l : List Value}, xMro l = true → l.contains (.type "object") = true
  | [], e => by cases e
  | v :: l, e => by
    cases v <;> first
      | (unfold xMro at e; rw [beq_iff_eq.mp e]; decide +kernel)
      | (rw [List.contains_cons, xMro_has (l := l) (by unfold xMro at e; exact e), Bool.or_true])
noncomputable def xOver (K : PySem.W.Frag) (C : Addr) : Bool := (PySem.W.clsIn K C).any fun cd => xMro cd.mro && cd.hasDict
section
variable {prog : Program} {w : World} {A : Around} {E : Value → Shared → Prop} {s : Shared} {K : PySem.W.Frag} {C x : Addr} {name : Str} {v : Value}
private theorem osa_exc {ox : Obj} {od : Option Obj} {tk : Tok} {R : Result → Shared → Prop} (X : K.In s.heap) (J : InstAt s.heap x ox C od) (hp : xOver K C = true) (ht : PySem.W.takerIn K C name = some none)
    (k : ∀ b, wpAny (model prog w) A.in1 (Builtin.ObjectAttr.storeInOwnDict (.ref x) (.ref C) (.str name tk) name v b) (fun fin s' => match fin with | .done f => R (.ok f) s' | .again c' => c'.quiet = true ∧ codeAny (model prog w) A c' R s') (fun e s' => R (.error e) s') s) :
    codeAny (model prog w) A (.call (.builtin "object.__setattr__") ⟨[.ref x, .str name tk, v], []⟩) R s := by
  have SF := PySem.F.store_object
  obtain ⟨cd, hc, ho⟩ := PySem.W.any_some hp
  rw [Bool.and_eq_true] at ho
  have hm := xMro_has ho.1
  have ne : cd.mro.isEmpty = false := by
    cases q : cd.mro with
    | nil => rw [q] at hm; cases hm
    | cons a b => rfl
  have sub : Looks (model prog w) s.heap (isInstance (.ref x) (.type "object")) true := J.type.andThen (PySem.W.looks_mroIn X (by unfold PySem.W.mroIn; rw [hc, Option.bind_some, if_neg (by rw [ne]; decide), hm]))
  refine codeAny_call_builtin SF.slot.plain SF.entry (@PySem.W.check_slot (model prog w) _ _ s "object.__setattr__" "object" "__setattr__" (.ref x) [.str name tk, v] [] _ SF.kind SF.split sub (SF.args (.ref x) (.str name tk) v) ?_)
  obtain ⟨at_, ha, hr⟩ := Option.bind_eq_some_iff.mp ht
  have mo : Looks (model prog w) s.heap (mroOf (.ref C)) cd.mro := (PySem.W.looks_clsIn X hc).andThen .now
  have tk3 : Looks (model prog w) s.heap (Builtin.ObjectAttr.storeTaker? at_) none := by
    cases at_ with
    | none => exact .now
    | some a =>
      obtain ⟨b, hb, hn⟩ := Option.map_eq_some_iff.mp hr
      refine (PySem.W.looks_takesIn X hb).andThen ?_
      cases b with
      | true => cases hn
      | false => exact .now
  rw [PySem.W.osa_eq, refuse_eq]
  refine wpAny_bind (wpAny_bind (J.type.here (wpAny_bind (mo.here ?_))))
  rw [xMro_refuse _ ho.1]
  exact wpAny_pure (wpAny_bind (J.type.here (wpAny_bind ((PySem.W.looks_findIn X ha).here (wpAny_bind (tk3.here (k _)))))))
private theorem xset0 {fs : Array Value} {sl : Array (Option Value)} {Q : Unit → Shared → Prop} (X : K.In s.heap) (hx : s.heap.get? x = some ⟨.ref C, none, .fields fs, sl⟩) (hs : PySem.W.findIn K (.ref C) "__setattr__" = some (some (.builtin "object.__setattr__")))
    (hp : xOver K C = true) (ht : PySem.W.takerIn K C name = some none)
    (k : ∀ h' tk, h'.get? x = some ⟨.ref C, some s.heap.objs.size, .fields fs, sl⟩ → h'.Ns1 s.heap.objs.size (fun y => if y = name then some v else none) → (∀ b o, b ≠ x → s.heap.get? b = some o → h'.get? b = some o) → Q () { s with heap := h', toks := tk }) :
    wpAny (model prog w) A (setAttr (.ref x) name v) Q E s := by
  have J : InstAt s.heap x ⟨.ref C, none, .fields fs, sl⟩ C none := ⟨hx, rfl, rfl, trivial⟩
  obtain ⟨cd, hc, ho⟩ := PySem.W.any_some hp
  rw [Bool.and_eq_true] at ho
  refine PySem.W.set_plain X J hs (osa_exc (s := { s with toks := s.toks + 1 }) X J hp ht fun b => ?_)
  refine wpAny_bind (wpAny_pure (wpAny_bind (wpAny_bind (wpAny_loadPart hx (wpAny_bind (Looks.here (s := { s with toks := s.toks + 1 }) (PySem.W.looks_clsIn X hc) ?_))))))
  rw [ho.2]
  show wpAny _ _ (do let dn ← alloc { cls := .type "dict", data := .dict #[] }; update x (fun o => { o with dict := some dn }); dictMade (.ref C) x dn) _ _ _
  obtain ⟨D0, hD0⟩ : ∃ D0 : Obj, D0 = { cls := .type "dict", data := .dict #[] } := ⟨_, rfl⟩
  rw [← hD0]
  have x1 : (s.heap.push D0).get? x = some ⟨.ref C, none, .fields fs, sl⟩ := Heap.get?_push_of_some D0 hx
  have xs : x ≠ s.heap.objs.size := Nat.ne_of_lt (Heap.lt_size hx)
  refine wpAny_bind (wpAny_alloc (wpAny_bind (wpAny_update x1 (wpAny_pure ?_))))
  have gd : ((s.heap.push D0).update x fun o => { o with dict := some s.heap.objs.size }).get? s.heap.objs.size = some D0 := (Heap.get?_update_ne _ _ _ _ xs.symm).trans (Heap.get?_push_size s.heap (by rw [hD0]; rfl))
  have nd : ((s.heap.push D0).update x fun o => { o with dict := some s.heap.objs.size }).Ns s.heap.objs.size (fun _ => none) := ⟨D0, #[], _, gd, by rw [hD0], fun e he => absurd he (by simp), fun _ => rfl⟩
  have gx : ((s.heap.push D0).update x fun o => { o with dict := some s.heap.objs.size }).get? x = some ⟨.ref C, some s.heap.objs.size, .fields fs, sl⟩ := Heap.get?_update_self _ x1 rfl
  show wpAny _ _ (Builtin.ObjectAttr.storeInDict s.heap.objs.size (.str name s.toks) name v) _ _ _
  unfold Builtin.ObjectAttr.storeInDict Builtin.ObjectAttr.newKeyGuard
  refine wpAny_bind (wpAny_pure (wpAny_bind (wpAny_nsSet1 (Heap.Ns1.of_empty nd) fun h' n' sb => ?_)))
  obtain ⟨oD, eD, pD, go, dD, cD⟩ := n'.count (Within.cons name v Within.nil)
  refine wpAny_bind (wpAny_lookBehind go (by rw [dD]; exact pastItsLine_dict (Nat.le_trans cD (by rw [List.length_cons, List.length_nil, sizeLine_eq]; omega))) (wpAny_pure ?_))
  exact k h' _ ((sb.2 x xs).trans gx) n' fun b o bx q => (sb.2 b (Nat.ne_of_lt (Heap.lt_size q))).trans ((Heap.get?_update_ne _ _ _ _ bx).trans (Heap.get?_push_of_some D0 q))
end
end L3
namespace L3
open PySem PySem.Spec L2
open PyProof.Rows hiding St

noncomputable def exH (e C : Addr) (od : Option Addr) : HO := .ext fun h => ∃ vs sl, h.get? e = some ⟨.ref C, od, .fields vs, sl⟩ ∧ vs[1]? = some .none
noncomputable def dcH (d : Addr) (fs : List (Str × V)) : HO := .ext fun h => ∃ mA, h.Ns1 d mA ∧ (∀ f, RelO (fs.lookup f) (mA f)) ∧ PySem.Within mA (fs.map (·.1))
section
variable {P : Program} {w : World} {H : Hp} {h h' : Heap}
private theorem exH_ok {e C : Addr} {od : Option Addr} {vs : Array Value} {sl : Array (Option Value)} (g : h.get? e = some ⟨.ref C, od, .fields vs, sl⟩) (v1 : vs[1]? = some .none) : ObjOk P w H h e (exH e C od) :=
  ⟨⟨vs, sl, g, v1⟩, ⟨_, g⟩, fun h1 h2 ⟨vs, sl, g, v1⟩ k => ⟨vs, sl, k _ g, v1⟩⟩
private theorem exH_get {e C : Addr} {od : Option Addr} (ok : HOk P w H h) (q : H e = some (exH e C od)) : ∃ vs sl, h.get? e = some ⟨.ref C, od, .fields vs, sl⟩ ∧ vs[1]? = some .none := by
  obtain ⟨z, _⟩ := (show ObjOk P w H h e (exH e C od) from ok e _ q)
  exact z
private theorem dcH_ok {d : Addr} {fs : List (Str × V)} {mA : Str → Option Value} (n : h.Ns1 d mA) (r : ∀ f, RelO (fs.lookup f) (mA f)) (i : PySem.Within mA (fs.map (·.1))) : ObjOk P w H h d (dcH d fs) :=
  ⟨⟨mA, n, r, i⟩, let ⟨o, _, _, e, _⟩ := n; ⟨o, e⟩, fun h1 h2 ⟨mA, n, r, i⟩ k => ⟨mA, n.at fun o q => k o q, r, i⟩⟩
private theorem dcH_get {d : Addr} {fs : List (Str × V)} (ok : HOk P w H h) (q : H d = some (dcH d fs)) : ∃ mA, h.Ns1 d mA ∧ (∀ f, RelO (fs.lookup f) (mA f)) ∧ PySem.Within mA (fs.map (·.1)) := by
  obtain ⟨z, _⟩ := (show ObjOk P w H h d (dcH d fs) from ok d _ q)
  exact z
private theorem Un.both {fs ex : List Addr} {a d : Addr} {o1 o2 : HO} (mu : Mut (H a)) (k : ∀ b o, b ≠ a → h.get? b = some o → h'.get? b = some o) (ha : ∃ o, h'.get? a = some o) (hd : h.objs.size ≤ d) (hn : H d = none) : Un fs ex H (upd (upd H d o1) a o2) h h' := by
  have na : ∀ b, H b = none → b ≠ a := fun b n z => by subst z; rw [n] at mu; exact mu
  have nm : ∀ b u, H b = some u → ¬ Mut (some u) → b ≠ a := fun b u q no z => by subst z; rw [q] at mu; exact no mu
  have two : ∀ b u, H b = some u → b ≠ a → upd (upd H d o1) a o2 b = some u := fun b u q z => by rw [upd_ne z, upd_ne (ne_of_none q hn)]; exact q
  refine ⟨fun b u q n _ _ => k b u (na b n) q, fun b u q n _ _ => ⟨u.slots, k b u (na b n) q⟩, fun b u q n _ => ?_, fun b u q _ => ?_, fun b xs q => two b _ q (nm b _ q fun z => z), fun b u v q => two b _ q (nm b _ q fun z => z), fun b ps q => ⟨#[], by rw [two b _ q (nm b _ q fun z => z)]; simp⟩⟩
  · rw [upd_ne (na b n), upd_ne (Nat.ne_of_lt (Nat.lt_of_lt_of_le (Heap.lt_size q) hd))]; exact n
  · by_cases z : b = a
    · subst z; exact ha
    · exact ⟨u, k b u z q⟩
private theorem HOk.both {a d : Addr} {o1 o2 : HO} (ok : HOk P w H h) (mu : Mut (H a)) (k : ∀ b o, b ≠ a → h.get? b = some o → h'.get? b = some o) (hd : h.objs.size ≤ d) (n1 : ObjOk P w (upd (upd H d o1) a o2) h' d o1) (n2 : ObjOk P w (upd (upd H d o1) a o2) h' a o2) (nd : d ≠ a) :
    HOk P w (upd (upd H d o1) a o2) h' := fun b u q => by
  have hn := ok.fresh hd
  have nm : ∀ c v, H c = some v → ¬ Mut (some v) → c ≠ a := fun c v r no z => by subst z; rw [r] at mu; exact no mu
  by_cases z : b = a
  · subst z; rw [upd_same] at q; cases q; exact n2
  · rw [upd_ne z] at q
    by_cases y : b = d
    · subst y; rw [upd_same] at q; cases q; exact n1
    · rw [upd_ne y] at q
      refine (ok b u q).stay (fun c v hc r => k c v ?_ r) (fun c r => ?_) fun c xs r => ?_
      · rcases hc with rfl | r'
        · exact z
        · exact nm c _ r' fun z => z
      · rw [upd_ne (nm c _ r fun z => z), upd_ne (ne_of_none r hn)]; exact r
      · rw [upd_ne (nm c _ r fun z => z), upd_ne (ne_of_none r hn)]; exact r
end
structure XCl (K : PySem.W.Frag) (C : Addr) : Prop where
  sa : PySem.W.findIn K (.ref C) "__setattr__" = some (some (.builtin "object.__setattr__"))
  ov : xOver K C = true
section
variable {X : Cx} {o e value : Expr} {f : Str} {pos pos' : Pos} {ta tv : TE}
private theorem ps_xfld0 (ha : PE X o ta) (hv : PE X value tv) (hs : autoParam (swapsWith value (some (.Attribute o f pos')) pos.line X.env = pure false) _root_.zt2) : PS X (.Assign [.Attribute o f pos'] value pos) (fun D σ H => tv σ H fun y H1 => ta σ H1 fun x H2 =>
    ∃ a C, x = .ref a ∧ H2 a = some (exH a C none) ∧ XCl X.K C ∧ NoAttr X.K C f ∧ ∀ d, H2 d = none → d ≠ a → D.nx σ (upd (upd H2 d (dcH d [(f, y)])) a (exH a C (some d)))) := by
  intro pins s σ H D I q
  refine plainObj_wpAny_Assign_Attribute (thn (hv pins s σ H _ I q) fun u s1 ⟨y, H1, I1, ry, q⟩ => thn (ha pins s1 σ H1 _ I1 q) fun ov s2 zq9 => ?_) hs
  obtain ⟨x, H2, I2, rx, a, C, ex, ea, c, n, k⟩ := zq9
  subst ex
  obtain rfl : ov = Value.ref a := rx
  obtain ⟨vs, sl, ga, v1⟩ := exH_get I2.hok ea
  have mu : Mut (H2 a) := by rw [ea]; exact trivial
  have nd : s2.heap.objs.size ≠ a := Nat.ne_of_gt (Heap.lt_size ga)
  have hf := I2.hok.fresh (Nat.le_refl s2.heap.objs.size)
  refine xset0 I2.kIn ga c.sa c.ov n.taker fun h' tk g' n' kp => ⟨σ, _, I2.un (t' := tk) (Un.both mu kp ⟨_, g'⟩ (Nat.le_refl _) hf) (HOk.both I2.hok mu kp (Nat.le_refl _) (dcH_ok n' (fun g => ?_) fun g hg => ?_) (exH_ok g' v1) nd), k _ hf nd⟩
  · show RelO (List.lookup g [(f, y)]) (if g = f then some u else none)
    by_cases z : g = f
    · have : (g == f) = true := beq_iff_eq.mpr z
      simp only [List.lookup, this, if_pos z]; exact ry
    · have : (g == f) = false := beq_eq_false_iff_ne.mpr z
      simp only [List.lookup, this, if_neg z]; trivial
  · by_cases z : g = f
    · rw [z]; simp
    · exact absurd (by show (if g = f then some u else none) = none; rw [if_neg z]) hg
end
noncomputable def spI (C : Addr) (fn : List Str) : Sp := fun vs H Q _ => ∃ e ys, vs = .ref e :: ys ∧ ys.length = fn.length ∧ H e = some (exH e C none) ∧ ∀ d, H d = none → d ≠ e → Q .non (upd (upd H d (dcH d (fn.zip ys))) e (exH e C (some d)))
section
variable {P : Program} {w : World} {K : PySem.W.Frag} {mg : Str → Option Value} {base : Heap}
private theorem init1 {qual p0 p1 f1 : Str} {st : Stmt} {f C : Addr} {fd : FuncData} {po po' po2 po3 : Pos} (F : Fun K "__init__" qual st f fd) (S : FnScope [p0, p1] [p0, p1] (defScope st)) (c : XCl K C) (n : NoAttr K C f1)
    (hb : defBody st = [.Assign [.Attribute (.Name p0 po2) f1 po'] (.Name p1 po3) po]) (v0 : Vis (defScope st) p0) (v1 : Vis (defScope st) p1) (d0 : autoParam ((p0 == ("__debug__" : Str)) = false) _root_.zt1) (d1 : autoParam ((p1 == ("__debug__" : Str)) = false) _root_.zt1)
    (c0 : autoParam ((p0 == ("__classdict__" : Str)) = false) _root_.zt1) (c1 : autoParam ((p1 == ("__classdict__" : Str)) = false) _root_.zt1) : FnOk P w K mg base CX0 1 f fd [p0, p1] (spI C [f1]) := by
  refine F.ok (k := 0) S (fun vs H Q E ⟨e, ys, e1, e2, _⟩ => by rw [e1, List.length_cons, e2]; rfl) fun cdv A outer s H vs Q E hr zq9 => ?_
  obtain ⟨e, ys, e1, e2, eh, k⟩ := zq9
  subst e1
  obtain ⟨y, rfl⟩ := len1 e2
  rw [hb]
  refine ⟨_, pss_one (ps_xfld0 (pe_var (i := 0) rfl v0 d0 c0) (pe_var (i := 1) rfl v1 d1 c1)), y, rfl, .ref e, rfl, e, C, rfl, eh, c, n, fun d hd nd => ?_⟩
  exact k d hd nd
end
end L3
namespace L3
open PySem PySem.Spec L2
open PyProof.Rows hiding St

noncomputable def Cov (B : Heap) (fs : List Addr) (h : Heap) (H' : Hp) (h' : Heap) : Prop := ∀ b o, ((∃ o0, h.get? b = some o0) ∧ b ∉ fs ∨ ∃ u, H' b = some u) → h'.get? b = some o → B.get? b = some o
structure Lie (P : Program) (w : World) (l : List Env) (H : Hp) (s : Shared) (H' : Hp) (C : Addr) (dx : Option Addr) (e : Value) (s' : Shared) : Prop where
  ex : ∃ a B, e = .ref a ∧ Flies B l a (.ref C) dx s'.heap ∧ Cov B (frs l) s.heap H' s'.heap ∧ H' a = none ∧ s.heap.get? a = none
  os : s'.os = s.os
  bare : AllBare s'.gens
  un : Un (frs l) [] H H' s.heap s'.heap
  hok : HOk P w H' s'.heap
noncomputable abbrev CX1 (P : Program) (w : World) : CXT := fun outer H s E e s' => ∃ C dx H', Lie P w outer H s H' C dx e s' ∧ E (.ref C) dx H'
noncomputable def Lies (X : Cx) (σ : St) (H' : Hp) (C : Addr) (dx : Option Addr) (e : Value) (s' : Shared) : Prop := ∃ pins H s, Inv X pins σ H s ∧ Lie X.prog X.w X.stack H s H' C dx e s'
private theorem hok_flies {P : Program} {w : World} {B : Heap} {H' : Hp} {h h' : Heap} (ok : HOk P w H' h) (st : B.StaysIn h') (cv : ∀ b u o, H' b = some u → h.get? b = some o → B.get? b = some o) : HOk P w H' h' := fun b u q =>
  (ok b u q).stay (fun c v hc r => st c v (by
    rcases hc with rfl | hc
    · exact cv c u v q r
    · exact cv c _ v hc r)) (fun _ r => r) fun _ _ r => r
private theorem _root_.L2.ObjOk.here {P : Program} {w : World} {H : Hp} {h : Heap} {a : Addr} {o : HO} (x : ObjOk P w H h a o) : ∃ ob, h.get? a = some ob := by
  cases o with
  | lst xs => obtain ⟨_, _, _, _, e⟩ := x; exact ⟨_, e⟩
  | tup xs => obtain ⟨_, _, _, o, e, _⟩ := x; exact ⟨_, e⟩
  | dK kvs => obtain ⟨_, _, _, _, o, _, _, e, _⟩ := x; exact ⟨_, e⟩
  | dT kvs => obtain ⟨_, _, _, _, o, _, _, e, _⟩ := x; exact ⟨_, e⟩
  | set S n => obtain ⟨o, _, _, _, e, _⟩ := x; exact ⟨_, e⟩
  | ins C dx fs => obtain ⟨_, _, _, e, _⟩ := x; exact ⟨_, e⟩
  | own y => exact x
  | xd fs => obtain ⟨_, ⟨_, _, _, e, _⟩, _⟩ := x; exact ⟨_, e⟩
  | rng lo hi => obtain ⟨_, _, _, e⟩ := x; exact ⟨_, e⟩
  | frz ob u => obtain ⟨e, _⟩ := x; exact ⟨_, e⟩
  | tbl ps => exact ⟨_, show h.get? a = some _ from x⟩
  | met f y => exact ⟨_, show h.get? a = some _ from x⟩
  | ext φ => obtain ⟨_, e, _⟩ := x; exact e
private theorem Lies.leave {CX : CXT} {P : Program} {w : World} {K : PySem.W.Frag} {mg : Str → Option Value} {base : Heap} {N : List Str} {qual : Str} {scope : Scope} {f : Addr} {cd : Value} {A : Around} {outer : List Env} {s₀ : Shared} {H₀ : Hp} {E : XK} {σ : St} {H' : Hp} {C : Addr} {dx : Option Addr} {e : Value} {s' : Shared}
    (x : Lies (cxOf (CX1 P w) P w K mg base N qual scope f cd A outer s₀ H₀ E) σ H' C dx e s') (hE : E (.ref C) dx H') : (cxOf (CX1 P w) P w K mg base N qual scope f cd A outer s₀ H₀ E).xe e s' := by
  obtain ⟨pins, H, s, I, ⟨a, B, rfl, fl, cv, fa, na⟩, os, bare, un, hok⟩ := x
  have above := I.ok.above
  have frames := I.ok.frames
  have bs : Un (frs outer) [] H₀ H s₀.heap s.heap := I.base
  have frf : ∀ b ∈ frs outer, H₀ b = none := I.ok.frf
  have sub : ∀ b, b ∈ frs (envOfC qual scope s₀.heap.objs.size f cd :: outer) → b = s₀.heap.objs.size ∨ b ∈ frs outer := fun b hb => by
    have := I.stkSub b hb
    rcases List.mem_cons.mp this with z | z
    · exact .inl z
    · exact .inr z
  have nst : ∀ b o, s₀.heap.get? b = some o → b ∉ frs outer → b ∉ frs (envOfC qual scope s₀.heap.objs.size f cd :: outer) := fun b o q nb hb => by
    rcases sub b hb with z | z
    · exact absurd (Heap.lt_size q) (by rw [z]; exact Nat.lt_irrefl _)
    · exact nb z
  show wpAny _ _ (leaving _ _) _ _ s'
  refine leave_land (L := s₀.heap.objs.size) frames rfl fl fun h' fl' up => ?_
  have inB : ∀ b o, s₀.heap.get? b = some o → b ∉ frs outer → ∃ o', s'.heap.get? b = some o' ∧ B.get? b = some o' ∧ h'.get? b = some o' := fun b o q nb => by
    obtain ⟨o1, q1⟩ := bs.there b o q (by simp)
    obtain ⟨o2, q2⟩ := un.there b o1 q1 (by simp)
    have := cv b o2 (.inl ⟨⟨o1, q1⟩, nst b o q nb⟩) q2
    exact ⟨o2, q2, this, fl'.st b o2 this⟩
  refine ⟨C, dx, H', ⟨⟨a, B, rfl, fl'.pop, fun b o hb q => ?_, fa, ?_⟩, os.trans I.os, bare, ⟨fun b o q n nb _ => ?_, fun b o q n hb _ => ?_, fun b o q n _ => ?_, fun b o q _ => ?_, fun b xs q => un.tups b xs (bs.tups b xs q), fun b o u q => un.frzs b o u (bs.frzs b o u q), fun b ps q => ?_⟩, hok_flies hok fl'.st fun b u o r q => cv b o (.inr ⟨u, r⟩) q⟩, hE⟩
  · rcases hb with ⟨⟨o0, q0⟩, nb⟩ | ⟨u, hu⟩
    · obtain ⟨o', _, b1, b2⟩ := inB b o0 q0 nb
      rw [b2] at q; cases q; exact b1
    · obtain ⟨o2, q2⟩ : ∃ o2, s'.heap.get? b = some o2 := (hok b u hu).here
      have b1 := cv b o2 (.inr ⟨u, hu⟩) q2
      have b2 := fl'.st b o2 b1
      rw [b2] at q; cases q; exact b1
  · cases z : s₀.heap.get? a with
    | none => rfl
    | some o =>
      obtain ⟨o1, q1⟩ := bs.there a o z (by simp)
      rw [na] at q1; cases q1
  · have q1 := bs.keep b o q n nb (by simp)
    have n1 := bs.free b o q n (by simp)
    have q2 := un.keep b o q1 n1 (nst b o q nb) (by simp)
    exact fl'.st b o (cv b o (.inl ⟨⟨o, q1⟩, nst b o q nb⟩) q2)
  · obtain ⟨sl1, q1⟩ := bs.slot b o q n hb (by simp)
    have n1 := bs.free b o q n (by simp)
    obtain ⟨sl2, q2⟩ := un.any q1 n1 (by simp)
    have nf : ∀ vs, o.data ≠ .fields vs := by
      have m : b ∈ (envOfC qual scope s₀.heap.objs.size f cd :: outer).filterMap (·.frame) := by
        obtain ⟨en, he, hf⟩ := List.mem_filterMap.mp hb
        exact List.mem_filterMap.mpr ⟨en, List.mem_cons_of_mem _ he, hf⟩
      obtain ⟨_, o3, q3, no⟩ := fl.fr.mem m
      rw [q2] at q3; cases q3
      exact no
    obtain ⟨sl3, q3⟩ := up b _ q2 nf
    exact ⟨sl3, q3⟩
  · obtain ⟨o1, q1⟩ := bs.there b o q (by simp)
    exact un.free b o1 q1 (bs.free b o q n (by simp)) (by simp)
  · by_cases nb : b ∈ frs outer
    · obtain ⟨sl1, q1⟩ := bs.slot b o q (frf b nb) nb (by simp)
      have n1 := bs.free b o q (frf b nb) (by simp)
      obtain ⟨sl2, q2⟩ := un.any q1 n1 (by simp)
      have m : b ∈ (envOfC qual scope s₀.heap.objs.size f cd :: outer).filterMap (·.frame) := by
        obtain ⟨en, he, hf⟩ := List.mem_filterMap.mp nb
        exact List.mem_filterMap.mpr ⟨en, List.mem_cons_of_mem _ he, hf⟩
      obtain ⟨_, o3, q3, no⟩ := fl.fr.mem m
      rw [q2] at q3; cases q3
      obtain ⟨sl3, q4⟩ := up b _ q2 no
      exact ⟨_, q4⟩
    · obtain ⟨o', _, _, b2⟩ := inB b o q nb
      exact ⟨o', b2⟩
  · obtain ⟨m1, e1⟩ := bs.tbls b ps q
    obtain ⟨m2, e2⟩ := un.tbls b _ e1
    exact ⟨m1 ++ m2, by rw [e2, Array.append_assoc]⟩
end L3
namespace L3
open PySem PySem.Spec L2
open PyProof.Rows hiding St

section
variable {M : Model} {A : Around} {E : Value → Shared → Prop} {env : Env} {s : Shared} {K : PySem.W.Frag} {C : Addr}
private theorem raise_own {x : Sem Value} {Q : Flow → Shared → Prop} (q : xclsIn K C = true) (hh : A.handled = none)
    (k : wpAny M A x (fun v s' => ∃ e od vs sl, v = .ref e ∧ K.In s'.heap ∧ s'.heap.get? e = some ⟨.ref C, od, .fields vs, sl⟩ ∧ vs[1]? = some .none ∧ E (.ref e) s') E s) : wpAny M A (raiseStmt env (some x) none) Q E s := by
  obtain ⟨nm, qn, N, bs, bm, hd, sn, sub, ab, col, dd, k0, k1, k2, k3, k5, lk, tl⟩ := xcls_of q
  unfold raiseStmt
  refine wpAny_bind (wpAny_mono k (fun v s' k' => ?_) fun _ _ z => z)
  obtain ⟨e, od, vs, sl, rfl, X, ge, v1, hE⟩ := k'
  have gC := X _ _ lk
  have me : (Value.ref C :: bm).contains (.type "BaseException") = true := by rw [List.contains_cons, (PySem.W.tail_of_in X tl).hasType (show xTail.contains (.type "BaseException") = true by decide +kernel), Bool.or_true]
  obtain ⟨hp, g, d, tk, os⟩ := s'
  repeat (first | with_reducible refine wpAny_loadPart_at gC ?_ | (with_reducible refine wpAny_isSubtype_exc gC ?_; rw [me]) | with_reducible refine wpAny_loadPart_at ge ?_ | wp_step)
  rw [v1]
  refine wpAny_pure ?_
  rw [if_neg (by decide)]
  exact wpAny_pure (wpAny_raiseNew_none hh hE)
end
section
variable {P : Program} {w : World} {H : Hp} {h h' : Heap} {a : Addr} {o : HO}
private theorem hok_none (ok : HOk P w H h) (g : h.get? a = none) : H a = none := by
  cases q : H a with
  | none => rfl
  | some u =>
    obtain ⟨ob, z⟩ := (ok a u q).here
    rw [g] at z; cases z
private theorem Un.laidN {fs ex : List Addr} (k : ∀ b u, h.get? b = some u → h'.get? b = some u) (g : h.get? a = none) (hn : H a = none) : Un fs ex H (upd H a o) h h' where
  keep := fun b u q _ _ _ => k b u q
  slot := fun b u q _ _ _ => ⟨u.slots, k b u q⟩
  free := fun b u q n _ => by rw [upd_ne (fun z => by rw [z, g] at q; cases q)]; exact n
  there := fun b u q _ => ⟨u, k b u q⟩
  tups := fun b xs q => by rw [upd_ne (ne_of_none q hn)]; exact q
  frzs := fun b u xs q => by rw [upd_ne (ne_of_none q hn)]; exact q
  tbls := fun b ps q => ⟨#[], by rw [upd_ne (ne_of_none q hn), q]; simp⟩
private theorem HOk.laidN (ok : HOk P w H h) (k : ∀ b u, h.get? b = some u → h'.get? b = some u) (g : h.get? a = none) (new : ObjOk P w (upd H a o) h' a o) : HOk P w (upd H a o) h' := fun b u q => by
  have hn := hok_none ok g
  by_cases z : b = a
  · subst z; rw [upd_same] at q; cases q; exact new
  · rw [upd_ne z] at q
    exact (ok b u q).stay (fun c v _ r => k c v r) (fun c r => by rw [upd_ne (ne_of_none r hn)]; exact r) fun c xs r => by rw [upd_ne (ne_of_none r hn)]; exact r
end
noncomputable def forget (e : Addr) (H : Hp) : Hp := fun b => if b = e then none else H b
private theorem forget_ne {e b : Addr} {H : Hp} (h : b ≠ e) : forget e H b = H b := by unfold forget; rw [if_neg h]
private theorem forget_upd {e : Addr} {H : Hp} {o : HO} (h : H e = none) : forget e (upd H e o) = H := by
  funext b
  unfold forget upd
  by_cases z : b = e
  · rw [if_pos z, z, h]
  · rw [if_neg z, if_neg z]
section
variable {X : Cx} {pins : List (Addr × Obj)} {σ : St} {H1 H2 : Hp} {s1 s3 : Shared} {e C : Addr} {od : Option Addr}
private theorem lies_of (I1 : Inv X pins σ H1 s1) (I3 : Inv X pins σ H2 s3) (os : s3.os = s1.os) (un : Un (frs X.stack) [] H1 H2 s1.heap s3.heap) (he : H2 e = some (exH e C od)) (ne : s1.heap.get? e = none) : Lies X σ (forget e H2) C od (.ref e) s3 := by
  obtain ⟨vs, sl, ge, v1⟩ := exH_get I3.hok he
  have n1 := hok_none I1.hok ne
  have nef : e ∉ frs X.stack := fun m => by rw [I3.stkFree e m] at he; cases he
  have hide : ∀ b o, s3.heap.get? b = some o → b ≠ e → b ∉ frs X.stack → (PySem.W.hideAll s3.heap (e :: frs X.stack)).get? b = some o := fun b o q b1 b2 => PySem.W.hideAll_get _ q fun m => by
    rcases List.mem_cons.mp m with z | z
    · exact b1 z
    · exact b2 z
  have gone : ∀ b, b ∈ e :: frs X.stack → (PySem.W.hideAll s3.heap (e :: frs X.stack)).get? b = none := fun b m => PySem.W.hideAll_none _ m
  have fr3 : s3.heap.FunFrames (PySem.W.hideAll s3.heap (e :: frs X.stack)) X.stack := PySem.W.funFrames_hide I3.stack fun env he b hb => List.mem_cons_of_mem _ (List.mem_filterMap.mpr ⟨env, he, hb⟩)
  refine ⟨pins, H1, s1, I1, ⟨e, PySem.W.hideAll s3.heap (e :: frs X.stack), rfl, ⟨fun b o q => PySem.W.of_hideAll _ q, gone e List.mem_cons_self, fr3, _, vs, .none, ge, rfl, rfl, rfl, v1, .inl rfl⟩, fun b o hb q => ?_, by unfold forget; rw [if_pos rfl], ne⟩,
    os, I3.bare, ⟨un.keep, un.slot, fun b o q n hx => ?_, un.there, fun b xs q => ?_, fun b u v q => ?_, fun b ps q => ?_⟩, fun b u q => ?_⟩
  · rcases hb with ⟨⟨o0, q0⟩, nb⟩ | ⟨u, hu⟩
    · exact hide b o q (fun z => by rw [z, ne] at q0; cases q0) nb
    · have b1 : b ≠ e := fun z => by rw [z] at hu; unfold forget at hu; rw [if_pos rfl] at hu; cases hu
      rw [forget_ne b1] at hu
      exact hide b o q b1 fun m => by rw [I3.stkFree b m] at hu; cases hu
  · rw [forget_ne (fun z => by rw [z, ne] at q; cases q)]; exact un.free b o q n hx
  · rw [forget_ne (ne_of_none q n1)]; exact un.tups b xs q
  · rw [forget_ne (ne_of_none q n1)]; exact un.frzs b u v q
  · rw [forget_ne (ne_of_none q n1)]; exact un.tbls b ps q
  · have b1 : b ≠ e := fun z => by rw [z] at q; unfold forget at q; rw [if_pos rfl] at q; cases q
    rw [forget_ne b1] at q
    refine (I3.hok b u q).stay (fun _ _ _ r => r) (fun c r => ?_) fun c xs r => ?_
    · rw [forget_ne (ne_of r he (fun z => by cases z))]; exact r
    · rw [forget_ne (ne_of r he (fun z => by cases z))]; exact r
end
section
variable {X : Cx} {c : Str} {p pos cpos : Pos} {e : Expr} {es : List Expr} {t : TA} {C fI : Addr} {fd : FuncData} {ps fn : List Str} {k : Nat}
private theorem ps_raiseI (q : xclsIn X.K C = true) (hi : PySem.W.findIn X.K (.ref C) "__init__" = some (some (.ref fI))) (hf : PySem.W.typeIn X.K (.ref fI) = some (.type "function")) (kp : PySem.W.keepIn X.K (.ref C) = true)
    (F : FnOk X.prog X.w X.K X.mg X.base CX0 k fI fd ps (spI C fn)) (hr : Room (k + 1) X.A) (hb : Binds X.K fd ps []) (hfn : fn.length ≤ 1000) (hg : Gl X c) (hm : X.mg c = some (.ref C)) (ha : PA X (e :: es) t) (hdb : autoParam ((c == ("__debug__" : Str)) = false) _root_.zt1)
    (he : autoParam (starEach (e :: es) X.env = (false, eval e X.env) :: starEach es X.env) _root_.zt2) (hpl : autoParam ((backTo cpos (starEach es X.env)).any (·.1) = false) _root_.zt2) :
    PS X (.Raise (some (.Call (.Name c p) (e :: es) [] cpos)) none pos) (fun _ σ H => t σ H fun vs H1 => vs.length = fn.length ∧ ∀ d ex s', H1 d = none → Lies X σ (upd H1 d (dcH d (fn.zip vs))) C (some d) ex s' → X.xe ex s') := by
  intro pins s σ H D I hq
  rw [arm_exec_Raise]
  simp only [evalOpt, Option.map]
  refine wpAny_bind (wpAny_standAt (raise_own (K := X.K) q hr.hd (wpAny_bind (wpAny_mono (wpAny_Call_Name_kw (ld_glob I hg hm ?_ hdb)) (fun v s3 h3 => wpAny_bind (wpAny_standAt (wpAny_pure h3))) fun _ _ z => z))))
  refine PySem.W.callWith_K (h₀ := X.base) I.ok.mod.kin kp (thn (ha cpos pins s σ H _ I hq) fun us s1 ⟨vs, H1, I1, r, hl, q2⟩ => ⟨I1.kIn, ?_⟩) he hpl
  obtain ⟨h1, gg, dr, t1, os1⟩ := s1
  have zl : us.length ≤ sizeLine := by rw [← r.length, hl]; exact Nat.le_of_lt (small1000 hfn)
  refine ccall_init I1.kIn q hi hf zl fun h' ea made => ?_
  obtain ⟨tt, g1, _, _⟩ := made.there
  have ok1 : ObjOk X.prog X.w (upd H1 ea (exH ea C none)) h' ea (exH ea C none) := exH_ok g1 rfl
  have u1 : ∀ fs, Un fs [] H1 (upd H1 ea (exH ea C none)) h1 h' := fun fs => Un.laidN made.keeps made.new (hok_none I1.hok made.new)
  have I2 : L2.Inv X pins σ (upd H1 ea (exH ea C none)) ⟨h', gg, dr, t1, os1⟩ := I1.un (t' := t1) (u1 _) (HOk.laidN I1.hok made.keeps made.new ok1)
  refine wpAny_call (codeAny_mono (F.run _ X.stack _ _ ⟨.ref ea :: us, []⟩ (.ref ea :: us ++ []) _ (fun v H2 => v = .non ∧ ∃ dn, (upd H1 ea (exH ea C none)) dn = none ∧ dn ≠ ea ∧ H2 = upd (upd (upd H1 ea (exH ea C none)) dn (dcH dn (fn.zip vs))) ea (exH ea C (some dn))) E0 (hr.make C us []) (I2.env0.make C us [])
    (hb _ (.ref ea :: us) I2.kIn ?_) (.cons (show RelV (.ref ea) (.ref ea) from rfl) (show Vals vs (us ++ []) by rw [List.append_nil]; exact r)) ⟨ea, vs, rfl, hl, upd_same, fun dn h1 h2 => ⟨rfl, dn, h1, h2, rfl⟩⟩) fun fl s3 hq3 => ?_)
  · have := F.len (.ref ea :: vs) (upd H1 ea (exH ea C none)) (fun _ _ => True) E0 ⟨ea, vs, rfl, hl, upd_same, fun _ _ _ => trivial⟩
    rw [← this, List.append_nil, List.length_cons, List.length_cons, r.length]
  · cases fl with
    | error x => exact hq3.elim
    | ok fl =>
      cases fl with
      | ret u =>
        obtain ⟨v, H3, os3, bare3, un3, hok3, rv, rfl, dn, f1, f2, rfl⟩ := hq3
        have I3 := I2.call' os3 un3 hok3 bare3 (fun b z => absurd z (by simp))
        obtain ⟨vs', sl', ge, v1⟩ := exH_get I3.hok upd_same
        refine ⟨rv, ea, _, vs', sl', rfl, I3.kIn, ge, v1, q2 dn _ _ ?_ ?_⟩
        · rw [upd_ne f2] at f1; exact f1
        · have ly := lies_of I1 I3 os3 ((u1 _).trans un3) upd_same made.new
          have n1 : H1 ea = none := hok_none I1.hok made.new
          have e9 : forget ea (upd (upd (upd H1 ea (exH ea C none)) dn (dcH dn (fn.zip vs))) ea (exH ea C (some dn))) = upd H1 dn (dcH dn (fn.zip vs)) := by
            funext b
            by_cases z : b = ea
            · subst z; unfold forget upd; rw [if_pos rfl, if_neg f2.symm, n1]
            · rw [forget_ne z, upd_ne z]
              by_cases y : b = dn
              · rw [y, upd_same, upd_same]
              · rw [upd_ne y, upd_ne y, upd_ne z]
          rw [e9] at ly
          exact ly
      | next => exact hq3.elim
      | brk => exact hq3.elim
      | cont => exact hq3.elim
private theorem ps_raiseP (q0 : xnsIn X.K C = true) (q : xclsIn X.K C = true) (kp : PySem.W.keepIn X.K (.ref C) = true) (hr : Room k X.A) (hg : Gl X c) (hm : X.mg c = some (.ref C)) (ha : PA X (e :: es) t) (hdb : autoParam ((c == ("__debug__" : Str)) = false) _root_.zt1)
    (he : autoParam (starEach (e :: es) X.env = (false, eval e X.env) :: starEach es X.env) _root_.zt2) (hpl : autoParam ((backTo cpos (starEach es X.env)).any (·.1) = false) _root_.zt2) :
    PS X (.Raise (some (.Call (.Name c p) (e :: es) [] cpos)) none pos) (fun _ σ H => t σ H fun vs H1 => vs.length ≤ 1000 ∧ ∀ ex s', Lies X σ H1 C none ex s' → X.xe ex s') := by
  intro pins s σ H D I hq
  rw [arm_exec_Raise]
  simp only [evalOpt, Option.map]
  refine wpAny_bind (wpAny_standAt (raise_own (K := X.K) q hr.hd (wpAny_bind (wpAny_mono (wpAny_Call_Name_kw (ld_glob I hg hm ?_ hdb)) (fun v s3 h3 => wpAny_bind (wpAny_standAt (wpAny_pure h3))) fun _ _ z => z))))
  refine PySem.W.callWith_K (h₀ := X.base) I.ok.mod.kin kp (thn (ha cpos pins s σ H _ I hq) fun us s1 ⟨vs, H1, I1, r, hl, q2⟩ => ⟨I1.kIn, ?_⟩) he hpl
  obtain ⟨h1, gg, dr, t1, os1⟩ := s1
  have zl : us.length ≤ sizeLine := by rw [← r.length]; exact Nat.le_of_lt (small1000 hl)
  refine ccall_plain I1.kIn q q0 zl fun h' ea made => ?_
  obtain ⟨tt, g1, _, _⟩ := made.there
  have ok1 : ObjOk X.prog X.w (upd H1 ea (exH ea C none)) h' ea (exH ea C none) := exH_ok g1 rfl
  have n1 : H1 ea = none := hok_none I1.hok made.new
  have u1 : ∀ fs, Un fs [] H1 (upd H1 ea (exH ea C none)) h1 h' := fun fs => Un.laidN made.keeps made.new n1
  have I2 : L2.Inv X pins σ (upd H1 ea (exH ea C none)) ⟨h', gg, dr, t1, os1⟩ := I1.un (t' := t1) (u1 _) (HOk.laidN I1.hok made.keeps made.new ok1)
  have ly := lies_of I1 I2 rfl (u1 _) upd_same made.new
  rw [forget_upd n1] at ly
  exact ⟨ea, none, _, _, rfl, I2.kIn, g1, rfl, q2 _ _ ly⟩
end
end L3
namespace L3
open PySem PySem.Spec L2
open PyProof.Rows hiding St
open PySem.W (Looks)

noncomputable def xoH (e C : Addr) (od : Option Addr) : HO := .ext fun h => ∃ vs sl, h.get? e = some ⟨.ref C, od, .fields vs, sl⟩
private theorem xoH_ok {P : Program} {w : World} {H : Hp} {h : Heap} {e C : Addr} {od : Option Addr} {vs : Array Value} {sl : Array (Option Value)} (g : h.get? e = some ⟨.ref C, od, .fields vs, sl⟩) : ObjOk P w H h e (xoH e C od) :=
  ⟨⟨vs, sl, g⟩, ⟨_, g⟩, fun h1 h2 ⟨vs, sl, g⟩ k => ⟨vs, sl, k _ g⟩⟩
private theorem xoH_get {P : Program} {w : World} {H : Hp} {h : Heap} {e C : Addr} {od : Option Addr} (ok : HOk P w H h) (q : H e = some (xoH e C od)) : ∃ vs sl, h.get? e = some ⟨.ref C, od, .fields vs, sl⟩ := by
  obtain ⟨z, _⟩ := (show ObjOk P w H h e (xoH e C od) from ok e _ q)
  exact z
private theorem Flies.get {B : Heap} {l : List Env} {e C : Addr} {dx : Option Addr} {h : Heap} (x : Flies B l e (.ref C) dx h) : ∃ vs sl, h.get? e = some ⟨.ref C, dx, .fields vs, sl⟩ := by
  obtain ⟨⟨a, b, c, d⟩, vs, v, g, h1, h2, h3, _⟩ := x.ob
  simp only at h1 h2 h3
  subst h1 h2 h3
  exact ⟨vs, d, g⟩
private theorem lie_land {P : Program} {w : World} {l : List Env} {H H' : Hp} {s s' : Shared} {C : Addr} {dx : Option Addr} {ex : Value} (x : Lie P w l H s H' C dx ex s') :
    ∃ a B, ex = .ref a ∧ Flies B l a (.ref C) dx s'.heap ∧ ∀ h', Flies B l a (.ref C) dx h' → s'.heap.UpToSlots h' → Un (frs l) [] H (upd H' a (xoH a C dx)) s.heap h' ∧ HOk P w (upd H' a (xoH a C dx)) h' := by
  obtain ⟨⟨a, B, rfl, fl, cv, fa, na⟩, os, bare, un, hok⟩ := x
  refine ⟨a, B, rfl, fl, fun h' fl' up => ?_⟩
  have nof : ∀ b o, s'.heap.get? b = some o → b ∈ frs l → ∀ vs, o.data ≠ .fields vs := fun b o q m => by
    obtain ⟨_, o3, q3, no⟩ := fl.fr.mem m
    rw [q] at q3; cases q3
    exact no
  have nea : ∀ b o, s.heap.get? b = some o → b ≠ a := fun b o q z => by rw [z, na] at q; cases q
  have net : ∀ b u, H' b = some u → b ≠ a := fun b u q => ne_of_none q fa
  have inB : ∀ b o0 o, s.heap.get? b = some o0 → b ∉ frs l → s'.heap.get? b = some o → h'.get? b = some o := fun b o0 o q nb q2 => fl'.st b o (cv b o (.inl ⟨⟨o0, q⟩, nb⟩) q2)
  have ok' : HOk P w H' h' := hok_flies hok fl'.st fun b u o r q => cv b o (.inr ⟨u, r⟩) q
  obtain ⟨vs, sl, ga⟩ := fl'.get
  refine ⟨⟨fun b o q n nb _ => inB b o o q nb (un.keep b o q n nb (by simp)), fun b o q n hb _ => ?_, fun b o q n _ => ?_, fun b o q _ => ?_, fun b xs q => ?_, fun b u v q => ?_, fun b ps q => ?_⟩, fun b u q => ?_⟩
  · obtain ⟨sl2, q2⟩ := un.slot b o q n hb (by simp)
    obtain ⟨sl3, q3⟩ := up b _ q2 (nof b _ q2 hb)
    exact ⟨sl3, q3⟩
  · rw [upd_ne (nea b o q)]; exact un.free b o q n (by simp)
  · obtain ⟨o2, q2⟩ := un.there b o q (by simp)
    by_cases nb : b ∈ frs l
    · obtain ⟨sl3, q3⟩ := up b _ q2 (nof b _ q2 nb)
      exact ⟨_, q3⟩
    · exact ⟨o2, inB b o o2 q nb q2⟩
  · have := un.tups b xs q
    rw [upd_ne (net b _ this)]; exact this
  · have := un.frzs b u v q
    rw [upd_ne (net b _ this)]; exact this
  · obtain ⟨more, e⟩ := un.tbls b ps q
    exact ⟨more, by rw [upd_ne (net b _ e)]; exact e⟩
  · by_cases z : b = a
    · subst z; rw [upd_same] at q; cases q; exact xoH_ok ga
    · rw [upd_ne z] at q
      exact (ok' b u q).stay (fun _ _ _ r => r) (fun c r => by rw [upd_ne (net c _ r)]; exact r) fun c xs r => by rw [upd_ne (net c _ r)]; exact r
structure Here (X : Cx) (pins : List (Addr × Obj)) (σ : St) (H' : Hp) (C : Addr) (dx : Option Addr) (a : Addr) (s : Shared) : Prop where
  ex : ∃ B, Flies B X.stack a (.ref C) dx s.heap ∧ ∀ h', Flies B X.stack a (.ref C) dx h' → s.heap.UpToSlots h' → Inv X pins σ (upd H' a (xoH a C dx)) { s with heap := h' }
private theorem Here.inv {X : Cx} {pins : List (Addr × Obj)} {σ : St} {H' : Hp} {C : Addr} {dx : Option Addr} {a : Addr} {s : Shared} (x : Here X pins σ H' C dx a s) : Inv X pins σ (upd H' a (xoH a C dx)) s := by
  obtain ⟨B, f, k⟩ := x.ex
  have := k s.heap f (.refl _)
  obtain ⟨_, _, _, _, _⟩ := s
  exact this
section
variable {M : Model} {A : Around} {E : Value → Shared → Prop} {s : Shared} {X : Cx} {pins : List (Addr × Obj)} {σ : St} {H' : Hp} {C a : Addr} {dx : Option Addr}
private theorem flight_land {B : Heap} {l : List Env} {Q : Unit → Shared → Prop} (x : Flies B l a (.ref C) dx s.heap) (k : ∀ h', Flies B l a (.ref C) dx h' → s.heap.UpToSlots h' → Q () { s with heap := h' }) : wpAny M A (setFlight (.ref a) none) Q E s := by
  obtain ⟨st, nw, fr, ob, vs, v, ge, hc, hx, de, h1, tb⟩ := id x
  unfold setFlight
  refine wpAny_bind (wpAny_field ge de h1 ?_)
  rcases tb with rfl | ⟨T, oT, ts, rfl, nT, Te, gT, dT, h3⟩
  · rw [if_neg (by decide)]
    refine wpAny_pure ?_
    have := k s.heap x (.refl _)
    obtain ⟨_, _, _, _, _⟩ := s
    exact this
  · rw [if_pos (by simp : (Value.ref T != Value.none) = true)]
    have z3 : 3 < ts.size := (Array.getElem?_eq_some_iff.mp h3).1
    have oth : ∀ b, b ≠ T → (s.heap.update T (Obj.mapFields (·.setIfInBounds 3 ((none : Option Addr).elim Value.none fun f => rawInt f)))).get? b = s.heap.get? b := fun b q => Heap.get?_update_other _ _ (Ne.symm q)
    have nr : ∀ b o, s.heap.get? b = some o → (∀ xs, o.data ≠ .fields xs) → b ≠ T := fun b o q no z => by
      rw [z, gT] at q; cases q
      exact no ts dT
    refine wpAny_setField gT dT z3 (k _ ⟨fun b o q => (oth b fun z => by rw [z, nT] at q; cases q).trans (st b o q), nw, fr.of_keeps fun b o q no => ⟨o, (oth b (nr b o q no)).trans q, rfl⟩, ob, vs, .ref T, (oth a (Ne.symm Te)).trans ge, hc, hx, de, h1, .inr ⟨T, _, _, rfl, nT, Te, Heap.get?_update_self _ gT (Obj.isFreed_of_fields (Obj.data_mapFields dT _)), Obj.data_mapFields dT _, ?_⟩⟩ fun b o q no => ⟨o.slots, (oth b (nr b o q no)).trans q⟩)
    rw [Array.getElem?_setIfInBounds_self_of_lt z3]; rfl
private theorem Here.flight {Q : Unit → Shared → Prop} (x : Here X pins σ H' C dx a s) (k : ∀ s', Here X pins σ H' C dx a s' → Q () s') : wpAny M A (setFlight (.ref a) none) Q E s := by
  obtain ⟨B, f, q⟩ := x.ex
  exact flight_land f fun h' f' u => k _ ⟨B, f', fun h2 f2 u2 => q h2 f2 (u.trans u2)⟩
end
noncomputable abbrev suite (X : Cx) (e : Value) : Cx := { X with A := X.A.mark (some e), calm := false, xe := fun _ _ => False }
section
variable {X : Cx} {pins : List (Addr × Obj)} {σ : St} {H : Hp} {s : Shared} {e : Value}
private theorem Inv.toSuite (I : L2.Inv X pins σ H s) : L2.Inv (suite X e) pins σ H s :=
  ⟨⟨I.ok.mod, I.ok.kind, I.ok.glob, I.ok.blt, I.ok.above, I.ok.inj, I.ok.has, I.ok.cab, (fun z => by cases z), I.ok.frames, I.ok.stk, I.ok.exf, I.ok.bs, I.ok.bsz, I.ok.noex, I.ok.exfs, I.ok.funs, I.ok.frf⟩, I.os, I.bare, I.base, I.loc, I.cell, I.free, I.freeC, I.pin, I.hok, I.len⟩
private theorem Inv.fromSuite (I : L2.Inv (suite X e) pins σ H s) (ok : X.Ok) : L2.Inv X pins σ H s := ⟨ok, I.os, I.bare, I.base, I.loc, I.cell, I.free, I.freeC, I.pin, I.hok, I.len⟩
private theorem name_gone {M : Model} {A : Around} {E : Value → Shared → Prop} {n : Str} {i : Nat} {pos : Pos} {Q : Unit → Shared → Prop} (I : L2.Inv X pins σ H s) (hN : X.N.Nodup) (hi : X.N[i]? = some n) (hl : X.env.scope.names.lookup n = some .local)
    (k : ∀ s', L2.Inv X pins (σ.set i none) H s' → Q () s') : wpAny M A (do bindName X.env n .none; unbindBehindTheSuite X.env n pos) Q E s := by
  obtain ⟨m, hn, hv⟩ := id I.loc
  have hcls : (X.env.scope.kind == .class || (X.env.scope.kind == .module && X.env.locals != X.env.globals)) = false := by rw [I.ok.kind]; rfl
  obtain ⟨oL, _, _, hoL, _⟩ := id hn
  have cne := I.cne
  refine wpAny_nameGoes_keeps hl hn hcls fun h' v hn' sb => k _ ⟨I.ok, I.os, I.bare, ⟨fun b o q nb hb hx => ?_, fun b o q nb hb hx => ?_, I.base.free, fun b o q hx => ?_, I.base.tups, I.base.frzs, I.base.tbls⟩, ⟨_, hn', fun j y w e1 e2 e3 => ?_⟩, fun y c q => ?_, I.free, I.freeC, fun p hp => ?_, fun b ob q => ?_, by simpa using I.len⟩
  · exact (sb.2 b (Nat.ne_of_lt (Nat.lt_of_lt_of_le (Heap.lt_size q) I.ok.above))).trans (I.base.keep b o q nb hb hx)
  · obtain ⟨sl, q1⟩ := I.base.slot b o q nb hb hx
    exact ⟨sl, (sb.2 b (Nat.ne_of_lt (Nat.lt_of_lt_of_le (Heap.lt_size q) I.ok.above))).trans q1⟩
  · obtain ⟨o', q1⟩ := I.base.there b o q hx
    exact ⟨o', (sb.2 b (Nat.ne_of_lt (Nat.lt_of_lt_of_le (Heap.lt_size q) I.ok.above))).trans q1⟩
  · by_cases hj : j = i
    · subst hj
      by_cases hlt : j < σ.length
      · rw [List.getElem?_set_self hlt] at e2; cases e2
      · rw [List.getElem?_eq_none (by simpa using hlt)] at e2; cases e2
    · rw [List.getElem?_set_ne (Ne.symm hj)] at e2
      obtain ⟨u', r', q⟩ := hv j y w e1 e2 e3
      refine ⟨u', r', ?_⟩
      rcases q with ⟨z, q⟩ | ⟨z, c, q, z'⟩
      · refine .inl ⟨z, ?_⟩
        have : y ≠ n := fun q => hj (nodup_ix hN e1 (q ▸ hi))
        simp [this, q]
      · exact .inr ⟨z, c, q, z'.sameBut sb (cne y c q)⟩
  · obtain ⟨w', z⟩ := I.cell y c q
    exact ⟨w', z.sameBut sb (cne y c q)⟩
  · obtain ⟨q, n, ne, nf, d⟩ := I.pin p hp
    exact ⟨(sb.2 p.1 ne).trans q, n, ne, nf, d⟩
  · refine (I.hok b ob q).stay (fun c w' hc r => (sb.2 c ?_).trans r) (fun _ r => r) fun _ _ r => r
    rintro rfl
    rcases hc with rfl | hc
    · rw [I.free] at q; cases q
    · rw [I.free] at hc; cases hc
end
noncomputable def Nam (X : Cx) (hx : Str) (cv : Value) : Prop := Gl X hx ∧ (X.mg hx = some cv ∨ (X.mg hx = none ∧ bootBuiltins hx = some cv ∧ hx ≠ "__name__")) ∧ (hx == ("__debug__" : Str)) = false
section
variable {X : Cx} {pins : List (Addr × Obj)} {σ : St} {H' : Hp} {C a : Addr} {dx : Option Addr} {s : Shared} {hx : Str} {np pos : Pos} {cv : Value} {Q : Flow → Shared → Prop} {rest : List ExceptHandler} {b0 : Stmt} {body : List Stmt}
private theorem clause_test {e : Addr} {E : Value → Shared → Prop} {b : Bool} {R : Bool → Shared → Prop} {H : Hp} {C : Addr} {od : Option Addr} (I : L2.Inv X pins σ H s) (he : H e = some (xoH e C od)) (nm : Nam X hx cv) (te : PySem.W.exmOne X.K (.ref C) cv = some b) (k : R b s) :
    wpAny (model X.prog X.w) (X.A.mark (some (.ref e))) (eval (.Name hx np) X.env) (fun c s1 => wpAny (model X.prog X.w) (X.A.mark (some (.ref e))) (excMatches (.ref e) c) R E s1) E s := by
  obtain ⟨vs, sl, g⟩ := xoH_get I.hok he
  have ty : Looks (model X.prog X.w) s.heap (typeOf (.ref e)) (.ref C) := (PySem.W.Looks.ld g).andThen .now
  have fin : ∀ {A : Around}, wpAny (model X.prog X.w) A (excMatches (.ref e) cv) R E s := fun {A} => (PySem.W.exm_one I.kIn ty te).here k
  obtain ⟨g1, g2, g3⟩ := nm
  have I' : L2.Inv (suite X (.ref e)) pins σ H s := Inv.toSuite I
  rcases g2 with g2 | ⟨g2, g4, g5⟩
  · exact ld_glob (X := suite X (.ref e)) I' g1 g2 fin g3
  · exact ld_blt (X := suite X (.ref e)) I' g1 g2 g4 fin g5 g3
private theorem clause_miss {nm' : Option Str} (x : Here X pins σ H' C dx a s) (nm : Nam X hx cv) (te : PySem.W.exmOne X.K (.ref C) cv = some false) (k : wpAny (model X.prog X.w) X.A (handleBy (.ref a) X.env rest) Q X.xe s) :
    wpAny (model X.prog X.w) X.A (handleBy (.ref a) X.env (.ExceptHandler (some (.Name hx np)) nm' (b0 :: body) pos :: rest)) Q X.xe s :=
  wpAny_handleBy_cons (codeAny_handlers_test (clause_test x.inv upd_same nm te k)) (by intro q; cases q)
private theorem clause_hit {D : Ends} {t : TS} (x : Here X pins σ H' C dx a s) (nm : Nam X hx cv) (te : PySem.W.exmOne X.K (.ref C) cv = some true) (hb : PSs (suite X (.ref a)) (b0 :: body) t) (k : t D σ (upd H' a (xoH a C dx))) :
    wpAny (model X.prog X.w) X.A (handleBy (.ref a) X.env (.ExceptHandler (some (.Name hx np)) none (b0 :: body) pos :: rest)) (SP X pins D) X.xe s := by
  have ok := x.inv.ok
  refine wpAny_handleBy_cons (codeAny_handlers_test (clause_test x.inv upd_same nm te ?_)) (by intro q; cases q)
  refine codeAny_handlers_suite (x.flight fun s' x' => wpAny_mono (hb pins s' σ _ D (Inv.toSuite x'.inv) k) (fun f s2 h2 => ?_) fun _ _ z => z.elim)
  cases f with
  | next => obtain ⟨σ', H2, I2, q⟩ := h2; exact ⟨σ', H2, Inv.fromSuite I2 ok, q⟩
  | brk => obtain ⟨σ', H2, I2, q⟩ := h2; exact ⟨σ', H2, Inv.fromSuite I2 ok, q⟩
  | cont => obtain ⟨σ', H2, I2, q⟩ := h2; exact ⟨σ', H2, Inv.fromSuite I2 ok, q⟩
  | ret u => obtain ⟨v, σ', H2, I2, r, q⟩ := h2; exact ⟨v, σ', H2, Inv.fromSuite I2 ok, r, q⟩
private theorem clause_hitAs {D : Ends} {t : TS} {n : Str} {i : Nat} (x : Here X pins σ H' C dx a s) (nm : Nam X hx cv) (te : PySem.W.exmOne X.K (.ref C) cv = some true) (hb : PSs (suite X (.ref a)) (b0 :: body) t) (hN : X.N.Nodup) (hi : X.N[i]? = some n)
    (hl : X.env.scope.names.lookup n = some .local) (k : t { nx := fun σ' H2 => D.nx (σ'.set i none) H2, rt := D.rt, bk := fun σ' H2 => D.bk (σ'.set i none) H2, ct := fun σ' H2 => D.ct (σ'.set i none) H2 } (σ.set i (some (.ref a))) (upd H' a (xoH a C dx))) :
    wpAny (model X.prog X.w) X.A (handleBy (.ref a) X.env (.ExceptHandler (some (.Name hx np)) (some n) (b0 :: body) pos :: rest)) (SP X pins D) X.xe s := by
  have ok := x.inv.ok
  refine wpAny_handleBy_cons (codeAny_handlers_test (clause_test x.inv upd_same nm te ?_)) (by intro q; cases q)
  refine codeAny_handlers_suite_as (x.flight fun s' x' => ?_)
  refine store_ok (v := .ref a) x'.inv hN hi (.inl hl) rfl (fun s2 I2 => ?_) (.inr hl)
  refine wpAny_mono (hb pins s2 _ _ _ (Inv.toSuite I2) k) (fun f s3 h3 => ?_) fun _ _ z => z.elim
  cases f with
  | next => obtain ⟨σ', H2, I3, q⟩ := h3; exact name_gone (Inv.fromSuite I3 ok) hN hi hl fun s4 I4 => ⟨_, H2, I4, q⟩
  | brk => obtain ⟨σ', H2, I3, q⟩ := h3; exact name_gone (Inv.fromSuite I3 ok) hN hi hl fun s4 I4 => ⟨_, H2, I4, q⟩
  | cont => obtain ⟨σ', H2, I3, q⟩ := h3; exact name_gone (Inv.fromSuite I3 ok) hN hi hl fun s4 I4 => ⟨_, H2, I4, q⟩
  | ret u => obtain ⟨v, σ', H2, I3, r, q⟩ := h3; exact name_gone (Inv.fromSuite I3 ok) hN hi hl fun s4 I4 => ⟨v, _, H2, I4, r, q⟩
end
end L3
namespace L3
open PySem PySem.Spec L2
open PyProof.Rows hiding St

inductive D where
  | n | b (x : Bool) | i (x : Int) | s (x : Str) | t (xs : List D) | l (xs : List D) | d (ks : List Key) (vs : List D) | x (c : Str) (ks : List Str) (vs : List D) | o (c : Str) (ks : List Str) (vs : List D)
noncomputable def XDc (F : Hp) (od : Option Addr) (ks : List Str) (us : List V) : Prop := (ks = [] ∧ us = [] ∧ od = none) ∨ ∃ d, od = some d ∧ F d = some (dcH d (ks.zip us)) ∧ ks.length = us.length
private theorem XDc.mono {F F' : Hp} {od : Option Addr} {ks : List Str} {us : List V} (h : Same F F') (q : XDc F od ks us) : XDc F' od ks us := by
  rcases q with q | ⟨d, q1, q2, q3⟩
  · exact .inl q
  · exact .inr ⟨d, q1, h _ _ q2, q3⟩

mutual
noncomputable def Den (K : PySem.W.Frag) (F : Hp) : D → V → Prop
  | .n, v => v = .non
  | .b x, v => v = .bl x
  | .i x, v => v = .int x
  | .s x, v => v = .str x
  | .t ds, v => ∃ a vs, v = .ref a ∧ SqT K F a vs ∧ DenL K F ds vs
  | .l ds, v => ∃ a vs, v = .ref a ∧ SqL K F a vs ∧ DenL K F ds vs
  | .d ks ds, v => ∃ a vs, v = .ref a ∧ F a = some (.dK (ks.zip vs)) ∧ ks.length = vs.length ∧ DenL K F ds vs
  | .o c ks ds, v => ∃ a C dx us, v = .ref a ∧ PySem.W.nsIn K mainGlobals c = some (some (.ref C)) ∧ F a = some (.ins C dx (ks.zip us)) ∧ ks.length = us.length ∧ DenL K F ds us
  | .x c ks ds, v => ∃ a C od us, v = .ref a ∧ PySem.W.nsIn K mainGlobals c = some (some (.ref C)) ∧ F a = some (xoH a C od) ∧ XDc F od ks us ∧ DenL K F ds us
noncomputable def DenL (K : PySem.W.Frag) (F : Hp) : List D → List V → Prop
  | [], vs => vs = []
  | d :: ds, vs => ∃ v r, vs = v :: r ∧ Den K F d v ∧ DenL K F ds r
end

private theorem sq_mono_T {K : PySem.W.Frag} {F F' : Hp} (h : Same F F') {a : Addr} {xs : List V} (q : SqT K F a xs) : SqT K F' a xs := by
  rcases q with (q | ⟨o, q⟩) | q
  · exact .inl (.inl (h _ _ q))
  · exact .inl (.inr ⟨o, h _ _ q⟩)
  · exact .inr q
mutual
private theorem Den.mono {K : PySem.W.Frag} {F F' : Hp} (h : Same F F') : ∀ {d : D} {v : V}, Den K F d v → Den K F' d v
  | .n, _, q => q
  | .b _, _, q => q
  | .i _, _, q => q
  | .s _, _, q => q
  | .t _, _, q => by
    obtain ⟨a, vs, e, e2, q⟩ := q
    exact ⟨a, vs, e, sq_mono_T h e2, DenL.mono h q⟩
  | .l _, _, q => by
    obtain ⟨a, vs, e, e2, q⟩ := q
    exact ⟨a, vs, e, h.seq e2, DenL.mono h q⟩
  | .d _ _, _, q => by
    obtain ⟨a, vs, e, e2, e3, q⟩ := q
    exact ⟨a, vs, e, h _ _ e2, e3, DenL.mono h q⟩
  | .x _ _ _, _, q => by
    obtain ⟨a, C, od, us, e, e1, e2, e3, q⟩ := q
    exact ⟨a, C, od, us, e, e1, h _ _ e2, e3.mono h, DenL.mono h q⟩
  | .o _ _ _, _, q => by
    obtain ⟨a, C, dx, us, e, e1, e2, e3, q⟩ := q
    exact ⟨a, C, dx, us, e, e1, h _ _ e2, e3, DenL.mono h q⟩
private theorem DenL.mono {K : PySem.W.Frag} {F F' : Hp} (h : Same F F') : ∀ {ds : List D} {vs : List V}, DenL K F ds vs → DenL K F' ds vs
  | [], _, q => q
  | _ :: _, _, q => by
    obtain ⟨v, r, e, q1, q2⟩ := q
    exact ⟨v, r, e, Den.mono h q1, DenL.mono h q2⟩
end
private theorem DenL.length {K : PySem.W.Frag} {F : Hp} : ∀ {ds : List D} {vs : List V}, DenL K F ds vs → ds.length = vs.length
  | [], _, q => by cases (show _ = [] from q); rfl
  | _ :: _, _, q => by
    obtain ⟨v, r, rfl, _, q2⟩ := q
    exact congrArg (· + 1) (DenL.length q2)
private theorem DenL.cons {K : PySem.W.Frag} {F : Hp} {d : D} {v : V} {ds : List D} {vs : List V} (h : Den K F d v) (hs : DenL K F ds vs) : DenL K F (d :: ds) (v :: vs) := ⟨v, vs, rfl, h, hs⟩
private theorem DenL.nil {K : PySem.W.Frag} {F : Hp} : DenL K F [] [] := rfl
private theorem DenL.append {K : PySem.W.Frag} {F : Hp} : ∀ {ds es : List D} {vs us : List V}, DenL K F ds vs → DenL K F es us → DenL K F (ds ++ es) (vs ++ us)
  | [], _, _, _, q, r => by cases (show _ = [] from q); exact r
  | _ :: _, _, _, _, q, r => by
    obtain ⟨v, rr, rfl, q1, q2⟩ := q
    exact ⟨v, _, rfl, q1, DenL.append q2 r⟩
private theorem DenL.get {K : PySem.W.Frag} {F : Hp} : ∀ {ds : List D} {vs : List V} {i : Nat} {d : D}, DenL K F ds vs → ds[i]? = some d → ∃ v, vs[i]? = some v ∧ Den K F d v
  | [], _, _, _, _, e => by simp at e
  | _ :: _, _, 0, _, q, e => by
    obtain ⟨v, r, rfl, q1, q2⟩ := q
    simp at e; subst e
    exact ⟨v, rfl, q1⟩
  | _ :: _, _, i + 1, _, q, e => by
    obtain ⟨v, r, rfl, q1, q2⟩ := q
    obtain ⟨u, h1, h2⟩ := DenL.get (i := i) q2 (by simpa using e)
    exact ⟨u, by simpa using h1, h2⟩
private theorem DenL.take {K : PySem.W.Frag} {F : Hp} : ∀ {ds : List D} {vs : List V} (n : Nat), DenL K F ds vs → DenL K F (ds.take n) (vs.take n)
  | _, _, 0, _ => by simp; exact DenL.nil
  | [], _, n + 1, q => by cases (show _ = [] from q); exact DenL.nil
  | _ :: _, _, n + 1, q => by
    obtain ⟨v, r, rfl, q1, q2⟩ := q
    exact ⟨v, _, rfl, q1, DenL.take n q2⟩
private theorem DenL.drop {K : PySem.W.Frag} {F : Hp} : ∀ {ds : List D} {vs : List V} (n : Nat), DenL K F ds vs → DenL K F (ds.drop n) (vs.drop n)
  | _, _, 0, q => q
  | [], _, n + 1, q => by cases (show _ = [] from q); exact DenL.nil
  | _ :: _, _, n + 1, q => by
    obtain ⟨v, r, rfl, q1, q2⟩ := q
    exact DenL.drop n q2
private theorem DenL.ints {K : PySem.W.Frag} {F : Hp} : ∀ ns : List Int, DenL K F (ns.map D.i) (ns.map V.int)
  | [] => DenL.nil
  | n :: ns => ⟨_, _, rfl, rfl, DenL.ints ns⟩

structure Grow (F H F' H' : Hp) : Prop where
  same : Same H H'
  ff : Same F F'
  sub : Same F' H'
  new : ∀ b, F b = none → F' b ≠ none → H b = none
private theorem Grow.refl {F H : Hp} (h : Same F H) : Grow F H F H := ⟨.refl _, .refl _, h, fun _ e n => absurd e n⟩
private theorem Grow.trans {F H F1 H1 F2 H2 : Hp} (a : Grow F H F1 H1) (b : Grow F1 H1 F2 H2) : Grow F H F2 H2 :=
  ⟨a.same.trans b.same, a.ff.trans b.ff, b.sub, fun c e n => by
    by_cases q : F1 c = none
    · exact a.same.free (b.new c q n)
    · exact a.new c e q⟩
private theorem same_upd {H : Hp} {p : Addr} (h : H p = none) (o : HO) : Same H (upd H p o) := fun b u q => by rw [upd_ne (ne_of_none q h)]; exact q
private theorem Grow.lay {F H : Hp} (h : Same F H) {p : Addr} (hp : H p = none) (o : HO) : Grow F H (upd F p o) (upd H p o) := by
  have fp : F p = none := h.free hp
  refine ⟨same_upd hp o, same_upd fp o, fun b u q => ?_, fun b e n => ?_⟩
  · by_cases z : b = p
    · subst z; rw [upd_same] at q ⊢; exact q
    · rw [upd_ne z] at q ⊢; exact h _ _ q
  · by_cases z : b = p
    · rw [z]; exact hp
    · rw [upd_ne z] at n; exact absurd e n
private theorem Grow.own {F H : Hp} (h : Same F H) {p : Addr} (hp : H p = none) (o : HO) : Grow F H F (upd H p o) := ⟨same_upd hp o, .refl _, h.trans (same_upd hp o), fun _ e n => absurd e n⟩
private theorem Grow.freeze {F H F' H' : Hp} (g : Grow F H F' H') {p : Addr} {o : HO} (h0 : H p = none) (h1 : H' p = some o) : Grow F H (upd F' p o) H' ∧ (F' p = none → Same F' (upd F' p o)) := by
  refine ⟨⟨g.same, fun b u q => ?_, fun b u q => ?_, fun b e n => ?_⟩, fun e => same_upd e o⟩
  · have q2 := g.ff b u q
    by_cases z : b = p
    · subst z
      have := g.sub _ _ q2
      rw [h1] at this
      rw [upd_same]; exact this
    · rw [upd_ne z]; exact q2
  · by_cases z : b = p
    · subst z; rw [upd_same] at q; rw [← q]; exact h1
    · rw [upd_ne z] at q; exact g.sub _ _ q
  · by_cases z : b = p
    · rw [z]; exact h0
    · rw [upd_ne z] at n; exact g.new b e n

inductive Sl where
  | un | sh (d : D) | ac (ds : List D) | ad (ks : List Key) (ds : List D)
noncomputable def Sl.own : Sl → Bool
  | .ac _ => true
  | .ad _ _ => true
  | _ => false
noncomputable def Sl.toD : Sl → D
  | .un => .n
  | .sh d => d
  | .ac ds => .l ds
  | .ad ks ds => .d ks ds
noncomputable def Own (K : PySem.W.Frag) (F H : Hp) : Sl → V → Prop
  | .un, _ => False
  | .sh d, v => Den K F d v
  | .ac ds, v => ∃ p vs, v = .ref p ∧ H p = some (.lst vs) ∧ F p = none ∧ DenL K F ds vs
  | .ad ks ds, v => ∃ p vs, v = .ref p ∧ H p = some (.dK (ks.zip vs)) ∧ F p = none ∧ ks.length = vs.length ∧ DenL K F ds vs
noncomputable def Res (K : PySem.W.Frag) (H₀ F H : Hp) (r : Sl) (v : V) : Prop := Own K F H r v ∧ (r.own = true → ∀ p, v = .ref p → H₀ p = none)
private theorem Own.mono {K : PySem.W.Frag} {F H F' H' : Hp} (g : Grow F H F' H') : ∀ {r : Sl} {v : V}, Own K F H r v → Own K F' H' r v
  | .un, _, q => q
  | .sh _, _, q => Den.mono g.ff q
  | .ac _, _, q => by
    obtain ⟨p, vs, e, h1, h2, q⟩ := q
    refine ⟨p, vs, e, g.same _ _ h1, ?_, q.mono g.ff⟩
    cases z : F' p with
    | none => rfl
    | some o => rw [g.new p h2 (by rw [z]; simp)] at h1; cases h1
  | .ad _ _, _, q => by
    obtain ⟨p, vs, e, h1, h2, h3, q⟩ := q
    refine ⟨p, vs, e, g.same _ _ h1, ?_, h3, q.mono g.ff⟩
    cases z : F' p with
    | none => rfl
    | some o => rw [g.new p h2 (by rw [z]; simp)] at h1; cases h1
private theorem Own.ref {K : PySem.W.Frag} {F H : Hp} : ∀ {r : Sl} {v : V}, Own K F H r v → r.own = true → ∃ p o, v = .ref p ∧ H p = some o ∧ F p = none ∧ (∀ F', Same F F' → F' p = some o → Den K F' r.toD v)
  | .un, _, q, _ => q.elim
  | .sh _, _, _, e => by cases e
  | .ac _, _, q, _ => by
    obtain ⟨p, vs, e, h1, h2, q⟩ := q
    exact ⟨p, _, e, h1, h2, fun F' s e' => ⟨p, vs, e, SqL.of e', q.mono s⟩⟩
  | .ad _ _, _, q, _ => by
    obtain ⟨p, vs, e, h1, h2, h3, q⟩ := q
    exact ⟨p, _, e, h1, h2, fun F' s e' => ⟨p, vs, e, e', h3, q.mono s⟩⟩
private theorem Res.den {K : PySem.W.Frag} {F H F' H' : Hp} {r : Sl} {v : V} (g : Grow F H F' H') (q : Res K H F' H' r v) : ∃ F2, Grow F H F2 H' ∧ Same F' F2 ∧ Den K F2 r.toD v := by
  obtain ⟨q, nw⟩ := q
  cases ho : r.own with
  | true =>
    obtain ⟨p, o, e, h1, h2, h3⟩ := q.ref ho
    obtain ⟨g2, s2⟩ := g.freeze (nw ho p e) h1
    exact ⟨_, g2, s2 h2, h3 _ (s2 h2) upd_same⟩
  | false =>
    cases r with
    | un => exact q.elim
    | sh d => exact ⟨F', g, .refl _, q⟩
    | ac ds => cases ho
    | ad ks ds => cases ho

structure Rep (K : PySem.W.Frag) (F H : Hp) (σ : St) (ρ : List Sl) : Prop where
  sub : Same F H
  at_ : ∀ (i : Nat) (r : Sl), ρ[i]? = some r → r ≠ .un → ∃ v, σ[i]? = some (some v) ∧ Own K F H r v
  apart : ∀ (i j : Nat) (r r' : Sl) (p : Addr), ρ[i]? = some r → ρ[j]? = some r' → r.own = true → r'.own = true → σ[i]? = some (some (.ref p)) → σ[j]? = some (some (.ref p)) → i = j
  len : σ.length = ρ.length
private theorem Rep.grow {K : PySem.W.Frag} {F H F' H' : Hp} {σ : St} {ρ : List Sl} (R : Rep K F H σ ρ) (g : Grow F H F' H') : Rep K F' H' σ ρ :=
  ⟨g.sub, fun i r e n => let ⟨v, h1, h2⟩ := R.at_ i r e n; ⟨v, h1, h2.mono g⟩, R.apart, R.len⟩
noncomputable def Sl.er : Sl → Sl
  | .ac _ => .un
  | .ad _ _ => .un
  | r => r
noncomputable def Sl.vw : Sl → Sl
  | .ac ds => .sh (.l ds)
  | .ad ks ds => .sh (.d ks ds)
  | r => r
noncomputable abbrev er (ρ : List Sl) : List Sl := ρ.map Sl.er
noncomputable abbrev vw (ρ : List Sl) : List Sl := ρ.map Sl.vw
private theorem Sl.er_own (r : Sl) : r.er.own = false := by cases r <;> rfl
private theorem Sl.vw_own (r : Sl) : r.vw.own = false := by cases r <;> rfl
private theorem Sl.er_of {r : Sl} (h : r.er ≠ .un) : r.er = r := by cases r <;> first | rfl | exact absurd rfl h
private theorem map_get {f : Sl → Sl} {ρ : List Sl} {i : Nat} {r : Sl} (h : (ρ.map f)[i]? = some r) : ∃ r', ρ[i]? = some r' ∧ f r' = r := by
  rw [List.getElem?_map] at h
  cases e : ρ[i]? with
  | none => rw [e] at h; cases h
  | some r' => rw [e] at h; exact ⟨r', rfl, Option.some.inj h⟩
private theorem Rep.er {K : PySem.W.Frag} {F H : Hp} {σ : St} {ρ : List Sl} (R : Rep K F H σ ρ) : Rep K F H σ (er ρ) := by
  refine ⟨R.sub, fun i r e n => ?_, fun i j r r' p e _ o _ _ _ => ?_, by rw [R.len, List.length_map]⟩
  · obtain ⟨r', e', rfl⟩ := map_get e
    have z := Sl.er_of n
    rw [z] at n ⊢
    exact R.at_ i r' e' n
  · obtain ⟨r', e', rfl⟩ := map_get e
    rw [Sl.er_own] at o; cases o
noncomputable def Held (σ : St) (ρ : List Sl) (b : Addr) : Prop := ∃ (i : Nat) (r : Sl), ρ[i]? = some r ∧ r.own = true ∧ σ[i]? = some (some (.ref b))
open Classical in
noncomputable def frzd (σ : St) (ρ : List Sl) (F H : Hp) : Hp := fun b => if Held σ ρ b then H b else F b
private theorem frzd_held {σ : St} {ρ : List Sl} {F H : Hp} {b : Addr} (h : Held σ ρ b) : frzd σ ρ F H b = H b := by unfold frzd; rw [if_pos h]
private theorem frzd_not {σ : St} {ρ : List Sl} {F H : Hp} {b : Addr} (h : ¬ Held σ ρ b) : frzd σ ρ F H b = F b := by unfold frzd; rw [if_neg h]
private theorem Rep.heldFree {K : PySem.W.Frag} {F H : Hp} {σ : St} {ρ : List Sl} (R : Rep K F H σ ρ) {b : Addr} (h : Held σ ρ b) : F b = none ∧ ∃ o, H b = some o := by
  obtain ⟨i, r, e, o, s⟩ := h
  obtain ⟨v, h1, h2⟩ := R.at_ i r e (by intro z; subst z; cases o)
  obtain ⟨p, o', e', q1, q2, _⟩ := h2.ref o
  subst e'
  rw [s] at h1; cases h1
  exact ⟨q2, _, q1⟩
private theorem Rep.frzSame {K : PySem.W.Frag} {F H : Hp} {σ : St} {ρ : List Sl} (R : Rep K F H σ ρ) : Same F (frzd σ ρ F H) := fun b o e => by
  by_cases h : Held σ ρ b
  · rw [(R.heldFree h).1] at e; cases e
  · rw [frzd_not h]; exact e
private theorem Rep.frzSub {K : PySem.W.Frag} {F H : Hp} {σ : St} {ρ : List Sl} (R : Rep K F H σ ρ) : Same (frzd σ ρ F H) H := fun b o e => by
  by_cases h : Held σ ρ b
  · rw [frzd_held h] at e; exact e
  · rw [frzd_not h] at e; exact R.sub _ _ e
private theorem Rep.vw {K : PySem.W.Frag} {F H : Hp} {σ : St} {ρ : List Sl} (R : Rep K F H σ ρ) : Rep K (frzd σ ρ F H) H σ (vw ρ) := by
  refine ⟨R.frzSub, fun i r e n => ?_, fun i j r r' p e _ o _ _ _ => ?_, by rw [R.len, List.length_map]⟩
  · obtain ⟨r', e', rfl⟩ := map_get e
    obtain ⟨v, h1, h2⟩ := R.at_ i r' e' (by intro z; subst z; exact n rfl)
    refine ⟨v, h1, ?_⟩
    cases ho : r'.own with
    | true =>
      obtain ⟨p, o, e2, q1, q2, q3⟩ := h2.ref ho
      subst e2
      have hd : Held σ ρ p := ⟨i, r', e', ho, h1⟩
      have := q3 _ R.frzSame (by rw [frzd_held hd]; exact q1)
      cases r' with
      | ac ds => exact this
      | ad ks ds => exact this
      | un => cases ho
      | sh d => cases ho
    | false =>
      cases r' with
      | ac ds => cases ho
      | ad ks ds => cases ho
      | un => exact absurd rfl n
      | sh d => exact Den.mono R.frzSame h2
  · obtain ⟨r', e', rfl⟩ := map_get e
    rw [Sl.vw_own] at o; cases o
end L3
namespace L3
open PySem PySem.Spec L2
open PyProof.Rows hiding St

noncomputable def tX (K : PySem.W.Frag) (f : List Sl → Option Sl) : TE := fun σ H Q => ∃ F ρ r, Rep K F H σ ρ ∧ f ρ = some r ∧ ∀ v F' H', Grow F H F' H' → Res K H F' H' r v → Q v H'
noncomputable def tXs (K : PySem.W.Frag) (f : List Sl → Option (List D)) : TA := fun σ H Q => ∃ F ρ ds, Rep K F H σ ρ ∧ f ρ = some ds ∧ ∀ vs F' H', Grow F H F' H' → DenL K F' ds vs → Q vs H'
noncomputable def tXt (K : PySem.W.Frag) (f : List Sl → Option Bool) : TT := fun σ H Q => ∃ F ρ b, Rep K F H σ ρ ∧ f ρ = some b ∧ ∀ F' H', Grow F H F' H' → Q b H'
noncomputable abbrev PX (X : Cx) (e : Expr) (f : List Sl → Option Sl) : Prop := PE X e (tX X.K f)
noncomputable abbrev PXs (X : Cx) (es : List Expr) (f : List Sl → Option (List D)) : Prop := PA X es (tXs X.K f)
noncomputable abbrev PXt (X : Cx) (e : Expr) (f : List Sl → Option Bool) : Prop := PT X e (tXt X.K f)
noncomputable abbrev PXw (X : Cx) (e : Expr) (f : List Sl → Option Bool) : Prop := PW X e (tXt X.K f)

section
variable {X : Cx} {e a b c : Expr} {es : List Expr} {pos : Pos}
private theorem PE.imp {t t' : TE} (h : PE X e t) (w : ∀ σ H Q, t' σ H Q → t σ H Q) : PE X e t' := fun pins s σ H Q I q => h pins s σ H Q I (w _ _ _ q)
private theorem PT.imp {t t' : TT} (h : PT X e t) (w : ∀ σ H Q, t' σ H Q → t σ H Q) : PT X e t' := fun pins s σ H Q I q => h pins s σ H Q I (w _ _ _ q)
private theorem PW.imp {t t' : TT} (h : PW X e t) (w : ∀ σ H Q, t' σ H Q → t σ H Q) : PW X e t' := fun wh pins s σ H Q I q => h wh pins s σ H Q I (w _ _ _ q)
private theorem PA.imp {t t' : TA} (h : PA X es t) (w : ∀ σ H Q, t' σ H Q → t σ H Q) : PA X es t' := fun pos pins s σ H Q I q => h pos pins s σ H Q I (w _ _ _ q)

private theorem Res.sh {K : PySem.W.Frag} {H₀ F H : Hp} {d : D} {v : V} (h : Den K F d v) : Res K H₀ F H (.sh d) v := ⟨h, fun o => by cases o⟩
private theorem Res.weak {K : PySem.W.Frag} {H₀ H₁ F H : Hp} {r : Sl} {v : V} (s : Same H₀ H₁) (q : Res K H₁ F H r v) : Res K H₀ F H r v := ⟨q.1, fun o p e => s.free (q.2 o p e)⟩

noncomputable def rdF (i : Nat) (ρ : List Sl) : Option Sl := match ρ[i]? with
  | some (.sh d) => some (.sh d)
  | _ => none
private theorem px_rd {x : Str} {i : Nat} (h : PE X (.Name x pos) (tVar i)) : PX X (.Name x pos) (rdF i) := PE.imp h fun σ H Q zq9 => by
  obtain ⟨F, ρ, r, R, e, k⟩ := zq9
  unfold rdF at e
  split at e
  · rename_i d hd
    cases e
    obtain ⟨v, h1, h2⟩ := R.at_ i _ hd (by intro z; cases z)
    exact ⟨v, h1, k v F H (.refl R.sub) (.sh h2)⟩
  · cases e
noncomputable def cF (d : D) (_ : List Sl) : Option Sl := some (.sh d)
private theorem px_const {v : V} {d : D} (h : PE X e (tC v)) (hd : ∀ F, Den X.K F d v) : PX X e (cF d) := PE.imp h fun σ H Q zq9 => by
  obtain ⟨F, ρ, r, R, e, k⟩ := zq9
  cases e
  exact k v F H (.refl R.sub) (.sh (hd F))
private theorem px_int {i j} : PX X (.Constant (.int i) j pos) (cF (.i i)) := px_const pe_int fun _ => rfl
private theorem px_bl {i j} : PX X (.Constant (.bool i) j pos) (cF (.b i)) := px_const pe_bl fun _ => rfl
private theorem px_non {j} : PX X (.Constant .none j pos) (cF .n) := px_const pe_non fun _ => rfl
private theorem px_str {x j} : PX X (.Constant (.str x) j pos) (cF (.s x)) := px_const pe_str fun _ => rfl
private theorem px_glob {x : Str} {v : V} {u : Value} {d : D} (hg : Gl X x) (hm : X.mg x = some u) (r : RelV v u) (hd : ∀ F, Den X.K F d v) (hdb : autoParam ((x == ("__debug__" : Str)) = false) _root_.zt1) : PX X (.Name x pos) (cF d) := px_const (pe_glob hg hm r hdb) hd

noncomputable def nilF (_ : List Sl) : Option (List D) := some []
noncomputable def consF (f : List Sl → Option Sl) (g : List Sl → Option (List D)) (ρ : List Sl) : Option (List D) := (f ρ).bind fun r => (g ρ).bind fun ds => some (r.toD :: ds)
private theorem pxs_nil : PXs X [] nilF := PA.imp pa_nil fun σ H Q zq9 => by
  obtain ⟨F, ρ, ds, R, e, k⟩ := zq9
  cases e
  exact k [] F H (.refl R.sub) DenL.nil
private theorem pxs_cons {f : List Sl → Option Sl} {g : List Sl → Option (List D)} (ha : PX X e f) (hr : PXs X es g) (hs : autoParam (starEach (e :: es) X.env = (false, eval e X.env) :: starEach es X.env) _root_.zt2) : PXs X (e :: es) (consF f g) :=
  PA.imp (pa_cons ha hr hs) fun σ H Q zq9 => by
    obtain ⟨F, ρ, ds, R, e, k⟩ := zq9
    unfold consF at e
    cases e1 : f ρ with
    | none => rw [e1] at e; cases e
    | some r =>
      rw [e1] at e
      cases e2 : g ρ with
      | none => rw [e2] at e; cases e
      | some ds' =>
        rw [e2] at e; cases e
        refine ⟨F, ρ, r, R, e1, fun v F1 H1 g1 q1 => ?_⟩
        obtain ⟨F2, g2, s2, den⟩ := q1.den g1
        exact ⟨F2, ρ, ds', R.grow g2, e2, fun vs F3 H3 g3 q3 => k (v :: vs) F3 H3 (g2.trans g3) (.cons (den.mono g3.ff) q3)⟩

noncomputable def tupF (g : List Sl → Option (List D)) (ρ : List Sl) : Option Sl := (g ρ).bind fun ds => if ds.length ≤ 1000 then some (.sh (.t ds)) else none
noncomputable def lstF (g : List Sl → Option (List D)) (ρ : List Sl) : Option Sl := (g ρ).bind fun ds => if ds.length ≤ 1000 then some (.ac ds) else none
private theorem le_line {n : Nat} (h : n ≤ 1000) : n ≤ sizeLine := Nat.le_of_lt (small1000 h)
private theorem px_tup {g : List Sl → Option (List D)} {x1} (h : PXs X es g) : PX X (.Tuple es x1 pos) (tupF g) := PE.imp (pe_tup h) fun σ H Q zq9 => by
  obtain ⟨F, ρ, r, R, e, k⟩ := zq9
  unfold tupF at e
  cases e1 : g ρ with
  | none => rw [e1] at e; cases e
  | some ds =>
    rw [e1] at e
    simp only [Option.bind_some] at e
    split at e
    · rename_i hl
      cases e
      refine ⟨F, ρ, ds, R, e1, fun vs F1 H1 g1 q1 => ⟨by rw [← q1.length]; exact le_line hl, fun p hp => ?_⟩⟩
      have g2 := Grow.lay g1.sub hp (.tup vs)
      exact k _ _ _ (g1.trans g2) (.sh ⟨p, vs, rfl, SqT.of upd_same, q1.mono g2.ff⟩)
    · cases e
private theorem px_lst {g : List Sl → Option (List D)} (h : PXs X es g) : PX X (.List es pos) (lstF g) := PE.imp (pe_lst h) fun σ H Q zq9 => by
  obtain ⟨F, ρ, r, R, e, k⟩ := zq9
  unfold lstF at e
  cases e1 : g ρ with
  | none => rw [e1] at e; cases e
  | some ds =>
    rw [e1] at e
    simp only [Option.bind_some] at e
    split at e
    · rename_i hl
      cases e
      refine ⟨F, ρ, ds, R, e1, fun vs F1 H1 g1 q1 => ⟨by rw [← q1.length]; exact le_line hl, fun p hp => ?_⟩⟩
      have g2 := Grow.own g1.sub hp (.lst vs)
      refine k _ F1 _ (g1.trans g2) ⟨⟨p, vs, rfl, upd_same, g1.sub.free hp, q1⟩, fun _ p' e' => ?_⟩
      cases e'
      exact g1.same.free hp
    · cases e

noncomputable def rX (K : PySem.W.Frag) (h : D → D → Option Sl) : R2 := fun x y H Q => ∃ F d1 d2 r, Same F H ∧ Den K F d1 x ∧ Den K F d2 y ∧ h d1 d2 = some r ∧ ∀ v F' H', Grow F H F' H' → Res K H F' H' r v → Q v H'
noncomputable def opF (h : D → D → Option Sl) (f g : List Sl → Option Sl) (ρ : List Sl) : Option Sl := (f ρ).bind fun x => (g ρ).bind fun y => h x.toD y.toD
private theorem op_imp {h : D → D → Option Sl} {f g : List Sl → Option Sl} {K : PySem.W.Frag} (σ : St) (H : Hp) (Q : VK) (q : tX K (opF h f g) σ H Q) : tOp (rX K h) (tX K f) (tX K g) σ H Q := by
  obtain ⟨F, ρ, r, R, e, k⟩ := q
  unfold opF at e
  cases e1 : f ρ with
  | none => rw [e1] at e; cases e
  | some x =>
    rw [e1] at e
    simp only [Option.bind_some] at e
    cases e2 : g ρ with
    | none => rw [e2] at e; cases e
    | some y =>
      rw [e2] at e
      simp only [Option.bind_some] at e
      refine ⟨F, ρ, x, R, e1, fun v F1 H1 g1 q1 => ?_⟩
      obtain ⟨F2, g2, s2, den1⟩ := q1.den g1
      refine ⟨F2, ρ, y, R.grow g2, e2, fun u F3 H3 g3 q3 => ?_⟩
      obtain ⟨F4, g4, s4, den2⟩ := q3.den g3
      exact ⟨F4, _, _, r, g4.sub, den1.mono g4.ff, den2, e, fun v' F' H' g q => k v' F' H' ((g2.trans g4).trans g) (q.weak (g2.trans g4).same)⟩
private theorem px_op {op : Operator} {h : D → D → Option Sl} {f g : List Sl → Option Sl} (ho : OpR X (binaryOp op) (rX X.K h)) (ha : PX X a f) (hb : PX X b g) : PX X (.BinOp a op b pos) (opF h f g) := PE.imp (pe_op ho ha hb) op_imp
noncomputable def tstF (f : List Sl → Option Sl) (ρ : List Sl) : Option Bool := match f ρ with
  | some (.sh (.b x)) => some x
  | _ => none
private theorem tstF_some {f : List Sl → Option Sl} {ρ : List Sl} {b : Bool} (h : tstF f ρ = some b) : f ρ = some (.sh (.b b)) := by
  unfold tstF at h
  split at h
  · rename_i x e; cases h; exact e
  · cases h
private theorem ptx_cmp {op : CmpOp} {h : D → D → Option Sl} {f g : List Sl → Option Sl} (ho : OpR X (compareOp op) (rX X.K h)) (ha : PX X a f) (hb : PX X b g) (hm : behindInMarks op b = false) : PXt X (.Compare a [op] [b] pos) (tstF (opF h f g)) :=
  PT.imp (pt_cmpR ho ha hb hm) fun σ H Q ⟨F, ρ, b, R, e, k⟩ => op_imp σ H _ ⟨F, ρ, _, R, tstF_some e, fun v F' H' g q => by
    have q1 : Den X.K F' (.b b) v := q.1
    exact ⟨b, q1, k F' H' g⟩⟩
noncomputable def truD : D → Option Bool
  | .n => some false
  | .b x => some x
  | .i x => some (x != 0)
  | .s x => if x.length ≤ sizeLine then some ((x.length : Int) != 0) else none
  | .t xs => some (!xs.isEmpty)
  | .l xs => some (!xs.isEmpty)
  | .d ks _ => some (!ks.isEmpty)
  | .x _ _ _ => none
  | .o _ _ _ => none
noncomputable def truF (f : List Sl → Option Sl) (ρ : List Sl) : Option Bool := (f ρ).bind fun r => truD r.toD
private theorem DenL.isEmpty {K : PySem.W.Frag} {F : Hp} {ds : List D} {vs : List V} (h : DenL K F ds vs) : ds.isEmpty = vs.isEmpty := by
  have := h.length
  cases ds <;> cases vs <;> first | rfl | (simp at this)
private theorem truV_of {K : PySem.W.Frag} {F H : Hp} (s : Same F H) : ∀ {d : D} {v : V} {b : Bool}, Den K F d v → truD d = some b → TruV K v H b
  | .n, _, _, q, e => by cases (show _ = V.non from q); cases e; exact rfl
  | .b _, _, _, q, e => by cases (show _ = V.bl _ from q); cases e; exact rfl
  | .i _, _, _, q, e => by cases (show _ = V.int _ from q); cases e; exact rfl
  | .s _, _, _, q, e => by
    cases (show _ = V.str _ from q)
    simp only [truD] at e
    split at e
    · rename_i hl; cases e; exact ⟨hl, rfl⟩
    · cases e
  | .t _, _, _, q, e => by
    obtain ⟨a, vs, rfl, h1, h2⟩ := q
    cases e
    exact .inr (.inl ⟨vs, sq_mono_T s h1, by rw [h2.isEmpty]⟩)
  | .l _, _, _, q, e => by
    obtain ⟨a, vs, rfl, h1, h2⟩ := q
    cases e
    exact .inl ⟨vs, s.seq h1, by rw [h2.isEmpty]⟩
  | .x _ _ _, _, _, _, e => by cases e
  | .o _ _ _, _, _, _, e => by cases e
  | .d ks _, _, _, q, e => by
    obtain ⟨a, vs, rfl, h1, h3, h2⟩ := q
    cases e
    refine .inr (.inr ⟨_, s _ _ h1, ?_⟩)
    cases ks with
    | nil => rfl
    | cons k ks =>
      cases vs with
      | nil => simp at h3
      | cons v vs => rfl
private theorem ptx_tru {f : List Sl → Option Sl} (ha : PX X a f) (he : autoParam (∀ whole, isTrue a X.env whole = (do let v ← whole; standAt a.pos; holding [v] (truthy v))) _root_.zt3) : PXt X a (truF f) :=
  PT.imp (pt_truth ha he) fun σ H Q zq9 => by
    obtain ⟨F, ρ, b, R, e, k⟩ := zq9
    unfold truF at e
    cases e1 : f ρ with
    | none => rw [e1] at e; cases e
    | some r =>
      rw [e1] at e
      simp only [Option.bind_some] at e
      refine ⟨F, ρ, r, R, e1, fun v F1 H1 g1 q1 => ?_⟩
      obtain ⟨F2, g2, s2, den⟩ := q1.den g1
      exact ⟨b, truV_of g2.sub den e, k _ _ g2⟩

noncomputable def orT (f g : List Sl → Option Bool) (ρ : List Sl) : Option Bool := match f ρ with
  | some true => some true
  | some false => g ρ
  | none => none
noncomputable def notT (f : List Sl → Option Bool) (ρ : List Sl) : Option Bool := (f ρ).map (!·)
variable {rest : List Expr}
private theorem pwx_or1 {f : List Sl → Option Bool} (ha : PXt X a f) : PXw X (.BoolOp .Or [a] pos) f := pw_or1 ha
private theorem pwx_or {f g : List Sl → Option Bool} (ha : PXt X a f) (hb : PXw X (.BoolOp .Or (b :: rest) pos) g) : PXw X (.BoolOp .Or (a :: b :: rest) pos) (orT f g) :=
  PW.imp (pw_or ha hb) fun σ H Q zq9 => by
    obtain ⟨F, ρ, b, R, e, k⟩ := zq9
    unfold orT at e
    split at e
    · rename_i e1
      cases e
      refine ⟨F, ρ, true, R, e1, fun F1 H1 g1 => ?_⟩
      refine iteT ?_
      exact k F1 H1 g1
    · rename_i e1
      refine ⟨F, ρ, false, R, e1, fun F1 H1 g1 => ?_⟩
      refine iteF ?_
      exact ⟨F1, ρ, b, R.grow g1, e, fun F2 H2 g2 => k F2 H2 (g1.trans g2)⟩
    · cases e
private theorem ptx_not {f : List Sl → Option Bool} (ha : PXt X a f) : PXt X (.UnaryOp .Not a pos) (notT f) := PT.imp (pt_not ha) fun σ H Q zq9 => by
  obtain ⟨F, ρ, b, R, e, k⟩ := zq9
  unfold notT at e
  cases e1 : f ρ with
  | none => rw [e1] at e; cases e
  | some x => rw [e1] at e; cases e; exact ⟨F, ρ, x, R, e1, k⟩
end
end L3
namespace L3
open PySem PySem.Spec L2
open PyProof.Rows hiding St

section
variable {X : Cx}
noncomputable def intO (C : Int → Int → Bool) (g : Int → Int → D) : D → D → Option Sl
  | .i a, .i b => if C a b = true then some (.sh (g a b)) else none
  | _, _ => none
private theorem intO_some {C : Int → Int → Bool} {g : Int → Int → D} {d1 d2 : D} {r : Sl} (h : intO C g d1 d2 = some r) : ∃ a b, d1 = .i a ∧ d2 = .i b ∧ C a b = true ∧ r = .sh (g a b) := by
  unfold intO at h
  split at h
  · rename_i a b
    split at h
    · rename_i hc; cases h; exact ⟨a, b, rfl, rfl, hc, rfl⟩
    · cases h
  · cases h
private theorem ox_int {f : Value → Value → Sem Value} {P : Int → Int → Prop} {C : Int → Int → Bool} {g : Int → Int → V} {gd : Int → Int → D} (h : OpR X f (rI P g)) (hc : ∀ a b, C a b = true → P a b) (hg : ∀ a b F, Den X.K F (gd a b) (g a b)) : OpR X f (rX X.K (intO C gd)) := by
  intro pins s σ H x y v u Q I rx ry q
  obtain ⟨F, d1, d2, r, hs, h1, h2, e, k⟩ := q
  obtain ⟨a, b, rfl, rfl, c, rfl⟩ := intO_some e
  exact h pins s σ H x y v u Q I rx ry ⟨a, b, h1, h2, hc a b c, k _ F H (.refl hs) (.sh (hg a b F))⟩
private theorem ox_int0 {f : Value → Value → Sem Value} {g : Int → Int → V} {gd : Int → Int → D} (h : OpR X f (rI0 g)) (hg : ∀ a b F, Den X.K F (gd a b) (g a b)) : OpR X f (rX X.K (intO (fun _ _ => true) gd)) := by
  intro pins s σ H x y v u Q I rx ry q
  obtain ⟨F, d1, d2, r, hs, h1, h2, e, k⟩ := q
  obtain ⟨a, b, rfl, rfl, c, rfl⟩ := intO_some e
  exact h pins s σ H x y v u Q I rx ry ⟨a, b, h1, h2, k _ F H (.refl hs) (.sh (hg a b F))⟩
noncomputable abbrev subD := intO (fun _ _ => true) fun a b => .i (a - b)
noncomputable abbrev mulI := intO (fun a b => decide ((-(2 ^ 64) < a ∧ a < 2 ^ 64) ∨ (-(2 ^ 64) < b ∧ b < 2 ^ 64)) || decide (a.natAbs.log2 < 60000 ∧ b.natAbs.log2 < 60000)) fun a b => .i (a * b)
noncomputable abbrev fdivD := intO (fun _ b => decide (0 < b ∧ b.natAbs.log2 < 9000)) fun a b => .i (a / b)
noncomputable abbrev modD := intO (fun _ b => decide (0 < b)) fun a b => .i (a % b)
noncomputable abbrev powD := intO (fun a b => decide (0 ≤ b ∧ b ≤ 1000000 ∧ a.natAbs < 2 ^ 64)) fun a b => .i (a ^ b.toNat)
noncomputable abbrev ltD := intO (fun _ _ => true) fun a b => .b (decide (a < b))
noncomputable abbrev gtD := intO (fun _ _ => true) fun a b => .b (decide (b < a))
noncomputable abbrev addI := intO (fun _ _ => true) fun a b => .i (a + b)
private theorem ox_addI : OpR X (binaryOp .Add) (rX X.K addI) := ox_int0 op_add fun _ _ _ => rfl
private theorem ox_sub : OpR X (binaryOp .Sub) (rX X.K subD) := ox_int0 op_sub fun _ _ _ => rfl
private theorem bits_of {a : Int} (h : a.natAbs.log2 < 60000) : Builtin.Int.intBits a ≤ 60000 := by
  unfold Builtin.Int.intBits
  split <;> omega
private theorem op_mulB : OpR X (binaryOp .Mult) (rI (fun i j => IntMulOk i j) fun i j => .int (i * j)) := opI fun _ _ _ _ _ _ _ hc q => mul_int q hc
private theorem ox_mulI : OpR X (binaryOp .Mult) (rX X.K mulI) := ox_int op_mulB (fun a b h => by
  rw [Bool.or_eq_true] at h
  rcases h with h | h
  · exact (show CMul a b from of_decide_eq_true (p := (-(2 ^ 64) < a ∧ a < 2 ^ 64) ∨ (-(2 ^ 64) < b ∧ b < 2 ^ 64)) h).ok
  · have h := of_decide_eq_true (p := a.natAbs.log2 < 60000 ∧ b.natAbs.log2 < 60000) h
    exact IntMulOk.of_le (bits_of h.1) (bits_of h.2) (by decide)) fun _ _ _ => rfl
private theorem op_fdivB : OpR X (binaryOp .FloorDiv) (rI (fun _ j => 0 < j ∧ j.natAbs.log2 < 9000) fun i j => .int (i / j)) := opI fun i j _ _ _ _ _ hc q => by
  have h1 : (0 : Int) < j := hc.1
  refine floordiv_int (by omega) ?_ (.inl (PyProof.noPylong_of_log2 hc.2))
  rw [Int.fdiv_eq_ediv_of_nonneg i (by omega)]; exact q
private theorem ox_fdiv : OpR X (binaryOp .FloorDiv) (rX X.K fdivD) := ox_int op_fdivB (fun _ b h => of_decide_eq_true (p := 0 < b ∧ b.natAbs.log2 < 9000) h) fun _ _ _ => rfl
private theorem ox_mod : OpR X (binaryOp .Mod) (rX X.K modD) := ox_int op_mod (fun _ _ h => of_decide_eq_true h) fun _ _ _ => rfl
private theorem ox_pow : OpR X (binaryOp .Pow) (rX X.K powD) := ox_int op_pow (fun a b h => of_decide_eq_true (p := 0 ≤ b ∧ b ≤ 1000000 ∧ a.natAbs < 2 ^ 64) h) fun _ _ _ => rfl
private theorem ox_lt : OpR X (compareOp .Lt) (rX X.K ltD) := ox_int0 op_lt fun _ _ _ => rfl
private theorem ox_gt : OpR X (compareOp .Gt) (rX X.K gtD) := ox_int0 op_gt fun _ _ _ => rfl
mutual
noncomputable def toP : D → PyData
  | .n => .none
  | .b x => .bool x
  | .i x => .int x
  | .s x => .str x
  | .t xs => .tuple (toPs xs)
  | .l xs => .list (toPs xs)
  | .d _ _ => .dict []
  | .x _ _ _ => .dict []
  | .o _ _ _ => .dict []
noncomputable def toPs : List D → List PyData
  | [] => []
  | d :: ds => toP d :: toPs ds
end
mutual
noncomputable def okE : Nat → D → Bool
  | _, .n => true
  | _, .b _ => true
  | _, .i _ => true
  | _, .s x => PyData.canLay0 (.str x)
  | 0, .t _ => false
  | n + 1, .t xs => okEs n xs
  | 0, .l _ => false
  | n + 1, .l xs => okEs n xs
  | _, .d _ _ => false
  | _, .x _ _ _ => false
  | _, .o _ _ _ => false
noncomputable def okEs : Nat → List D → Bool
  | _, [] => true
  | n, d :: ds => okE n d && okEs n ds
end
mutual
noncomputable def eqD : D → D → Bool
  | .n, z => (match z with
    | .n => true
    | _ => false)
  | .b a, z => (match z with
    | .b b => a == b
    | .i j => (if a then 1 else 0) == j
    | _ => false)
  | .i i, z => (match z with
    | .b b => i == (if b then 1 else 0)
    | .i j => i == j
    | _ => false)
  | .s x, z => (match z with
    | .s y => x == y
    | _ => false)
  | .l xs, z => (match z with
    | .l ys => eqDs xs ys
    | _ => false)
  | .t xs, z => (match z with
    | .t ys => eqDs xs ys
    | _ => false)
  | .d _ _, _ => false
  | .x _ _ _, _ => false
  | .o _ _ _, _ => false
noncomputable def eqDs : List D → List D → Bool
  | [], [] => true
  | x :: xs, y :: ys => eqD x y && eqDs xs ys
  | _, _ => false
end
mutual
private theorem eqv_toP : ∀ (a b : D), PyData.eqv (toP a) (toP b) = eqD a b
  | .n, b => by cases b <;> simp [toP, PyData.eqv, eqD]
  | .b _, b => by cases b <;> simp [toP, PyData.eqv, eqD]
  | .i _, b => by cases b <;> simp [toP, PyData.eqv, eqD]
  | .s _, b => by cases b <;> simp [toP, PyData.eqv, eqD]
  | .t xs, b => by cases b <;> simp [toP, PyData.eqv, eqD, eqv_toPs]
  | .l xs, b => by cases b <;> simp [toP, PyData.eqv, eqD, eqv_toPs]
  | .d _ _, b => by cases b <;> simp [toP, PyData.eqv, eqD]
  | .x _ _ _, b => by cases b <;> simp [toP, PyData.eqv, eqD]
  | .o _ _ _, b => by cases b <;> simp [toP, PyData.eqv, eqD]
private theorem eqv_toPs : ∀ (a b : List D), PyData.eqvAll (toPs a) (toPs b) = eqDs a b
  | [], b => by cases b <;> simp [toPs, PyData.eqvAll, eqDs]
  | x :: xs, b => by
    cases b with
    | nil => simp [toPs, PyData.eqvAll, eqDs]
    | cons y ys => simp [toPs, PyData.eqvAll, eqDs, eqv_toP x y, eqv_toPs xs ys]
end
mutual
private theorem okE_lay : ∀ (n : Nat) (d : D), okE n d = true → (toP d).canLay0 = true ∧ (toP d).depth ≤ n
  | _, .n, _ => ⟨rfl, by simp [toP, PyData.depth]⟩
  | _, .b _, _ => ⟨rfl, by simp [toP, PyData.depth]⟩
  | _, .i _, _ => ⟨rfl, by simp [toP, PyData.depth]⟩
  | _, .s _, h => ⟨by simpa [okE, toP] using h, by simp [toP, PyData.depth]⟩
  | 0, .t _, h => by simp [okE] at h
  | n + 1, .t xs, h => by
    have := okEs_lay n xs (by simpa [okE] using h)
    exact ⟨by simp [toP, PyData.canLay0, this.1], by simp [toP, PyData.depth]; omega⟩
  | 0, .l _, h => by simp [okE] at h
  | n + 1, .l xs, h => by
    have := okEs_lay n xs (by simpa [okE] using h)
    exact ⟨by simp [toP, PyData.canLay0, this.1], by simp [toP, PyData.depth]; omega⟩
  | _, .d _ _, h => by simp [okE] at h
  | _, .x _ _ _, h => by simp [okE] at h
  | _, .o _ _ _, h => by simp [okE] at h
private theorem okEs_lay : ∀ (n : Nat) (ds : List D), okEs n ds = true → PyData.canLayAll0 (toPs ds) = true ∧ PyData.depthAll (toPs ds) ≤ n
  | _, [], _ => ⟨rfl, by simp [toPs, PyData.depthAll]⟩
  | n, d :: ds, h => by
    simp only [okEs, Bool.and_eq_true] at h
    have h1 := okE_lay n d h.1
    have h2 := okEs_lay n ds h.2
    exact ⟨by simp [toPs, PyData.canLayAll0, h1.1, h2.1], by simp [toPs, PyData.depthAll]; omega⟩
end
private theorem okE_shaped {d : D} (h : okE 60 d = true) : SeqAt.shaped (toP d) = true := by
  have := okE_lay 60 d h
  unfold SeqAt.shaped
  rw [this.1, decide_eq_true (by omega)]; rfl
mutual
private theorem den_reads {pins : List (Addr × Obj)} {σ : St} {H F : Hp} {s : Shared} (I : Inv X pins σ H s) (hs : Same F H) : ∀ (n : Nat) {d : D} {v : V} {u : Value}, okE n d = true → Den X.K F d v → RelV v u → ∃ as, Reads s.heap u (toP d) as
  | _, .n, _, _, _, q, r => by cases (show _ = V.non from q); cases r; exact ⟨_, .none⟩
  | _, .b _, _, _, _, q, r => by cases (show _ = V.bl _ from q); cases r; exact ⟨_, .bool _⟩
  | _, .i _, _, _, _, q, r => by cases (show _ = V.int _ from q); obtain ⟨t, rfl⟩ := r; exact ⟨_, .int _ t⟩
  | _, .s _, _, _, _, q, r => by cases (show _ = V.str _ from q); obtain ⟨t, rfl⟩ := r; exact ⟨_, .str _ t⟩
  | 0, .t _, _, _, h, _, _ => by simp [okE] at h
  | n + 1, .t xs, _, _, h, q, r => by
    obtain ⟨a, vs, rfl, h1, h2⟩ := q
    cases r
    obtain ⟨its, rv, ⟨o, ho, hc, m, hd⟩, _⟩ := I.tuple (sq_mono_T hs h1)
    obtain ⟨as, ra⟩ := den_readss I hs n (by simpa [okE] using h) h2 rv
    exact ⟨_, .tuple ho hc hd (by simpa using ra)⟩
  | 0, .l _, _, _, h, _, _ => by simp [okE] at h
  | n + 1, .l xs, _, _, h, q, r => by
    obtain ⟨a, vs, rfl, h1, h2⟩ := q
    cases r
    obtain ⟨its, rv, pl, _⟩ := I.list (hs.seq h1)
    obtain ⟨o, ho, hc, m, hd⟩ := pl.isList
    obtain ⟨as, ra⟩ := den_readss I hs n (by simpa [okE] using h) h2 rv
    exact ⟨_, .list ho hc hd (by simpa using ra)⟩
  | _, .d _ _, _, _, h, _, _ => by simp [okE] at h
  | _, .x _ _ _, _, _, h, _, _ => by simp [okE] at h
  | _, .o _ _ _, _, _, h, _, _ => by simp [okE] at h
private theorem den_readss {pins : List (Addr × Obj)} {σ : St} {H F : Hp} {s : Shared} (I : Inv X pins σ H s) (hs : Same F H) : ∀ (n : Nat) {ds : List D} {vs : List V} {us : List Value}, okEs n ds = true → DenL X.K F ds vs → Vals vs us → ∃ as, ReadsAll s.heap us (toPs ds) as
  | _, [], _, _, _, q, r => by cases (show _ = [] from q); cases r; exact ⟨_, .nil⟩
  | n, d :: ds, _, _, h, q, r => by
    obtain ⟨v, vr, rfl, q1, q2⟩ := q
    cases r with
    | cons r1 r2 =>
      simp only [okEs, Bool.and_eq_true] at h
      obtain ⟨as, ra⟩ := den_reads I hs n h.1 q1 r1
      obtain ⟨bs, rb⟩ := den_readss I hs n h.2 q2 r2
      exact ⟨_, .cons ra rb⟩
end
noncomputable def eqO (d1 d2 : D) : Option Sl := if okE 60 d1 && okE 60 d2 then some (.sh (.b (eqD d1 d2))) else none
noncomputable def neO (d1 d2 : D) : Option Sl := if okE 60 d1 && okE 60 d2 then some (.sh (.b (!eqD d1 d2))) else none
private theorem ox_eq (hu : X.A.units + 64 < cLine) : OpR X (compareOp .Eq) (rX X.K eqO) := by
  intro pins s σ H x y v u Q I rx ry q
  obtain ⟨F, d1, d2, r, hs, h1, h2, e, k⟩ := q
  unfold eqO at e
  split at e
  · rename_i hk
    simp only [Bool.and_eq_true] at hk
    cases e
    obtain ⟨as, ra⟩ := den_reads I hs 60 hk.1 h1 rx
    obtain ⟨bs, rb⟩ := den_reads I hs 60 hk.2 h2 ry
    refine eq_dataH ra rb (okE_shaped hk.1) (okE_shaped hk.2) hu ⟨.bl _, H, I, rfl, ?_⟩
    rw [eqv_toP]
    exact k _ F H (.refl hs) (.sh rfl)
  · cases e
private theorem ox_ne (hu : X.A.units + 64 < cLine) : OpR X (compareOp .NotEq) (rX X.K neO) := by
  intro pins s σ H x y v u Q I rx ry q
  obtain ⟨F, d1, d2, r, hs, h1, h2, e, k⟩ := q
  unfold neO at e
  split at e
  · rename_i hk
    simp only [Bool.and_eq_true] at hk
    cases e
    obtain ⟨as, ra⟩ := den_reads I hs 60 hk.1 h1 rx
    obtain ⟨bs, rb⟩ := den_reads I hs 60 hk.2 h2 ry
    refine ne_dataH ra rb (okE_shaped hk.1) (okE_shaped hk.2) hu ⟨.bl _, H, I, rfl, ?_⟩
    rw [eqv_toP]
    exact k _ F H (.refl hs) (.sh rfl)
  · cases e
private theorem atI_den {K : PySem.W.Frag} {F : Hp} {ds : List D} {vs : List V} {i : Int} {d : D} (h : DenL K F ds vs) (e : atI ds i = some d) : ∃ v, atI vs i = some v ∧ Den K F d v := by
  unfold atI at e ⊢
  rw [← h.length]
  cases z : ixN ds.length i with
  | none => rw [z] at e; cases e
  | some j =>
    rw [z] at e
    simp only [Option.bind_some] at e ⊢
    exact h.get e
noncomputable def ixD : D → D → Option Sl
  | .t xs, .i k => (atI xs k).map .sh
  | .l xs, .i k => (atI xs k).map .sh
  | .s x, .i k => if x.length ≤ sizeLine then (atI x.cps.toList k).map fun c => .sh (.s ⟨#[c]⟩) else none
  | _, _ => none
private theorem xx_seq : IxR X (rX X.K ixD) := by
  intro value slice pins s σ H x y v u Q I rx ry q hsub
  obtain ⟨F, d1, d2, r, hs, h1, h2, e, k⟩ := q
  unfold ixD at e
  split at e
  · rename_i xs i
    obtain ⟨d, e1, rfl⟩ := Option.map_eq_some_iff.mp e
    obtain ⟨p, vs, rfl, z1, z2⟩ := h1
    obtain ⟨w, e2, z3⟩ := atI_den z2 e1
    exact ix_tup value slice pins s σ H _ y v u Q I rx ry ⟨p, vs, i, w, rfl, h2, sq_mono_T hs z1, e2, k _ F H (.refl hs) (.sh z3)⟩ hsub
  · rename_i xs i
    obtain ⟨d, e1, rfl⟩ := Option.map_eq_some_iff.mp e
    obtain ⟨p, vs, rfl, z1, z2⟩ := h1
    obtain ⟨w, e2, z3⟩ := atI_den z2 e1
    exact ix_list value slice pins s σ H _ y v u Q I rx ry ⟨p, vs, i, w, rfl, h2, hs.seq z1, e2, k _ F H (.refl hs) (.sh z3)⟩ hsub
  · rename_i z i
    split at e
    · rename_i hl
      obtain ⟨c, e1, rfl⟩ := Option.map_eq_some_iff.mp e
      exact ix_str value slice pins s σ H _ y v u Q I rx ry ⟨z, i, c, h1, h2, hl, e1, k _ F H (.refl hs) (.sh rfl)⟩ hsub
    · cases e
  · cases e
private theorem px_ix {a b : Expr} {pos : Pos} {h : D → D → Option Sl} {f g : List Sl → Option Sl} (hr : IxR X (rX X.K h)) (ha : PX X a f) (hb : PX X b g) (hs : autoParam (PlainIx b) _root_.zt5) : PX X (.Subscript a b pos) (opF h f g) := PE.imp (pe_ix hr ha hb hs) op_imp

noncomputable def cutD (xs : List D) (lo hi : Option Int) : List D := (xs.drop (HT.sIx xs.length 0 lo)).take (HT.sIx xs.length xs.length hi - HT.sIx xs.length 0 lo)
private theorem cut_den {K : PySem.W.Frag} {F : Hp} {ds : List D} {vs : List V} (h : DenL K F ds vs) (lo hi : Option Int) : DenL K F (cutD ds lo hi) (cutV vs lo hi) := by
  unfold cutD cutV
  rw [← h.length]
  exact (h.drop _).take _
noncomputable def slD (d : D) (lo hi : Option Int) : Option Sl := match d with
  | .l xs => some (.ac (cutD xs lo hi))
  | _ => none
noncomputable def optF (f : List Sl → Option Sl) (ρ : List Sl) : Option (Option Int) := match f ρ with
  | some (.sh (.i x)) => some (some x)
  | _ => none
noncomputable def noF (_ : List Sl) : Option (Option Int) := some none
noncomputable def sliceF (h : D → Option Int → Option Int → Option Sl) (f : List Sl → Option Sl) (lo hi : List Sl → Option (Option Int)) (ρ : List Sl) : Option Sl :=
  (f ρ).bind fun x => (lo ρ).bind fun l => (hi ρ).bind fun u => h x.toD l u
noncomputable def tXo (K : PySem.W.Frag) (f : List Sl → Option (Option Int)) : TO := fun σ H Q => ∃ F ρ o, Rep K F H σ ρ ∧ f ρ = some o ∧ ∀ F' H', Grow F H F' H' → Q o H'
noncomputable abbrev PXo (X : Cx) (e : Option Expr) (f : List Sl → Option (Option Int)) : Prop := PO X e (tXo X.K f)
private theorem PO.imp {e : Option Expr} {t t' : TO} (h : PO X e t) (w : ∀ σ H Q, t' σ H Q → t σ H Q) : PO X e t' := fun pins s σ H Q I q => h pins s σ H Q I (w _ _ _ q)
private theorem pox_no : PXo X none noF := PO.imp po_none fun σ H Q zq9 => by obtain ⟨F, ρ, o, R, e, k⟩ := zq9; cases e; exact k F H (.refl R.sub)
private theorem pox_some {e : Expr} {f : List Sl → Option Sl} (h : PX X e f) : PXo X (some e) (optF f) := PO.imp (po_some h) fun σ H Q zq9 => by
  obtain ⟨F, ρ, o, R, e, k⟩ := zq9
  unfold optF at e
  split at e
  · rename_i x e1
    cases e
    exact ⟨F, ρ, _, R, e1, fun v F' H' g q => ⟨x, q.1, k F' H' g⟩⟩
  · cases e
private theorem px_slice {e : Expr} {lo hi : Option Expr} {p2 pos : Pos} {f : List Sl → Option Sl} {l u : List Sl → Option (Option Int)} (he : PX X e f) (hl : PXo X lo l) (hu : PXo X hi u) : PX X (.Subscript e (.Slice lo hi none p2) pos) (sliceF slD f l u) :=
  PE.imp (pe_slice sl_list he hl hu) fun σ H Q zq9 => by
    obtain ⟨F, ρ, r, R, e, k⟩ := zq9
    unfold sliceF at e
    cases e1 : f ρ with
    | none => rw [e1] at e; cases e
    | some x =>
      rw [e1] at e; simp only [Option.bind_some] at e
      cases e2 : l ρ with
      | none => rw [e2] at e; cases e
      | some lo =>
        rw [e2] at e; simp only [Option.bind_some] at e
        cases e3 : u ρ with
        | none => rw [e3] at e; cases e
        | some hi =>
          rw [e3] at e; simp only [Option.bind_some] at e
          refine ⟨F, ρ, x, R, e1, fun v F1 H1 g1 q1 => ?_⟩
          obtain ⟨F2, g2, s2, den1⟩ := q1.den g1
          refine ⟨F2, ρ, lo, R.grow g2, e2, fun F3 H3 g3 => ?_⟩
          refine ⟨F3, ρ, hi, (R.grow g2).grow g3, e3, fun F4 H4 g4 => ?_⟩
          have g : Grow F H F4 H4 := g2.trans (g3.trans g4)
          have den : Den X.K F4 x.toD v := den1.mono (g3.trans g4).ff
          unfold slD at e
          split at e
          · rename_i xs ex
            cases e
            rw [ex] at den
            obtain ⟨p, vs, rfl, z1, z2⟩ := den
            refine ⟨p, vs, rfl, g4.sub.seq z1, fun q hq => ?_⟩
            have g5 := Grow.own g4.sub hq (.lst (cutV vs lo hi))
            refine k _ F4 _ (g.trans g5) ⟨⟨q, _, rfl, upd_same, g4.sub.free hq, cut_den z2 lo hi⟩, fun _ p' e' => ?_⟩
            cases e'
            exact g.same.free hq
          · cases e
end
end L3
namespace L3
open PySem PySem.Spec L2
open PyProof.Rows hiding St

noncomputable def rCX (K : PySem.W.Frag) (h : List D → Option Sl) : List V → Hp → VK → Prop := fun vs H Q => ∃ F ds r, Same F H ∧ DenL K F ds vs ∧ h ds = some r ∧ ∀ v F' H', Grow F H F' H' → Res K H F' H' r v → Q v H'
noncomputable def callF (h : List D → Option Sl) (g : List Sl → Option (List D)) (ρ : List Sl) : Option Sl := (g ρ).bind h
private theorem call_imp {K : PySem.W.Frag} {h : List D → Option Sl} {g : List Sl → Option (List D)} (σ : St) (H : Hp) (Q : VK) (q : tX K (callF h g) σ H Q) : tXs K g σ H fun vs H1 => rCX K h vs H1 Q := by
  obtain ⟨F, ρ, r, R, e, k⟩ := q
  unfold callF at e
  cases e1 : g ρ with
  | none => rw [e1] at e; cases e
  | some ds =>
    rw [e1] at e
    simp only [Option.bind_some] at e
    exact ⟨F, ρ, ds, R, e1, fun vs F1 H1 g1 q1 => ⟨F1, ds, r, g1.sub, q1, e, fun v F' H' g q => k v F' H' (g1.trans g) (q.weak g1.same)⟩⟩
section
variable {X : Cx} {x : Str} {p pos : Pos} {e : Expr} {es : List Expr} {id T : String} {h : List D → Option Sl} {g : List Sl → Option (List D)}
private theorem px_callB (hc : CallR X (.builtin id) (rCX X.K h)) (hg : Gl X x) (hm : X.mg x = none) (hv : bootBuiltins x = some (.builtin id)) (ha : PXs X (e :: es) g) (hn : autoParam (x ≠ "__name__") _root_.zt1) (hdb : autoParam ((x == ("__debug__" : Str)) = false) _root_.zt1)
    (he : autoParam (starEach (e :: es) X.env = (false, eval e X.env) :: starEach es X.env) _root_.zt2) (hpl : autoParam ((backTo pos (starEach es X.env)).any (·.1) = false) _root_.zt2) : PX X (.Call (.Name x p) (e :: es) [] pos) (callF h g) :=
  PE.imp (pe_callB hc hg hm hv ha hn hdb he hpl) call_imp
noncomputable def spX (K : PySem.W.Frag) (h : List D → Option Sl) : Sp := fun vs H Q _ => rCX K h vs H Q
private theorem px_call {k : Nat} {f : Addr} {fd : FuncData} {ps : List Str} (F : FnOk X.prog X.w X.K X.mg X.base CX0 k f fd ps (spX X.K h)) (hr : Room k X.A) (hg : Gl X x) (hm : X.mg x = some (.ref f)) (hk : PySem.W.keepIn X.K (.ref f) = true) (hb : Binds X.K fd ps [])
    (ha : PXs X (e :: es) g) (hdb : autoParam ((x == ("__debug__" : Str)) = false) _root_.zt1) (he : autoParam (starEach (e :: es) X.env = (false, eval e X.env) :: starEach es X.env) _root_.zt2) (hpl : autoParam ((backTo pos (starEach es X.env)).any (·.1) = false) _root_.zt2) :
    PX X (.Call (.Name x p) (e :: es) [] pos) (callF h g) :=
  PE.imp (pe_call F hr hg hm hk hb .nil pass0 ha hdb he hpl) fun σ H Q q => by
    have q1 := call_imp σ H Q q
    obtain ⟨F, ρ, ds, R, e, k⟩ := q1
    exact ⟨F, ρ, ds, R, e, fun vs F' H' g q => by
      show rCX X.K h (vs ++ []) H' Q
      rw [List.append_nil]
      exact k vs F' H' g q⟩

private theorem den1 {K : PySem.W.Frag} {F : Hp} {d : D} {vs : List V} (h : DenL K F [d] vs) : ∃ v, vs = [v] ∧ Den K F d v := by
  obtain ⟨v, r, rfl, h1, h2⟩ := h
  cases (show r = [] from h2)
  exact ⟨v, rfl, h1⟩
private theorem den2 {K : PySem.W.Frag} {F : Hp} {d d' : D} {vs : List V} (h : DenL K F [d, d'] vs) : ∃ v v', vs = [v, v'] ∧ Den K F d v ∧ Den K F d' v' := by
  obtain ⟨v, r, rfl, h1, h2⟩ := h
  obtain ⟨v', rfl, h3⟩ := den1 h2
  exact ⟨v, v', rfl, h1, h3⟩
noncomputable def lenB : List D → Option Sl
  | [.l xs] => some (.sh (.i xs.length))
  | [.t xs] => some (.sh (.i xs.length))
  | [.s x] => if x.length ≤ sizeLine then some (.sh (.i x.length)) else none
  | _ => none
private theorem cx_len : CallR X (.builtin "len") (rCX X.K lenB) := by
  intro pins s σ H xs us Q I r q
  obtain ⟨F, ds, rr, hs, hd, e, k⟩ := q
  unfold lenB at e
  split at e
  · cases e
    obtain ⟨v, rfl, p, vs, rfl, z1, z2⟩ := den1 hd
    exact call_len_seq pins s σ H _ us Q I r ⟨p, vs, rfl, .inl (hs.seq z1), k _ F H (.refl hs) (.sh (by rw [z2.length]; exact rfl))⟩
  · cases e
    obtain ⟨v, rfl, p, vs, rfl, z1, z2⟩ := den1 hd
    exact call_len_seq pins s σ H _ us Q I r ⟨p, vs, rfl, .inr (sq_mono_T hs z1), k _ F H (.refl hs) (.sh (by rw [z2.length]; exact rfl))⟩
  · split at e
    · rename_i hl
      cases e
      obtain ⟨v, rfl, z⟩ := den1 hd
      cases (show v = V.str _ from z)
      exact call_len_str pins s σ H _ us Q I r ⟨_, rfl, hl, k _ F H (.refl hs) (.sh rfl)⟩
    · cases e
  · cases e
noncomputable def minB : List D → Option Sl
  | [.i x, .i y] => some (.sh (.i (if y < x then y else x)))
  | _ => none
private theorem cx_min (hc : X.calm = true) : CallR X (.builtin "min") (rCX X.K minB) := by
  intro pins s σ H xs us Q I r q
  obtain ⟨F, ds, rr, hs, hd, e, k⟩ := q
  unfold minB at e
  split at e
  · cases e
    obtain ⟨v, v', rfl, z, z'⟩ := den2 hd
    cases (show v = V.int _ from z)
    cases (show v' = V.int _ from z')
    exact call_min2 hc pins s σ H _ us Q I r ⟨_, _, rfl, k _ F H (.refl hs) (.sh rfl)⟩
  · cases e
noncomputable def tyD : D → String
  | .n => "NoneType"
  | .b _ => "bool"
  | .i _ => "int"
  | .s _ => "str"
  | .t _ => "tuple"
  | .l _ => "list"
  | .d _ _ => "dict"
  | .x _ _ _ => "dict"
  | .o _ _ _ => "dict"
noncomputable def isXD : D → Bool
  | .x _ _ _ => true
  | .o _ _ _ => true
  | _ => false
noncomputable def subT (T n : String) : Bool := T == n || (T == "bool" && n == "int")
noncomputable def isiF (n : String) (f : List Sl → Option Sl) (ρ : List Sl) : Option Sl := (f ρ).bind fun r => if isXD r.toD = true then none else some (.sh (.b (subT (tyD r.toD) n)))
private theorem isi_ok {pins : List (Addr × Obj)} {σ : St} {H F : Hp} {s : Shared} {A : Around} {E : Value → Shared → Prop} {Q : Value → Shared → Prop} {c : Value} {b : Bool} (I : Inv X pins σ H s) (hs : Same F H) :
    ∀ {d : D} {v : V} {u : Value}, isXD d = false → Den X.K F d v → RelV v u → PySem.W.kitOne X.K (.type (tyD d)) c = some b → (∀ tk, Q (.bool b) { s with toks := tk }) → wpAny (model X.prog X.w) A (call (.builtin "isinstance") [u, c]) Q E s
  | .n, _, _, _, q, r, e, h => by cases (show _ = V.non from q); cases r; exact PySem.W.kia_one PySem.W.kitx_none I.kIn True.intro e (fun z => nomatch z) h
  | .b _, _, _, _, q, r, e, h => by cases (show _ = V.bl _ from q); cases r; exact PySem.W.kia_one PySem.W.kitx_bool I.kIn True.intro e (fun z => nomatch z) h
  | .i _, _, _, _, q, r, e, h => by cases (show _ = V.int _ from q); obtain ⟨t, rfl⟩ := r; exact PySem.W.kia_one PySem.W.kitx_int I.kIn True.intro e (fun z => nomatch z) h
  | .s _, _, _, _, q, r, e, h => by cases (show _ = V.str _ from q); obtain ⟨t, rfl⟩ := r; exact PySem.W.kia_one PySem.W.kitx_str I.kIn True.intro e (fun z => nomatch z) h
  | .t _, _, _, _, q, r, e, h => by
    obtain ⟨a, vs, rfl, h1, h2⟩ := q
    cases r
    obtain ⟨its, rv, ⟨o, ho, hc, _⟩, _⟩ := I.tuple (sq_mono_T hs h1)
    exact PySem.W.kia_one PySem.W.kitx_tuple I.kIn ⟨o, ho, hc⟩ e (fun z => nomatch z) h
  | .l _, _, _, _, q, r, e, h => by
    obtain ⟨a, vs, rfl, h1, h2⟩ := q
    cases r
    obtain ⟨its, rv, pl, _⟩ := I.list (hs.seq h1)
    obtain ⟨o, ho, hc, _⟩ := pl.isList
    exact PySem.W.kia_one PySem.W.kitx_list I.kIn ⟨o, ho, hc⟩ e (fun z => nomatch z) h
  | .x _ _ _, _, _, z, _, _, _, _ => by cases z
  | .o _ _ _, _, _, z, _, _, _, _ => by cases z
  | .d _ _, _, _, _, q, r, e, h => by
    obtain ⟨a, vs, rfl, h1, h3, h2⟩ := q
    cases r
    obtain ⟨_, _, vs', _, o, es, ep, ho, hx, _⟩ := I.hok a _ (hs _ _ h1)
    exact PySem.W.kia_one PySem.W.kitx_dict I.kIn ⟨o, ho, hx.1⟩ e (fun z => nomatch z) h
private theorem kit_types {K : PySem.W.Frag} {n : String} (hn : n ∈ ["int", "bool", "str", "list", "tuple", "dict"]) : ∀ d : D, PySem.W.kitOne K (.type (tyD d)) (.type n) = some (subT (tyD d) n) := by
  have all : ∀ n ∈ ["int", "bool", "str", "list", "tuple", "dict"], ∀ T ∈ ["NoneType", "bool", "int", "str", "tuple", "list", "dict"], PySem.W.kitOne K (.type T) (.type n) = some (subT T n) := by
    intro n hn T hT
    simp only [List.mem_cons, List.not_mem_nil, or_false] at hn hT
    rcases hn with rfl | rfl | rfl | rfl | rfl | rfl <;> rcases hT with rfl | rfl | rfl | rfl | rfl | rfl | rfl <;> rfl
  intro d
  exact all n hn _ (by cases d <;> simp [tyD])
private theorem px_isi {n : Str} {m : String} {a : Expr} {f : List Sl → Option Sl} {q : Pos} (ha : PX X a f) (hg : Gl X "isinstance") (hm : X.mg "isinstance" = none) (hgn : Gl X n) (hmn : X.mg n = none) (hv : bootBuiltins n = some (.type m))
    (hin : autoParam (m ∈ ["int", "bool", "str", "list", "tuple", "dict"]) _root_.zt1) (hn : autoParam (n ≠ "__name__") _root_.zt1) (hdb : autoParam ((n == ("__debug__" : Str)) = false) _root_.zt1)
    (he : autoParam (starEach [a, .Name n q] X.env = (false, eval a X.env) :: starEach [.Name n q] X.env) _root_.zt2) (he2 : autoParam (starEach [.Name n q] X.env = (false, eval (.Name n q) X.env) :: starEach [] X.env) _root_.zt2) (hpl : autoParam ((backTo pos (starEach [.Name n q] X.env)).any (·.1) = false) _root_.zt2) :
    PX X (.Call (.Name "isinstance" p) [a, .Name n q] [] pos) (isiF m f) := by
  have hc : CallR X (.builtin "isinstance") (fun xs H Q => ∃ F d v, Same F H ∧ xs = [v, .ty m] ∧ isXD d = false ∧ Den X.K F d v ∧ Q (.bl (subT (tyD d) m)) H) := by
    intro pins s σ H xs us Q I r q
    obtain ⟨F, d, v, hs, rfl, nx, hd, q⟩ := q
    obtain ⟨u, u', rfl, r1, r2⟩ := Vals.two r
    cases r2
    exact isi_ok I hs nx hd r1 (kit_types hin d) fun tk => ⟨.bl _, H, I.tok tk, rfl, q⟩
  refine PE.imp (pe_callB hc hg hm boot_isinstance (pa_cons ha (pa_cons (pe_bltn (v := .ty m) hgn hmn hv rfl hn hdb) pa_nil he2) he) (by decide) (by decide) he hpl) fun σ H Q zq9 => ?_
  obtain ⟨F, ρ, r, R, e, k⟩ := zq9
  unfold isiF at e
  obtain ⟨r', e1, e⟩ := Option.bind_eq_some_iff.mp e
  split at e
  · cases e
  rename_i nx
  cases e
  refine ⟨F, ρ, r', R, e1, fun v F1 H1 g1 q1 => ?_⟩
  obtain ⟨F2, g2, s2, den⟩ := q1.den g1
  exact ⟨F2, _, v, g2.sub, rfl, Bool.not_eq_true _ |>.mp nx, den, k _ F2 _ g2 (.sh rfl)⟩
end
end L3
namespace L3
open PySem PySem.Spec L2
open PyProof.Rows hiding St

structure Ex where
  c : Str
  ks : List Str
  vs : List D
noncomputable def ExDen (K : PySem.W.Frag) (F : Hp) (x : Ex) (C : Addr) (dx : Option Addr) : Prop := PySem.W.nsIn K mainGlobals x.c = some (some (.ref C)) ∧ ∃ us, XDc F dx x.ks us ∧ DenL K F x.vs us
private theorem ExDen.mono {K : PySem.W.Frag} {F F' : Hp} {x : Ex} {C : Addr} {dx : Option Addr} (h : Same F F') (q : ExDen K F x C dx) : ExDen K F' x C dx := let ⟨q1, us, q2, q3⟩ := q; ⟨q1, us, q2.mono h, q3.mono h⟩
inductive Out where
  | nx (ρ : List Sl) | bk (ρ : List Sl) | ct (ρ : List Sl) | rt (r : Sl) | ex (x : Ex) (ρ : List Sl)
structure RepS (K : PySem.W.Frag) (F₀ H₀ F H : Hp) (σ : St) (ρ : List Sl) : Prop where
  rep : Rep K F H σ ρ
  gr : Grow F₀ H₀ F H
  fresh : ∀ p, Held σ ρ p → H₀ p = none
private theorem RepS.grow {K : PySem.W.Frag} {F₀ H₀ F H F' H' : Hp} {σ : St} {ρ : List Sl} (R : RepS K F₀ H₀ F H σ ρ) (g : Grow F H F' H') : RepS K F₀ H₀ F' H' σ ρ := ⟨R.rep.grow g, R.gr.trans g, R.fresh⟩
private theorem not_held {σ : St} {ρ : List Sl} {p : Addr} (h : ∀ (i : Nat) (r : Sl), ρ[i]? = some r → r.own = false) : ¬ Held σ ρ p := fun ⟨i, r, e, o, _⟩ => by rw [h i r e] at o; cases o
private theorem vw_held {σ : St} {ρ : List Sl} {p : Addr} : ¬ Held σ (vw ρ) p := not_held fun i r e => by obtain ⟨r', _, rfl⟩ := map_get e; exact Sl.vw_own r'
private theorem RepS.frozen {K : PySem.W.Frag} {F₀ H₀ F H : Hp} {σ : St} {ρ : List Sl} (R : RepS K F₀ H₀ F H σ ρ) : RepS K F₀ H₀ (frzd σ ρ F H) H σ (vw ρ) := by
  refine ⟨R.rep.vw, ⟨R.gr.same, R.gr.ff.trans R.rep.frzSame, R.rep.frzSub, fun b e n => ?_⟩, fun p h => absurd h vw_held⟩
  by_cases h : Held σ ρ b
  · exact R.fresh b h
  · rw [frzd_not h] at n; exact R.gr.new b e n
private theorem Grow.rebase {F₀ H₀ F₁ H₁ F₂ H₂ : Hp} (a : Grow F₀ H₀ F₁ H₁) (b : Grow F₁ H₀ F₂ H₂) : Grow F₀ H₀ F₂ H₂ :=
  ⟨b.same, a.ff.trans b.ff, b.sub, fun c e n => by
    by_cases q : F₁ c = none
    · exact b.new c q n
    · exact a.new c e q⟩
private theorem RepS.rebase {K : PySem.W.Frag} {F₀ H₀ F₁ H₁ F H : Hp} {σ : St} {ρ : List Sl} (a : Grow F₀ H₀ F₁ H₁) (R : RepS K F₁ H₀ F H σ ρ) : RepS K F₀ H₀ F H σ ρ := ⟨R.rep, a.rebase R.gr, R.fresh⟩
private theorem RepS.based {K : PySem.W.Frag} {F₀ H₀ F H : Hp} {σ : St} {ρ : List Sl} (R : RepS K F₀ H₀ F H σ ρ) : RepS K F H₀ F H σ ρ := ⟨R.rep, ⟨R.gr.same, .refl _, R.gr.sub, fun _ e n => absurd e n⟩, R.fresh⟩

noncomputable def endO (X : Cx) (F₀ H₀ : Hp) (D : Ends) : Out → Prop
  | .nx ρ => ∀ F H σ, RepS X.K F₀ H₀ F H σ ρ → D.nx σ H
  | .bk ρ => ∀ F H σ, RepS X.K F₀ H₀ F H σ ρ → D.bk σ H
  | .ct ρ => ∀ F H σ, RepS X.K F₀ H₀ F H σ ρ → D.ct σ H
  | .rt r => ∀ v F H, Grow F₀ H₀ F H → Res X.K H₀ F H r v → D.rt v H
  | .ex x ρ => ∀ F H σ C dx e s', RepS X.K F₀ H₀ F H σ ρ → ExDen X.K F x C dx → Lies X σ H C dx e s' → X.xe e s'
noncomputable def tQ (X : Cx) (g : List Sl → Option Out) : TS := fun D σ H => ∃ F₀ H₀ F ρ o, RepS X.K F₀ H₀ F H σ ρ ∧ g ρ = some o ∧ endO X F₀ H₀ D o
noncomputable abbrev PQ (X : Cx) (st : Stmt) (g : List Sl → Option Out) : Prop := PS X st (tQ X g)
noncomputable abbrev PQs (X : Cx) (sts : List Stmt) (g : List Sl → Option Out) : Prop := PSs X sts (tQ X g)

section
variable {X : Cx} {st : Stmt} {rest : List Stmt} {e a b c : Expr} {es : List Expr} {pos : Pos}
private theorem PS.imp {t t' : TS} (h : PS X st t) (w : ∀ D σ H, t' D σ H → t D σ H) : PS X st t' := fun pins s σ H D I q => h pins s σ H D I (w _ _ _ q)
private theorem PSs.imp {sts : List Stmt} {t t' : TS} (h : PSs X sts t) (w : ∀ D σ H, t' D σ H → t D σ H) : PSs X sts t' := fun pins s σ H D I q => h pins s σ H D I (w _ _ _ q)

noncomputable def skipG (ρ : List Sl) : Option Out := some (.nx ρ)
noncomputable def seqG (g h : List Sl → Option Out) (ρ : List Sl) : Option Out := match g ρ with
  | some (.nx ρ') => h ρ'
  | o => o
private theorem qs_nil : PQs X [] skipG := PSs.imp pss_nil fun D σ H zq9 => by obtain ⟨F₀, H₀, F, ρ, o, R, e, k⟩ := zq9; cases e; exact k F H σ R
private theorem qs_one {g : List Sl → Option Out} (h : PQ X st g) : PQs X [st] g := pss_one h
private theorem qs_cons {g h : List Sl → Option Out} (h1 : PQ X st g) (h2 : PQs X rest h) : PQs X (st :: rest) (seqG g h) := PSs.imp (pss_cons h1 h2) fun D σ H zq9 => by
  obtain ⟨F₀, H₀, F, ρ, o, R, e, k⟩ := zq9
  unfold seqG at e
  split at e
  · rename_i ρ' e1
    exact ⟨F₀, H₀, F, ρ, .nx ρ', R, e1, fun F1 H1 σ1 R1 => ⟨F₀, H₀, F1, ρ', o, R1, e, k⟩⟩
  · rename_i hne
    cases o with
    | nx ρ' => exact absurd e (hne ρ')
    | bk ρ' => exact ⟨F₀, H₀, F, ρ, _, R, e, k⟩
    | ct ρ' => exact ⟨F₀, H₀, F, ρ, _, R, e, k⟩
    | rt r => exact ⟨F₀, H₀, F, ρ, _, R, e, k⟩
    | ex x ρ' => exact ⟨F₀, H₀, F, ρ, _, R, e, k⟩
noncomputable def Sl.flat : Sl → Bool
  | .sh .n => true
  | .sh (.b _) => true
  | .sh (.i _) => true
  | .sh (.s _) => true
  | _ => false
noncomputable def evS (f : List Sl → Option Sl) (ρ : List Sl) : Option (Sl × List Sl) := match f (er ρ) with
  | some r => some (r, ρ)
  | none => match f (vw ρ) with
    | some r => if r.flat then some (r, ρ) else some (r, vw ρ)
    | none => none
private theorem flat_den {K : PySem.W.Frag} {H₀ F H F' H' : Hp} {r : Sl} {v : V} (hf : r.flat = true) (q : Res K H₀ F H r v) : Res K H₀ F' H' r v := by
  refine ⟨?_, fun o => ?_⟩
  · have q1 := q.1
    cases r with
    | sh d => cases d <;> first | exact q1 | cases hf
    | _ => cases hf
  · cases r with
    | sh d => cases o
    | _ => cases hf
private theorem evS_ok {K : PySem.W.Frag} {f : List Sl → Option Sl} {F₀ H₀ F H : Hp} {σ : St} {ρ ρ' : List Sl} {r : Sl} {Q : VK} (R : RepS K F₀ H₀ F H σ ρ) (e : evS f ρ = some (r, ρ'))
    (k : ∀ v F' H', RepS K F₀ H₀ F' H' σ ρ' → Res K H F' H' r v → Same H H' → (∀ p, Held σ ρ' p → ∃ o, H p = some o) → Q v H') : tX K f σ H Q := by
  unfold evS at e
  split at e
  · rename_i r' e1
    cases e
    exact ⟨F, er ρ, r, R.rep.er, e1, fun v F' H' g q => k v F' H' (R.grow g) q g.same fun p h => (R.rep.heldFree h).2⟩
  · split at e
    · rename_i r' e1
      split at e
      · rename_i hf
        cases e
        refine ⟨_, vw ρ, r, R.rep.vw, e1, fun v F' H' g q => k v F H' (R.grow ⟨g.same, .refl _, R.rep.sub.trans g.same, fun _ e n => absurd e n⟩) (flat_den hf q) g.same fun p h => (R.rep.heldFree h).2⟩
      · cases e
        exact ⟨_, vw ρ, r, R.rep.vw, e1, fun v F' H' g q => k v F' H' (R.frozen.grow g) q g.same fun p h => absurd h vw_held⟩
    · cases e
private theorem held_set {σ : St} {ρ : List Sl} {i : Nat} {v : V} {r : Sl} {p : Addr} (h : Held (σ.set i (some v)) (ρ.set i r) p) : (r.own = true ∧ v = .ref p) ∨ Held σ ρ p := by
  obtain ⟨j, r', e, o, s⟩ := h
  by_cases z : i = j
  · subst z
    by_cases hl : i < ρ.length
    · rw [List.getElem?_set_self hl] at e
      cases e
      by_cases hl2 : i < σ.length
      · rw [List.getElem?_set_self hl2] at s
        cases s
        exact .inl ⟨o, rfl⟩
      · rw [List.getElem?_eq_none (by simpa using hl2)] at s; cases s
    · rw [List.getElem?_eq_none (by simpa using hl)] at e; cases e
  · rw [List.getElem?_set_ne z] at e s
    exact .inr ⟨j, r', e, o, s⟩
private theorem fresh_not {σ : L2.St} {ρ : List Sl} {H : Hp} {p : Addr} (hd : ∀ p, Held σ ρ p → ∃ o, H p = some o) (hn : H p = none) : ¬ Held σ ρ p := fun h => by
  obtain ⟨o, z⟩ := hd p h
  rw [hn] at z; cases z
private theorem RepS.store {K : PySem.W.Frag} {F₀ H₀ F H : Hp} {σ : St} {ρ : List Sl} {i : Nat} {v : V} {r : Sl} (R : RepS K F₀ H₀ F H σ ρ) (q : Own K F H r v) (ap : r.own = true → ∀ p, v = .ref p → ¬ Held σ ρ p ∧ H₀ p = none) : RepS K F₀ H₀ F H (σ.set i (some v)) (ρ.set i r) := by
  have hl := R.rep.len
  refine ⟨⟨R.rep.sub, fun j r' e n => ?_, fun j j' r1 r2 p e1 e2 o1 o2 s1 s2 => ?_, by simpa using hl⟩, R.gr, fun p h => ?_⟩
  · by_cases z : i = j
    · subst z
      have hi : i < ρ.length := by
        by_cases hl : i < ρ.length
        · exact hl
        · rw [List.getElem?_eq_none (by simpa using hl)] at e; cases e
      rw [List.getElem?_set_self hi] at e
      cases e
      exact ⟨v, List.getElem?_set_self (by rw [hl]; exact hi), q⟩
    · rw [List.getElem?_set_ne z] at e
      obtain ⟨w, h1, h2⟩ := R.rep.at_ j r' e n
      exact ⟨w, by rw [List.getElem?_set_ne z]; exact h1, h2⟩
  · by_cases z : i = j
    · by_cases z' : i = j'
      · rw [← z, ← z']
      · subst z
        rw [List.getElem?_set_ne z'] at e2 s2
        have hd : Held σ ρ p := ⟨j', r2, e2, o2, s2⟩
        have hi : i < ρ.length := by
          by_cases hl : i < ρ.length
          · exact hl
          · rw [List.getElem?_eq_none (by simpa using hl)] at e1; cases e1
        rw [List.getElem?_set_self hi] at e1
        rw [List.getElem?_set_self (by rw [hl]; exact hi)] at s1
        cases e1; cases s1
        exact absurd hd (ap o1 p rfl).1
    · by_cases z' : i = j'
      · subst z'
        rw [List.getElem?_set_ne z] at e1 s1
        have hd : Held σ ρ p := ⟨j, r1, e1, o1, s1⟩
        have hi : i < ρ.length := by
          by_cases hl : i < ρ.length
          · exact hl
          · rw [List.getElem?_eq_none (by simpa using hl)] at e2; cases e2
        rw [List.getElem?_set_self hi] at e2
        rw [List.getElem?_set_self (by rw [hl]; exact hi)] at s2
        cases e2; cases s2
        exact absurd hd (ap o2 p rfl).1
      · rw [List.getElem?_set_ne z] at e1 s1
        rw [List.getElem?_set_ne z'] at e2 s2
        exact R.rep.apart j j' r1 r2 p e1 e2 o1 o2 s1 s2
  · rcases held_set h with ⟨o, rfl⟩ | h
    · exact (ap o p rfl).2
    · exact R.fresh p h
noncomputable def setG (i : Nat) (f : List Sl → Option Sl) (ρ : List Sl) : Option Out := (evS f ρ).map fun q => .nx (q.2.set i q.1)
private theorem q_set {i : Nat} {x : Str} {pos' : Pos} {f : List Sl → Option Sl} (hN : X.N.Nodup) (hi : X.N[i]? = some x) (hx : Loc X.env.scope x) (he : PX X e f) (hs : autoParam (swapsWith e (some (.Name x pos')) pos.line X.env = pure false) _root_.zt2)
    (hf : autoParam (X.fn x = true ∨ X.env.scope.names.lookup x = some .local) _root_.zt0) : PQ X (.Assign [.Name x pos'] e pos) (setG i f) :=
  PS.imp (ps_set hN hi hx he hs hf) fun D σ H zq9 => by
    obtain ⟨F₀, H₀, F, ρ, o, R, e, k⟩ := zq9
    unfold setG at e
    obtain ⟨⟨r, ρ'⟩, e1, rfl⟩ := Option.map_eq_some_iff.mp e
    exact evS_ok R e1 fun v F' H' R' q s hd => k F' H' _ (R'.store q.1 fun o p ev => ⟨fresh_not hd (q.2 o p ev), R.gr.same.free (q.2 o p ev)⟩)

noncomputable def tG (K : PySem.W.Frag) (h : D → List Sl → Option (List Sl)) : TG := fun v σ H Q => ∃ F₀ H₀ F d ρ ρ', RepS K F₀ H₀ F H σ ρ ∧ Den K F d v ∧ h d ρ = some ρ' ∧ ∀ σ', RepS K F₀ H₀ F H σ' ρ' → Q σ' H
noncomputable def tGs (K : PySem.W.Frag) (h : List D → List Sl → Option (List Sl)) : TGs := fun vs σ H Q => ∃ F₀ H₀ F ds ρ ρ', RepS K F₀ H₀ F H σ ρ ∧ DenL K F ds vs ∧ h ds ρ = some ρ' ∧ ∀ σ', RepS K F₀ H₀ F H σ' ρ' → Q σ' H
noncomputable abbrev PGX (X : Cx) (tg : Expr) (h : D → List Sl → Option (List Sl)) : Prop := PG X tg (tG X.K h)
noncomputable abbrev PGXs (X : Cx) (tgs : List Expr) (h : List D → List Sl → Option (List Sl)) : Prop := PGs X tgs (tGs X.K h)
private theorem PG.imp {tg : Expr} {t t' : TG} (h : PG X tg t) (w : ∀ v σ H Q, t' v σ H Q → t v σ H Q) : PG X tg t' := fun pins s σ H v u Q I r q => h pins s σ H v u Q I r (w _ _ _ _ q)
private theorem PGs.imp {tg : List Expr} {t t' : TGs} (h : PGs X tg t) (w : ∀ v σ H Q, t' v σ H Q → t v σ H Q) : PGs X tg t' := fun pins s σ H v u Q I r q => h pins s σ H v u Q I r (w _ _ _ _ q)
noncomputable def nameG (i : Nat) (d : D) (ρ : List Sl) : Option (List Sl) := some (ρ.set i (.sh d))
private theorem pgx_name {i : Nat} {x : Str} (hN : X.N.Nodup) (hi : X.N[i]? = some x) (hx : Loc X.env.scope x) (hf : autoParam (X.fn x = true ∨ X.env.scope.names.lookup x = some .local) _root_.zt0) : PGX X (.Name x pos) (nameG i) :=
  PG.imp (pg_name hN hi hx hf) fun v σ H Q zq9 => by
    obtain ⟨F₀, H₀, F, d, ρ, ρ', R, q, e, k⟩ := zq9
    cases e
    exact k _ (R.store q fun o => by cases o)
noncomputable def nilG (ds : List D) (ρ : List Sl) : Option (List Sl) := match ds with
  | [] => some ρ
  | _ => none
noncomputable def consG (h : D → List Sl → Option (List Sl)) (hs : List D → List Sl → Option (List Sl)) (ds : List D) (ρ : List Sl) : Option (List Sl) := match ds with
  | d :: r => (h d ρ).bind (hs r)
  | [] => none
private theorem pgxs_nil : PGXs X [] nilG := PGs.imp pgs_nil fun v σ H Q zq9 => by
  obtain ⟨F₀, H₀, F, ds, ρ, ρ', R, q, e, k⟩ := zq9
  cases ds with
  | nil => cases e; exact ⟨q, k _ R⟩
  | cons d r => cases e
private theorem pgxs_cons {h : D → List Sl → Option (List Sl)} {hs : List D → List Sl → Option (List Sl)} (h1 : PGX X e h) (h2 : PGXs X es hs) (hst : autoParam ((assignEach (e :: es) X.env).map (·.2) = assign e X.env :: (assignEach es X.env).map (·.2)) _root_.zt2) : PGXs X (e :: es) (consG h hs) :=
  PGs.imp (pgs_cons h1 h2 hst) fun v σ H Q zq9 => by
    obtain ⟨F₀, H₀, F, ds, ρ, ρ', R, q, e, k⟩ := zq9
    cases ds with
    | nil => cases e
    | cons d r =>
      obtain ⟨w, wr, rfl, q1, q2⟩ := q
      unfold consG at e
      simp only at e
      cases e1 : h d ρ with
      | none => rw [e1] at e; cases e
      | some ρ1 =>
        rw [e1] at e
        exact ⟨w, wr, rfl, F₀, H₀, F, d, ρ, ρ1, R, q1, e1, fun σ1 R1 => ⟨F₀, H₀, F, r, ρ1, ρ', R1, q2, e, k⟩⟩
noncomputable def tupG (n : Nat) (hs : List D → List Sl → Option (List Sl)) (d : D) (ρ : List Sl) : Option (List Sl) := match d with
  | .t ds => if ds.length = n then hs ds ρ else none
  | _ => none
private theorem pgx_tup {kt : _} {hs : List D → List Sl → Option (List Sl)} {n : Nat} (hc : X.calm = true) (h : PGXs X es hs) (hn : autoParam ((assignEach es X.env).length = n) _root_.zt2) (hst : autoParam ((assignEach es X.env).findIdx? (·.1) = none) _root_.zt2) : PGX X (.Tuple es kt pos) (tupG n hs) :=
  PG.imp (pg_tup hc h hn hst) fun v σ H Q zq9 => by
    obtain ⟨F₀, H₀, F, d, ρ, ρ', R, q, e, k⟩ := zq9
    unfold tupG at e
    split at e
    · rename_i ds
      split at e
      · rename_i hl
        obtain ⟨p, vs, rfl, z1, z2⟩ := q
        exact ⟨p, vs, rfl, sq_mono_T R.rep.sub z1, by rw [← z2.length]; exact hl, F₀, H₀, F, ds, ρ, ρ', R, z2, e, k⟩
      · cases e
    · cases e
noncomputable def asgG (h : D → List Sl → Option (List Sl)) (f : List Sl → Option Sl) (ρ : List Sl) : Option Out := (evS f ρ).bind fun q => (h q.1.toD q.2).map .nx
private theorem RepS.den {K : PySem.W.Frag} {F₀ H₀ H F' H' : Hp} {σ : St} {ρ' : List Sl} {r : Sl} {v : V} (s0 : Same H₀ H) (R' : RepS K F₀ H₀ F' H' σ ρ') (q : Res K H F' H' r v) (hd : ∀ p, Held σ ρ' p → ∃ o, H p = some o) :
    ∃ F2, RepS K F₀ H₀ F2 H' σ ρ' ∧ Same F' F2 ∧ Den K F2 r.toD v := by
  obtain ⟨q, nw⟩ := q
  cases ho : r.own with
  | true =>
    obtain ⟨p, o, e, h1, h2, h3⟩ := q.ref ho
    have np := nw ho p e
    obtain ⟨g2, s2⟩ := R'.gr.freeze (s0.free np) h1
    have ne : ¬ Held σ ρ' p := fun h => by obtain ⟨ob, z⟩ := hd p h; rw [np] at z; cases z
    refine ⟨_, ⟨⟨g2.sub, fun i r' e' n => ?_, R'.rep.apart, R'.rep.len⟩, g2, R'.fresh⟩, s2 h2, h3 _ (s2 h2) upd_same⟩
    obtain ⟨w, w1, w2⟩ := R'.rep.at_ i r' e' n
    refine ⟨w, w1, ?_⟩
    cases r' with
    | un => exact w2
    | sh d => exact Den.mono (s2 h2) w2
    | ac ds =>
      obtain ⟨p', vs, rfl, z1, z2, z3⟩ := w2
      refine ⟨p', vs, rfl, z1, ?_, z3.mono (s2 h2)⟩
      rw [upd_ne]; exact z2
      rintro rfl; exact ne ⟨i, _, e', rfl, w1⟩
    | ad ks ds =>
      obtain ⟨p', vs, rfl, z1, z2, z3, z4⟩ := w2
      refine ⟨p', vs, rfl, z1, ?_, z3, z4.mono (s2 h2)⟩
      rw [upd_ne]; exact z2
      rintro rfl; exact ne ⟨i, _, e', rfl, w1⟩
  | false =>
    cases r with
    | un => exact q.elim
    | sh d => exact ⟨F', R', .refl _, q⟩
    | ac ds => cases ho
    | ad ks ds => cases ho
private theorem q_asg {tg : Expr} {h : D → List Sl → Option (List Sl)} {f : List Sl → Option Sl} (he : PX X e f) (hg : PGX X tg h) (hs : autoParam (swapsWithSole [tg] e pos.line X.env = pure false) _root_.zt2) (hw : autoParam (swappedStores [tg] e X.env = pure none) _root_.zt2)
    (h1 : autoParam ((assignEach [tg] X.env).map (·.2) = [assign tg X.env]) _root_.zt2) : PQ X (.Assign [tg] e pos) (asgG h f) :=
  PS.imp (ps_asg he hg hs hw h1) fun D σ H zq9 => by
    obtain ⟨F₀, H₀, F, ρ, o, R, e, k⟩ := zq9
    unfold asgG at e
    cases e1 : evS f ρ with
    | none => rw [e1] at e; cases e
    | some q =>
      obtain ⟨r, ρ'⟩ := q
      rw [e1] at e
      simp only [Option.bind_some] at e
      obtain ⟨ρ2, e2, rfl⟩ := Option.map_eq_some_iff.mp e
      refine evS_ok R e1 fun v F' H' R' q s hd => ?_
      obtain ⟨F2, R2, s2, den⟩ := R'.den R.gr.same q hd
      exact ⟨F₀, H₀, F2, _, ρ', ρ2, R2, den, e2, fun σ' R3 => k F2 H' σ' R3⟩

noncomputable def retG (f : List Sl → Option Sl) (ρ : List Sl) : Option Out := match f (er ρ) with
  | some r => some (.rt r)
  | none => (f (vw ρ)).map .rt
private theorem q_ret {f : List Sl → Option Sl} (he : PX X e f) : PQ X (.Return (some e) pos) (retG f) := PS.imp (ps_ret he) fun D σ H zq9 => by
  obtain ⟨F₀, H₀, F, ρ, o, R, e, k⟩ := zq9
  unfold retG at e
  split at e
  · rename_i r e1
    cases e
    exact ⟨F, er ρ, r, R.rep.er, e1, fun v F' H' g q => k v F' H' (R.gr.trans g) (q.weak R.gr.same)⟩
  · obtain ⟨r, e1, rfl⟩ := Option.map_eq_some_iff.mp e
    exact ⟨_, vw ρ, r, R.rep.vw, e1, fun v F' H' g q => k v F' H' (R.frozen.gr.trans g) (q.weak R.gr.same)⟩
noncomputable def retV (i : Nat) (ρ : List Sl) : Option Out := match ρ[i]? with
  | some .un => none
  | some r => some (.rt r)
  | none => none
private theorem q_retV {i : Nat} {x : Str} {p : Pos} (h : PE X (.Name x p) (tVar i)) : PQ X (.Return (some (.Name x p)) pos) (retV i) := PS.imp (ps_ret h) fun D σ H zq9 => by
  obtain ⟨F₀, H₀, F, ρ, o, R, e, k⟩ := zq9
  unfold retV at e
  split at e
  · cases e
  · rename_i r hn hr
    cases e
    obtain ⟨v, h1, h2⟩ := R.rep.at_ i r hr (fun z => hn z)
    refine ⟨v, h1, k v F H R.gr ⟨h2, fun ho p' ev => R.fresh p' ⟨i, r, hr, ho, by rw [h1, ev]⟩⟩⟩
  · cases e

noncomputable def ifG (t : List Sl → Option Bool) (g h : List Sl → Option Out) (ρ : List Sl) : Option Out := match t (vw ρ) with
  | some true => g ρ
  | some false => h ρ
  | none => none
private theorem q_if {t : List Sl → Option Bool} {g h : List Sl → Option Out} {as bs : List Stmt} (hc : PXt X c t) (ha : PQs X as g) (hb : PQs X bs h) : PQ X (.If c as bs pos) (ifG t g h) := PS.imp (ps_if hc ha hb) fun D σ H zq9 => by
  obtain ⟨F₀, H₀, F, ρ, o, R, e, k⟩ := zq9
  have nxt : ∀ {F' H' : Hp}, Grow (frzd σ ρ F H) H F' H' → RepS X.K F₀ H₀ F H' σ ρ := fun {F' H'} g => R.grow ⟨g.same, .refl _, R.rep.sub.trans g.same, fun _ e n => absurd e n⟩
  unfold ifG at e
  split at e
  · rename_i e1
    refine ⟨_, vw ρ, true, R.rep.vw, e1, fun F1 H1 g1 => ?_⟩
    refine iteT ?_
    exact ⟨F₀, H₀, F, ρ, o, nxt g1, e, k⟩
  · rename_i e1
    refine ⟨_, vw ρ, false, R.rep.vw, e1, fun F1 H1 g1 => ?_⟩
    refine iteF ?_
    exact ⟨F₀, H₀, F, ρ, o, nxt g1, e, k⟩
  · cases e
noncomputable def exprG (f : List Sl → Option Sl) (ρ : List Sl) : Option Out := (evS f ρ).map fun q => .nx q.2
private theorem q_expr {f : List Sl → Option Sl} (he : PX X e f) (hs : autoParam (swapsWith e none pos.line X.env = pure false) _root_.zt2) : PQ X (.Expr e pos) (exprG f) := PS.imp (ps_expr he hs) fun D σ H zq9 => by
  obtain ⟨F₀, H₀, F, ρ, o, R, e, k⟩ := zq9
  unfold exprG at e
  obtain ⟨⟨r, ρ'⟩, e1, rfl⟩ := Option.map_eq_some_iff.mp e
  exact evS_ok R e1 fun v F' H' R' q s hd => k F' H' σ R'
end
end L3
namespace L3
open PySem PySem.Spec L2
open PyProof.Rows hiding St

private theorem get_set_inv {ρ : List Sl} {i j : Nat} {r r' : Sl} (h : (ρ.set i r)[j]? = some r') : (j = i ∧ r' = r ∧ i < ρ.length) ∨ (j ≠ i ∧ ρ[j]? = some r') := by
  by_cases z : i = j
  · subst z
    by_cases hl : i < ρ.length
    · rw [List.getElem?_set_self hl] at h; cases h; exact .inl ⟨rfl, rfl, hl⟩
    · rw [List.getElem?_eq_none (by simpa using hl)] at h; cases h
  · rw [List.getElem?_set_ne z] at h; exact .inr ⟨Ne.symm z, h⟩
private theorem RepS.mut {K : PySem.W.Frag} {F₀ H₀ F H : Hp} {σ : St} {ρ : List Sl} {i : Nat} {r r' : Sl} {p : Addr} {o' : HO} (R : RepS K F₀ H₀ F H σ ρ) (hr : ρ[i]? = some r) (ho : r.own = true) (hσ : σ[i]? = some (some (.ref p)))
    (q : Own K F (upd H p o') r' (.ref p)) : RepS K F₀ H₀ F (upd H p o') σ (ρ.set i r') := by
  have hd : Held σ ρ p := ⟨i, r, hr, ho, hσ⟩
  obtain ⟨fp, ob, hp⟩ := R.rep.heldFree hd
  have h0 := R.fresh p hd
  refine ⟨⟨fun b u e => ?_, fun j r1 e n => ?_, fun j j' r1 r2 a e1 e2 o1 o2 s1 s2 => ?_, by simpa using R.rep.len⟩, ⟨fun b u e => ?_, R.gr.ff, fun b u e => ?_, R.gr.new⟩, fun b h => ?_⟩
  · rw [upd_ne (ne_of_none e fp)]; exact R.rep.sub _ _ e
  · rcases get_set_inv e with ⟨rfl, rfl, _⟩ | ⟨z, e⟩
    · exact ⟨_, hσ, q⟩
    · obtain ⟨w, w1, w2⟩ := R.rep.at_ j r1 e n
      refine ⟨w, w1, ?_⟩
      cases r1 with
      | un => exact w2
      | sh d => exact w2
      | ac ds =>
        obtain ⟨p', vs, rfl, z1, z2, z3⟩ := w2
        refine ⟨p', vs, rfl, ?_, z2, z3⟩
        rw [upd_ne]; exact z1
        rintro rfl; exact z (R.rep.apart j i _ _ p' e hr rfl ho w1 hσ)
      | ad ks ds =>
        obtain ⟨p', vs, rfl, z1, z2, z3⟩ := w2
        refine ⟨p', vs, rfl, ?_, z2, z3⟩
        rw [upd_ne]; exact z1
        rintro rfl; exact z (R.rep.apart j i _ _ p' e hr rfl ho w1 hσ)
  · have c1 : ∃ r0, ρ[j]? = some r0 ∧ r0.own = true := by
      rcases get_set_inv e1 with ⟨rfl, rfl, _⟩ | ⟨z, e⟩
      · exact ⟨r, hr, ho⟩
      · exact ⟨_, e, o1⟩
    have c2 : ∃ r0, ρ[j']? = some r0 ∧ r0.own = true := by
      rcases get_set_inv e2 with ⟨rfl, rfl, _⟩ | ⟨z, e⟩
      · exact ⟨r, hr, ho⟩
      · exact ⟨_, e, o2⟩
    obtain ⟨_, a1, a2⟩ := c1
    obtain ⟨_, b1, b2⟩ := c2
    exact R.rep.apart j j' _ _ a a1 b1 a2 b2 s1 s2
  · rw [upd_ne (ne_of_none e h0)]; exact R.gr.same _ _ e
  · rw [upd_ne (ne_of_none e fp)]; exact R.rep.sub _ _ e
  · obtain ⟨j, r1, e, o, s⟩ := h
    rcases get_set_inv e with ⟨rfl, rfl, _⟩ | ⟨z, e⟩
    · rw [hσ] at s; cases s; exact h0
    · exact R.fresh b ⟨j, r1, e, o, s⟩
private theorem evS_slots {f : List Sl → Option Sl} {ρ ρ' : List Sl} {r : Sl} (e : evS f ρ = some (r, ρ')) : ρ' = ρ ∨ ρ' = vw ρ := by
  unfold evS at e
  split at e
  · cases e; exact .inl rfl
  · split at e
    · split at e
      · cases e; exact .inl rfl
      · cases e; exact .inr rfl
    · cases e
private theorem vw_get_own {ρ : List Sl} {i : Nat} {r : Sl} (h : (vw ρ)[i]? = some r) : r.own = false := by
  obtain ⟨r', _, rfl⟩ := map_get h
  exact Sl.vw_own r'
private theorem evS_own {f : List Sl → Option Sl} {ρ ρ' : List Sl} {r r' : Sl} {i : Nat} (e : evS f ρ = some (r, ρ')) (h : ρ'[i]? = some r') (o : r'.own = true) : ρ' = ρ := by
  rcases evS_slots e with z | z
  · exact z
  · rw [z] at h; rw [vw_get_own h] at o; cases o

section
variable {X : Cx} {e a b c : Expr} {es : List Expr} {pos apos cpos p1 : Pos}
noncomputable def appG (i : Nat) (f : List Sl → Option Sl) (ρ : List Sl) : Option Out := (evS f ρ).bind fun q => match q.2[i]? with
  | some (.ac ds) => if ds.length < 10000000 then some (.nx (q.2.set i (.ac (ds ++ [q.1.toD])))) else none
  | _ => none
private theorem q_append {i : Nat} {x : Str} {f : List Sl → Option Sl} (hv : PE X (.Name x p1) (tVar i)) (he : PX X e f)
    (hbase : autoParam (attributeBase (.Name x p1) "append" X.env (eval (.Name x p1) X.env) = eval (.Name x p1) X.env) _root_.zt2)
    (hfew : autoParam (((backTo cpos (starEach [e] X.env)).all (fun x => !x.1) && (backToKw cpos (keywordEach [] X.env)).all (fun x => x.1.isSome)
      && decide (([e] : List Expr).length + ([] : List Keyword).length + (if ([] : List Keyword).isEmpty then 0 else 1) < 30)) = true) _root_.zt2)
    (hline : autoParam ((apos.endLine == cpos.line) = true) _root_.zt2) (hs : autoParam (starEach [e] X.env = (false, eval e X.env) :: starEach [] X.env) _root_.zt2) (hplain : autoParam ((backTo cpos (starEach [] X.env)).any (·.1) = false) _root_.zt2)
    (hsw : autoParam (swapsWith (.Call (.Attribute (.Name x p1) "append" apos) [e] [] cpos) none pos.line X.env = pure false) _root_.zt2) :
    PQ X (.Expr (.Call (.Attribute (.Name x p1) "append" apos) [e] [] cpos) pos) (appG i f) :=
  PS.imp (ps_expr (pe_bm PySem.F.plainAttrs_list PySem.F.slot_list_append PySem.F.type_list_append mt_append hv (pa_cons he pa_nil hs) hbase hfew hline hs hplain) hsw) fun D σ H zq9 => by
    obtain ⟨F₀, H₀, F, ρ, o, R, e, k⟩ := zq9
    unfold appG at e
    cases e1 : evS f ρ with
    | none => rw [e1] at e; cases e
    | some q =>
      obtain ⟨r, ρ'⟩ := q
      rw [e1] at e
      simp only [Option.bind_some] at e
      split at e
      · rename_i ds hds
        split at e
        · rename_i hl
          cases e
          have z := evS_own e1 hds rfl
          subst z
          obtain ⟨v, w1, w2⟩ := R.rep.at_ i _ hds (by intro z; cases z)
          obtain ⟨p, vs, rfl, h1, h2, h3⟩ := id w2
          refine ⟨_, w1, .inl ⟨rfl, _, SqL.of h1⟩, evS_ok R e1 fun y F' H' R' q s hd => ?_⟩
          obtain ⟨F2, R2, s2, den⟩ := R'.den R.gr.same q hd
          have hv' : ds.length = vs.length := h3.length
          have hp : H' p = some (.lst vs) := s _ _ h1
          refine ⟨p, vs, y, rfl, rfl, hp, by rw [← hv']; exact Nat.lt_of_lt_of_le hl (by rw [sizeLine_eq]; decide), ?_⟩
          obtain ⟨v', w1', w2'⟩ := R2.rep.at_ i _ hds (by intro z; cases z)
          rw [w1] at w1'; cases w1'
          obtain ⟨p', vs', ev, g1, g2, g3⟩ := w2'
          cases ev
          rw [hp] at g1; cases g1
          refine k F2 _ σ (R2.mut hds rfl w1 ⟨p, _, rfl, upd_same, g2, g3.append (.cons den .nil)⟩)
        · cases e
      · cases e
noncomputable def ItOk (K : PySem.W.Frag) (F₁ : Hp) (J : It) (items : List D) : Prop := ∀ (i : Nat) (F H : Hp), Same F₁ F → Same F H →
  (∀ d, items[i]? = some d → J.go i H ∧ ∀ x H', J.yld i H x H' → ∃ F2, Grow F H F2 H' ∧ Den K F2 d x) ∧ (items.length ≤ i → J.stop i H)
noncomputable def iX (K : PySem.W.Frag) (f : List Sl → Option (List D)) : TI := fun σ H R => ∃ F ρ items, Rep K F H σ ρ ∧ f ρ = some items ∧ ∀ J F' H', Grow F H F' H' → ItOk K F' J items → R J H'
noncomputable abbrev PIX (X : Cx) (tg iter : Expr) (f : List Sl → Option (List D)) : Prop := PI X tg iter (iX X.K f)
variable {tg : Expr}
private theorem PI.imp {iter : Expr} {t t' : TI} (h : PI X tg iter t) (w : ∀ σ H R, t' σ H R → t σ H R) : PI X tg iter t' := fun pins s σ H R I q => h pins s σ H R I (w _ _ _ q)
noncomputable def forG (h : D → List Sl → Option (List Sl)) (g : List Sl → Option Out) : List D → List Sl → Option Out
  | [], ρ => some (.nx ρ)
  | d :: ds, ρ => match h d ρ with
    | none => none
    | some ρ1 => match g ρ1 with
      | some (.nx ρ2) => forG h g ds ρ2
      | some (.ct ρ2) => forG h g ds ρ2
      | some (.bk ρ2) => some (.nx ρ2)
      | some (.rt r) => some (.rt r)
      | some (.ex x ρ2) => some (.ex x ρ2)
      | none => none
noncomputable def forS (f : List Sl → Option (List D)) (h : D → List Sl → Option (List Sl)) (g : List Sl → Option Out) (ρ : List Sl) : Option Out := match f (er ρ) with
  | some items => forG h g items ρ
  | none => match f (vw ρ) with
    | some items => forG h g items (vw ρ)
    | none => none
private theorem for_ok {X : Cx} {h : D → List Sl → Option (List Sl)} {g : List Sl → Option Out} {J : It} {items : List D} {D' : Ends} {F₀ H₀ F₁ H₁ : Hp} {σ : St} {ρ : List Sl} {o : Out} (it : ItOk X.K F₁ J items) (R : RepS X.K F₀ H₀ F₁ H₁ σ ρ) (e : forG h g items ρ = some o) (k : endO X F₀ H₀ D' o) :
    ∃ W : Nat → Nat → St → Hp → Prop, (∃ m, W 0 m σ H₁) ∧ ∀ i m σ H, W i m σ H →
      (J.stop i H ∧ D'.nx σ H) ∨ (J.go i H ∧ ∃ N : St → Hp → Prop, (∀ σ' H', N σ' H' → ∃ m', m' < m ∧ W (i + 1) m' σ' H') ∧ ∀ x H', J.yld i H x H' → tG X.K h x σ H' fun σ2 H2 => tQ X g { D' with nx := N, ct := N, bk := D'.nx } σ2 H2) := by
  refine ⟨fun i m σ H => m = items.length - i ∧ i ≤ items.length ∧ ∃ F ρ, RepS X.K F₀ H₀ F H σ ρ ∧ Same F₁ F ∧ forG h g (items.drop i) ρ = some o, ⟨_, rfl, Nat.zero_le _, F₁, ρ, R, .refl _, e⟩, ?_⟩
  rintro i m σ H ⟨rfl, hi, F, ρ, R, s1, e⟩
  obtain ⟨go, stop⟩ := it i F H s1 R.rep.sub
  by_cases hlt : i < items.length
  · have hd : items[i]? = some items[i] := List.getElem?_eq_getElem hlt
    rw [List.drop_eq_getElem_cons hlt] at e
    obtain ⟨g1, g2⟩ := go _ hd
    unfold forG at e
    split at e
    · cases e
    · rename_i ρ1 e1
      refine .inr ⟨g1, fun σ' H' => ∃ F ρ, RepS X.K F₀ H₀ F H' σ' ρ ∧ Same F₁ F ∧ forG h g (items.drop (i + 1)) ρ = some o, fun σ' H' n => ⟨items.length - (i + 1), by omega, rfl, hlt, n⟩, fun x H' y => ?_⟩
      obtain ⟨F2, gr, den⟩ := g2 x H' y
      refine ⟨F₀, H₀, F2, _, ρ, ρ1, R.grow gr, den, e1, fun σ2 R2 => ?_⟩
      have b2 := R2.gr
      have s2 : Same F₁ F2 := s1.trans gr.ff
      split at e
      · rename_i ρ2 e2
        exact ⟨F2, H₀, F2, ρ1, .nx ρ2, R2.based, e2, fun F3 H3 σ3 R3 => ⟨F3, ρ2, R3.rebase b2, s2.trans R3.gr.ff, e⟩⟩
      · rename_i ρ2 e2
        exact ⟨F2, H₀, F2, ρ1, .ct ρ2, R2.based, e2, fun F3 H3 σ3 R3 => ⟨F3, ρ2, R3.rebase b2, s2.trans R3.gr.ff, e⟩⟩
      · rename_i ρ2 e2
        cases e
        exact ⟨F2, H₀, F2, ρ1, .bk ρ2, R2.based, e2, fun F3 H3 σ3 R3 => k F3 H3 σ3 (R3.rebase b2)⟩
      · rename_i r e2
        cases e
        exact ⟨F2, H₀, F2, ρ1, .rt r, R2.based, e2, fun v F3 H3 g3 q3 => k v F3 H3 (b2.rebase g3) q3⟩
      · rename_i x ρ2 e2
        cases e
        exact ⟨F2, H₀, F2, ρ1, .ex x ρ2, R2.based, e2, fun F3 H3 σ3 C dx ev s' R3 xd ly => k F3 H3 σ3 C dx ev s' (R3.rebase b2) xd ly⟩
      · cases e
  · have z : i = items.length := by omega
    subst z
    rw [List.drop_length] at e
    cases e
    exact .inl ⟨stop (Nat.le_refl _), k F H σ R⟩
private theorem q_for {iter : Expr} {body : List Stmt} {f : List Sl → Option (List D)} {h : D → List Sl → Option (List Sl)} {g : List Sl → Option Out} (hp : PassesOwn (model X.prog X.w) X.A X.env X.xe) (hc : X.calm = true) (hi : PIX X tg iter f) (hg : PGX X tg h) (hb : PQs X body g)
    (hs : autoParam (∀ x, foldedSetIterable iter X.env x = pure x) _root_.zt3) : PQ X (.For tg iter body [] pos) (forS f h g) :=
  PS.imp (ps_for hp hc hi hg hb hs) fun D' σ H zq9 => by
    obtain ⟨F₀, H₀, F, ρ, o, R, e, k⟩ := zq9
    unfold forS at e
    split at e
    · rename_i items e1
      exact ⟨F, er ρ, items, R.rep.er, e1, fun J F' H' gr it => for_ok it (R.grow gr) e k⟩
    · split at e
      · rename_i items e1
        exact ⟨_, vw ρ, items, R.rep.vw, e1, fun J F' H' gr it => for_ok it (R.frozen.grow gr) e k⟩
      · cases e

private theorem itok_list' {K : PySem.W.Frag} {F : Hp} {a : Addr} {vs : List V} {ds : List D} (h1 : SqL K F a vs) (h2 : DenL K F ds vs) : ItOk K F (Itl K a) ds := fun i F' H s1 s2 => by
  have q : SqL K H a vs := (s1.trans s2).seq h1
  refine ⟨fun d e => ?_, fun hl => ⟨vs, q, by rw [← h2.length]; exact hl⟩⟩
  obtain ⟨v, e1, den⟩ := h2.get e
  refine ⟨⟨vs, v, q, e1⟩, fun x H' zq9 => ?_⟩
  obtain ⟨eH, y⟩ := zq9
  subst eH
  have := y vs q
  rw [e1] at this; cases this
  exact ⟨F', .refl s2, den.mono s1⟩
private theorem itok_tup {K : PySem.W.Frag} {F : Hp} {a : Addr} {vs : List V} {ds : List D} (h1 : SqT K F a vs) (h2 : DenL K F ds vs) : ItOk K F (Itt K a) ds := fun i F' H s1 s2 => by
  have q : SqT K H a vs := sq_mono_T (s1.trans s2) h1
  refine ⟨fun d e => ?_, fun hl => ⟨vs, q, by rw [← h2.length]; exact hl⟩⟩
  obtain ⟨v, e1, den⟩ := h2.get e
  refine ⟨⟨vs, v, q, e1⟩, fun x H' zq9 => ?_⟩
  obtain ⟨eH, y⟩ := zq9
  subst eH
  have := y vs q
  rw [e1] at this; cases this
  exact ⟨F', .refl s2, den.mono s1⟩
private theorem itok_rng {K : PySem.W.Frag} {F : Hp} (lo : Int) (n : Nat) : ItOk K F (Itr lo n) ((List.range n).map fun k => D.i (lo + (k : Nat))) := fun i F' H s1 s2 => by
  refine ⟨fun d e => ?_, fun hl => ?_⟩
  · rw [List.getElem?_map] at e
    obtain ⟨m, e1, rfl⟩ := Option.map_eq_some_iff.mp e
    obtain ⟨h1, h2⟩ := List.getElem?_eq_some_iff.mp e1
    simp at h1 h2
    subst h2
    exact ⟨h1, fun x H' ⟨eH, y⟩ => by subst eH; subst y; exact ⟨F', .refl s2, rfl⟩⟩
  · show n ≤ i
    simpa using hl
noncomputable def iSeq (K : PySem.W.Frag) (tl : TE) : TI := fun σ H R => tl σ H fun x H1 => ∃ a, x = .ref a ∧ ((∃ xs, SqL K H1 a xs ∧ R (Itl K a) H1) ∨ (∃ xs, SqT K H1 a xs ∧ R (Itt K a) H1))
private theorem pi_seq {l : Expr} {tl : TE} (hl : PE X l tl) : PI X tg l (iSeq X.K tl) := by
  intro pins s σ H R I h
  refine thn (hl pins s σ H _ I h) fun v s1 zq9 => ?_
  obtain ⟨x, H1, I1, r1, q1⟩ := zq9
  obtain ⟨a, e, hq⟩ := q1
  subst e
  cases r1
  rcases hq with ⟨xs, hq, q⟩ | ⟨xs, hq, q⟩
  · obtain ⟨its, rv, p, hz⟩ := I1.list hq
    refine wpAny_pyIter_list p.isList ?_
    refine ⟨s1.heap.objs.size, [s1.heap.objs.size], _, _, H1, rfl, I1.kept (t' := s1.toks) fun b o e => Heap.get?_push_of_some _ e, turn_list a _, ⟨_, Heap.get?_push_size _ rfl, rfl, rfl⟩, fun b hb => ?_, q⟩
    have e : b = s1.heap.objs.size := by simpa using hb
    subst e
    exact I1.fpOk (Nat.le_refl _) (I1.hok.fresh (Nat.le_refl _))
  · obtain ⟨its, rv, p, hz⟩ := I1.tuple hq
    refine wpAny_pyIter_tuple (show s1.heap.IsTuple a its.toArray from p) ?_
    refine ⟨s1.heap.objs.size, [s1.heap.objs.size], _, _, H1, rfl, I1.kept (t' := s1.toks) fun b o e => Heap.get?_push_of_some _ e, turn_tuple a _, ⟨_, Heap.get?_push_size _ rfl, rfl, rfl⟩, fun b hb => ?_, q⟩
    have e : b = s1.heap.objs.size := by simpa using hb
    subst e
    exact I1.fpOk (Nat.le_refl _) (I1.hok.fresh (Nat.le_refl _))
noncomputable def seqD : D → Option (List D)
  | .l ds => some ds
  | .t ds => some ds
  | _ => none
noncomputable def itemsF (f : List Sl → Option Sl) (ρ : List Sl) : Option (List D) := (f ρ).bind fun r => seqD r.toD
private theorem pix_seq {l : Expr} {f : List Sl → Option Sl} (hl : PX X l f) : PIX X tg l (itemsF f) := PI.imp (pi_seq hl) fun σ H R zq9 => by
  obtain ⟨F, ρ, items, R', e, k⟩ := zq9
  unfold itemsF at e
  cases e1 : f ρ with
  | none => rw [e1] at e; cases e
  | some r =>
    rw [e1] at e
    simp only [Option.bind_some] at e
    refine ⟨F, ρ, r, R', e1, fun v F1 H1 g1 q1 => ?_⟩
    obtain ⟨F2, g2, s2, den⟩ := q1.den g1
    unfold seqD at e
    split at e
    · rename_i ds ed
      cases e
      rw [ed] at den
      obtain ⟨a, vs, rfl, h1, h2⟩ := den
      exact ⟨a, rfl, .inl ⟨vs, g2.sub.seq h1, k _ F2 H1 g2 (itok_list' h1 h2)⟩⟩
    · rename_i ds ed
      cases e
      rw [ed] at den
      obtain ⟨a, vs, rfl, h1, h2⟩ := den
      exact ⟨a, rfl, .inr ⟨vs, sq_mono_T g2.sub h1, k _ F2 H1 g2 (itok_tup h1 h2)⟩⟩
    · cases e
private theorem of_log62 {j : Int} (h : j.natAbs.log2 < 62) : -(2 ^ 62) ≤ j ∧ j < 2 ^ 62 := by
  have : j.natAbs < 2 ^ 62 := by
    by_cases z : j.natAbs = 0
    · rw [z]; decide
    · exact (Nat.log2_lt z).mp h
  constructor <;> omega
noncomputable def rng1F (g : List Sl → Option (List D)) (ρ : List Sl) : Option (List D) := match g ρ with
  | some [.i j] => if j.natAbs.log2 < 62 then some ((List.range j.toNat).map fun k => D.i (0 + (k : Nat))) else none
  | _ => none
private theorem pix_range1 {g : List Sl → Option (List D)} {q : Pos} (hg : Gl X "range") (hm : X.mg "range" = none) (ha : PXs X [a] g) (hs : autoParam (starEach [a] X.env = [(false, eval a X.env)]) _root_.zt2) : PIX X tg (.Call (.Name "range" q) [a] [] pos) (rng1F g) :=
  PI.imp (pi_range1 hg hm ha hs) fun σ H R zq9 => by
    obtain ⟨F, ρ, items, R', e, k⟩ := zq9
    unfold rng1F at e
    split at e
    · rename_i j e1
      split at e
      · rename_i hb
        cases e
        refine ⟨F, ρ, _, R', e1, fun vs F1 H1 g1 q1 => ?_⟩
        obtain ⟨v, rfl, q⟩ := den1 q1
        cases (show v = V.int _ from q)
        exact ⟨j, rfl, (of_log62 hb).1, (of_log62 hb).2, k _ F1 H1 g1 (itok_rng 0 _)⟩
      · cases e
    · cases e
end

noncomputable def fnF (a n : Nat) (g : List Sl → Option Out) (ds : List D) : Option Sl := if ds.length = a then (match g (ds.map .sh ++ List.replicate (n - a) .un) with
  | some (.rt r) => some r
  | some (.nx _) => some (.sh .n)
  | _ => none) else none
private theorem repS_start {K : PySem.W.Frag} {F H : Hp} {N : List Str} {vs : List V} {ds : List D} (s : Same F H) (q : DenL K F ds vs) : RepS K F H F H (L2.start N vs) (ds.map .sh ++ List.replicate (N.length - ds.length) .un) := by
  have hl := q.length
  have no : ∀ (i : Nat) (r : Sl), (ds.map Sl.sh ++ List.replicate (N.length - ds.length) Sl.un)[i]? = some r → r.own = false := fun i r e => by
    have := List.mem_of_getElem? e
    rcases List.mem_append.mp this with z | z
    · obtain ⟨d, _, rfl⟩ := List.mem_map.mp z; rfl
    · rw [List.eq_of_mem_replicate z]; rfl
  refine ⟨⟨s, fun i r e n => ?_, fun i j r r' p e _ o => ?_, ?_⟩, .refl s, fun p h => absurd h (not_held no)⟩
  · by_cases hi : i < ds.length
    · rw [List.getElem?_append_left (by simpa using hi), List.getElem?_map] at e
      obtain ⟨d, e1, rfl⟩ := Option.map_eq_some_iff.mp e
      obtain ⟨v, e2, den⟩ := q.get e1
      refine ⟨v, ?_, den⟩
      unfold L2.start
      rw [List.getElem?_append_left (by simp; omega), List.getElem?_map, e2]; rfl
    · rw [List.getElem?_append_right (by simpa using hi)] at e
      exact absurd (List.eq_of_mem_replicate (List.mem_of_getElem? e)) n
  · rw [no i r e] at o; cases o
  · unfold L2.start
    simp
    omega
noncomputable def fnX (a n : Nat) (g : List Sl → Option Out) (ds : List D) : Option Ex := if ds.length = a then (match g (ds.map .sh ++ List.replicate (n - a) .un) with
  | some (.ex x _) => some x
  | _ => none) else none
noncomputable def spXX (K : PySem.W.Frag) (h : List D → Option Sl) (hx : List D → Option Ex) : Sp := fun vs H Q E => rCX K h vs H Q ∨ ∃ F ds x, Same F H ∧ DenL K F ds vs ∧ hx ds = some x ∧ ∀ C dx F' H', Grow F H F' H' → ExDen K F' x C dx → E (.ref C) dx H'
section
variable {P : Program} {w : World} {K : PySem.W.Frag} {mg : Str → Option Value} {base : Heap}
private theorem fn_ok {x qual : Str} {st : Stmt} {f : Addr} {fd : FuncData} {N ps : List Str} {k a n : Nat} {g : List Sl → Option Out} (F : Fun K x qual st f fd) (S : FnScope N ps (defScope st)) (ha : ps.length = a) (hn : N.length = n)
    (hb : ∀ (cdv : Value) (A : Around) (outer : List Env) (s : Shared) (H : Hp) (E : XK), Room k (A.deeper (envOfC qual (defScope st) s.heap.objs.size f cdv)) →
      PQs (cxOf (CX1 P w) P w K mg base N qual (defScope st) f cdv A outer s H E) (defBody st) g) : FnOk P w K mg base (CX1 P w) (k + 1) f fd ps (spXX K (fnF a n g) (fnX a n g)) := by
  subst ha hn
  have len : ∀ vs H Q E, spXX K (fnF ps.length N.length g) (fnX ps.length N.length g) vs H Q E → vs.length = ps.length := fun vs H Q E h => by
    rcases h with ⟨F, ds, r, hs, hd, e, _⟩ | ⟨F, ds, x, hs, hd, e, _⟩
    · unfold fnF at e
      split at e
      · rename_i hl; rw [← hd.length]; exact hl
      · cases e
    · unfold fnX at e
      split at e
      · rename_i hl; rw [← hd.length]; exact hl
      · cases e
  obtain ⟨oc, od, kV, doc, pm, an, cdv, ct, osl, rfl, lk, hcd⟩ := F.ex
  refine fn_of lk hcd S len fun A outer s H vs Q E hr h => ⟨_, hb cdv A outer s H E hr, ?_⟩
  rcases h with ⟨F1, ds, r, hs, hd, e, k⟩ | ⟨F1, ds, x, hs, hd, e, k⟩
  · unfold fnF at e
    split at e
    · rename_i hl
      rw [← hl] at e
      split at e
      · rename_i r' e1
        cases e
        exact ⟨F1, H, F1, _, _, repS_start hs hd, e1, fun v F' H' g q => k v F' H' g q⟩
      · rename_i ρ' e1
        cases e
        exact ⟨F1, H, F1, _, _, repS_start hs hd, e1, fun F' H' σ' R => k .non F' H' R.gr (.sh rfl)⟩
      · cases e
    · cases e
  · unfold fnX at e
    split at e
    · rename_i hl
      rw [← hl] at e
      split at e
      · rename_i x' ρ' e1
        cases e
        exact ⟨F1, H, F1, _, _, repS_start hs hd, e1, fun F' H' σ' C dx ev s' R xd ly => ly.leave (CX := CX0) (k C dx F' H' R.gr xd)⟩
      · cases e
    · cases e
private theorem pown {N : List Str} {qual : Str} {scope : Scope} {f : Addr} {cd : Value} {A : Around} {outer : List Env} {s : Shared} {H : Hp} {E : XK} :
    PassesOwn (model P w) (cxOf (CX1 P w) P w K mg base N qual scope f cd A outer s H E).A (cxOf (CX1 P w) P w K mg base N qual scope f cd A outer s H E).env (cxOf (CX1 P w) P w K mg base N qual scope f cd A outer s H E).xe := PassesOwn.leaving
private theorem FnOk.quiet {f : Addr} {fd : FuncData} {ps : List Str} {k : Nat} {h : List D → Option Sl} {hx : List D → Option Ex} (F : FnOk P w K mg base (CX1 P w) k f fd ps (spXX K h hx)) : FnOk P w K mg base CX0 k f fd ps (spX K h) :=
  ⟨fun vs H Q E q => F.len vs H Q E (.inl q), fun A outer s H args us vs Q E hr e0 hb hv hs => codeAny_mono (F.run A outer s H args us vs Q E0 hr e0 hb hv (.inl hs)) fun r s' q => by
    cases r with
    | error e => obtain ⟨C, dx, H', _, z⟩ := q; exact z
    | ok fl => cases fl <;> exact q⟩
end
end L3
namespace L3
open PySem PySem.Spec L2
open PyProof.Rows hiding St

noncomputable def keyD : D → Option Key
  | .i x => some (.inl x)
  | .s x => some (.inr x)
  | _ => none
private theorem keyD_of {K : PySem.W.Frag} {F : Hp} {d : D} {k : Key} {v : V} (e : keyD d = some k) (h : Den K F d v) : v = kV k := by
  cases d <;> first | (cases e; exact h) | cases e
noncomputable def valD : List Key → List D → Key → Option D
  | k' :: ks, d :: ds, k => if k' = k then some d else valD ks ds k
  | _, _, _ => none
private theorem valD_some {K : PySem.W.Frag} {F : Hp} : ∀ {ks : List Key} {ds : List D} {vs : List V} {k : Key} {d : D}, ks.length = vs.length → DenL K F ds vs → valD ks ds k = some d → ∃ v, valV (ks.zip vs) k = some v ∧ Den K F d v
  | [], _, _, _, _, _, _, e => by simp [valD] at e
  | _ :: _, [], _, _, _, _, _, e => by simp [valD] at e
  | k' :: ks, d' :: ds, _, k, d, hl, q, e => by
    obtain ⟨v, r, rfl, q1, q2⟩ := q
    simp only [List.length_cons, Nat.add_right_cancel_iff] at hl
    by_cases z : k' = k
    · simp only [valD, if_pos z] at e
      cases e
      exact ⟨v, by rw [List.zip_cons_cons, valV_pos z], q1⟩
    · simp only [valD, if_neg z] at e
      obtain ⟨w, h1, h2⟩ := valD_some hl q2 e
      exact ⟨w, by rw [List.zip_cons_cons, valV_neg z]; exact h1, h2⟩
section
variable {X : Cx} {e a b c : Expr} {pos apos p1 : Pos}
noncomputable def ixA (d1 d2 : D) : Option Sl := match d1 with
  | .d ks ds => (keyD d2).bind fun k => (valD ks ds k).map .sh
  | _ => ixD d1 d2
private theorem xx_any (hu : X.A.units + 1 < cLine) : IxR X (rX X.K ixA) := by
  intro value slice pins s σ H x y v u Q I rx ry q hsub
  obtain ⟨F, d1, d2, r, hs, h1, h2, e, k⟩ := q
  unfold ixA at e
  split at e
  · rename_i ks ds
    cases e1 : keyD d2 with
    | none => rw [e1] at e; cases e
    | some key =>
      rw [e1] at e
      simp only [Option.bind_some] at e
      obtain ⟨d, e2, rfl⟩ := Option.map_eq_some_iff.mp e
      obtain ⟨a, vs, rfl, z1, z3, z2⟩ := h1
      cases rx
      cases keyD_of e1 h2
      obtain ⟨w, hw, den⟩ := valD_some z3 z2 e2
      have g : DGet H a (kV key) (some w) := by rw [← hw]; exact DGet.k (hs _ _ z1)
      exact tail_any (dict_typeIs I g) PySem.F.slot_dict_getitem.lookup (d_getItem hu I g ry fun w' s3 I3 rw' => ⟨w, H, I3, rw', k _ F H (.refl hs) (.sh den)⟩) hsub
  · exact xx_seq value slice pins s σ H x y v u Q I rx ry ⟨F, d1, d2, r, hs, h1, h2, e, k⟩ hsub
noncomputable def negF (f : List Sl → Option Sl) (ρ : List Sl) : Option Sl := match f ρ with
  | some (.sh (.i x)) => some (.sh (.i (-x)))
  | _ => none
private theorem px_neg {f : List Sl → Option Sl} (ha : PX X a f) : PX X (.UnaryOp .USub a pos) (negF f) := PE.imp (pe_un un_neg ha) fun σ H Q zq9 => by
  obtain ⟨F, ρ, r, R, e, k⟩ := zq9
  unfold negF at e
  split at e
  · rename_i x e1
    cases e
    exact ⟨F, ρ, _, R, e1, fun v F1 H1 g1 q1 => ⟨x, q1.1, k _ F1 H1 g1 (.sh rfl)⟩⟩
  · cases e
noncomputable abbrev mulD := mulI
private theorem ox_mul : OpR X (binaryOp .Mult) (rX X.K mulD) := ox_mulI

noncomputable def CI (K : PySem.W.Frag) (mg : Str → Option Value) (x : Str) (d : D) : Prop := ∃ u v, mg x = some u ∧ RelV v u ∧ ∀ F, Den K F d v
private theorem px_cst {x : Str} {d : D} (h : CI X.K X.mg x d) (hg : Gl X x) (hdb : autoParam ((x == ("__debug__" : Str)) = false) _root_.zt1) : PX X (.Name x pos) (cF d) := by
  obtain ⟨u, v, h1, h2, h3⟩ := h
  exact px_glob hg h1 h2 h3 hdb
end

noncomputable def FD (K : PySem.W.Frag) (mg : Str → Option Value) (x : Str) (st : Stmt) (ps : List Str) : Prop := ∃ f fd, Fun K x x st f fd ∧ Binds K fd ps [] ∧ mg x = some (.ref f)
noncomputable def FX (P : Program) (w : World) (K : PySem.W.Frag) (mg : Str → Option Value) (base : Heap) (k : Nat) (x : Str) (ps : List Str) (h : List D → Option Sl) (hx : List D → Option Ex) : Prop :=
  ∃ f fd, FnOk P w K mg base (CX1 P w) k f fd ps (spXX K h hx) ∧ Binds K fd ps [] ∧ PySem.W.keepIn K (.ref f) = true ∧ mg x = some (.ref f)
section
variable {P : Program} {w : World} {K : PySem.W.Frag} {mg : Str → Option Value} {base : Heap}
private theorem FX.mono {j k : Nat} {x : Str} {ps : List Str} {h : List D → Option Sl} {hx : List D → Option Ex} (F : FX P w K mg base j x ps h hx) (l : j ≤ k) : FX P w K mg base k x ps h hx := by
  obtain ⟨f, fd, h1, h2, h3, h4⟩ := F
  exact ⟨f, fd, h1.mono l, h2, h3, h4⟩
private theorem FD.ok {x : Str} {st : Stmt} {N ps : List Str} {k a n : Nat} {g : List Sl → Option Out} (F : FD K mg x st ps) (S : FnScope N ps (defScope st)) (ha : ps.length = a) (hn : N.length = n)
    (hb : ∀ {f : Addr} (cdv : Value) (A : Around) (outer : List Env) (s : Shared) (H : Hp) (E : XK), Room k (A.deeper (envOfC x (defScope st) s.heap.objs.size f cdv)) →
      PQs (cxOf (CX1 P w) P w K mg base N x (defScope st) f cdv A outer s H E) (defBody st) g) : FX P w K mg base (k + 1) x ps (fnF a n g) (fnX a n g) := by
  obtain ⟨f, fd, F, b, m⟩ := F
  exact ⟨f, fd, fn_ok F S ha hn fun cdv A outer s H E hr => hb cdv A outer s H E hr, b, F.kp, m⟩
end
section
variable {X : Cx} {x : Str} {p pos : Pos} {e : Expr} {es : List Expr} {h : List D → Option Sl} {hx : List D → Option Ex} {g : List Sl → Option (List D)} {k : Nat} {ps : List Str}
private theorem px_fx (F : FX X.prog X.w X.K X.mg X.base k x ps h hx) (hr : Room k X.A) (hg : Gl X x) (ha : PXs X (e :: es) g) (hdb : autoParam ((x == ("__debug__" : Str)) = false) _root_.zt1) (he : autoParam (starEach (e :: es) X.env = (false, eval e X.env) :: starEach es X.env) _root_.zt2)
    (hpl : autoParam ((backTo pos (starEach es X.env)).any (·.1) = false) _root_.zt2) : PX X (.Call (.Name x p) (e :: es) [] pos) (callF h g) := by
  obtain ⟨f, fd, h1, h2, h3, h4⟩ := F
  exact px_call (FnOk.quiet h1) hr hg h4 h3 h2 ha hdb he hpl
end
private theorem law_sp {K : PySem.W.Frag} {H : Hp} {a : Addr} {ns : List Int} {h : List D → Option Sl} {E : XK} (hS : SqL K H a (ns.map V.int)) (ht : h [.l (ns.map D.i)] = some (.sh (.b true))) : spX K h [.ref a] H (fun v _ => v = .bl true) E :=
  ⟨H, [.l (ns.map D.i)], .sh (.b true), .refl _, .cons (show Den K H (.l (ns.map D.i)) (.ref a) from ⟨a, _, rfl, hS, .ints ns⟩) .nil, ht, fun _ _ _ _ q => q.1⟩
end L3
namespace L3
open PySem PySem.Spec L2
open PyProof.Rows hiding St

section
variable {prog : Program} {w : World} {A : Around} {R : Result → Shared → Prop} {s : Shared}
private theorem compLoop_gen {elt target iter : Expr} {ifs : List Expr} {scope : Scope} {pos : Pos} {it acc : Value} {env : Env} (I : Nat → Shared → Prop)
    (turn : ∀ n s, I n s → wpAny (model prog w) A (pyNext it) (fun r s₁ => match r with
      | none => R (.ok .next) s₁
      | some v => wpAny (model prog w) A (letOwnedTupleGo target it v) (fun _ s₁' => wpAny (model prog w) A (assign target env v) (fun _ s₂ =>
          wpAny (model prog w) A (forIn ifs true fun c r => if r = true then do let ok ← isTrue c env (eval c env); pure (ForInStep.yield ok) else pure (ForInStep.yield r)) (fun ok s₃ =>
            if ok = true then wpAny (model prog w) A (eval elt env) (fun x s₄ =>
              wpAny (model prog w) A (call (.builtin "list.append") [acc, x]) (fun _ s₅ => ∃ m, m < n ∧ I m s₅) (fun _ _ => False) s₄) (fun _ _ => False) s₃
            else ∃ m, m < n ∧ I m s₃) (fun _ _ => False) s₂) (fun _ _ => False) s₁') (fun _ _ => False) s₁) (fun _ _ => False) s)
    (n : Nat) (h : I n s) : codeAny (model prog w) A (.compLoop (.ListComp elt [⟨target, iter, ifs, 0⟩] scope pos) 0 it acc env) R s := by
  refine codeAny_loop rfl I (fun n s hI => ?_) n h
  show wpAny _ A ((compTurn (.ListComp elt [⟨target, iter, ifs, 0⟩] scope pos) 0 it acc env).onRaise (fun x => do noteFrame x env; theTreesLotGoes x)) _ _ s
  refine wpAny_noted ?_
  rw [compTurn_list]
  refine wpAny_bind (wpAny_standAt (wpAny_bind (wpAny_mono (turn n s hI) (fun r s₁ h₁ => ?_) fun _ _ h' => h'.elim)))
  cases r with
  | none => exact wpAny_pure h₁
  | some v =>
    refine wpAny_bind (wpAny_mono h₁ (fun _ s₁' h₁' => ?_) fun _ _ h' => h'.elim)
    refine wpAny_bind (wpAny_mono h₁' (fun _ s₂ h₂ => wpAny_bind (wpAny_mono h₂ (fun ok s₃ h₃ => ?_) fun _ _ h' => h'.elim)) fun _ _ h' => h'.elim)
    cases ok with
    | false => exact wpAny_pure ⟨rfl, h₃⟩
    | true =>
      exact wpAny_bind (wpAny_bind (wpAny_mono h₃ (fun x s₄ h₄ => wpAny_bind (wpAny_mono h₄ (fun _ s₅ h₅ => wpAny_pure (wpAny_pure ⟨rfl, h₅⟩)) fun _ _ h' => h'.elim)) fun _ _ h' => h'.elim))
end

noncomputable abbrev compCx (X : Cx) (N' : List Str) (cenv : Env) (s₀ : Shared) (H₀ : Hp) (ex : List Addr) : Cx :=
  { X with N := N', env := cenv, s₀ := s₀, H₀ := H₀, outer := X.stack, ex := ex, fn := fun _ => false, pn := [], xe := fun _ _ => False }
noncomputable def PTl (X : Cx) (ifs : List Expr) (t : TT) : Prop :=
  ∀ (pins : List (Addr × Obj)) (s : Shared) (σ : St) (H : Hp) (Q : Bool → Hp → Prop), Inv X pins σ H s → t σ H Q →
    wpAny (model X.prog X.w) X.A (forIn ifs true fun c r => if r = true then do let ok ← isTrue c X.env (eval c X.env); pure (ForInStep.yield ok) else pure (ForInStep.yield r)) (TP X pins σ Q) X.xe s
private theorem ptl_nil {X : Cx} : PTl X [] (fun _ H Q => Q true H) := fun pins s σ H Q I h => wpAny_tests_nil ⟨H, I, h⟩
structure CompOk (X : Cx) (scope : Scope) (cl : List (Str × Addr)) (N' : List Str) (fr : List (Option Nat)) : Prop where
  clos : closureFor scope X.env = pure cl
  kind : scope.kind = .function
  noc : ∀ y ∈ scope.names, y.2 ≠ .cell
  names : ∀ y ∈ scope.names, y.2 = .local → scope.names.lookup y.1 = some .local
  sub : ∀ x c, cl.lookup x = some c → X.env.cells.lookup x = some c
  has : ∀ x, ((relabel scope X.env).names.lookup x = some .cell ∨ (relabel scope X.env).names.lookup x = some .free) → ∃ c, cl.lookup x = some c
  len : fr.length = N'.length
  out : ∀ (i : Nat) (x : Str) (j : Nat), N'[i]? = some x → fr[i]? = some (some j) → X.N[j]? = some x ∧ X.env.scope.names.lookup x = some .cell ∧ ((relabel scope X.env).names.lookup x = some .cell ∨ (relabel scope X.env).names.lookup x = some .free)
noncomputable def inner (fr : List (Option Nat)) (σ : St) : St := fr.map fun o => o.bind fun j => (σ[j]?).getD none

private theorem comp_ok {X : Cx} {pins : List (Addr × Obj)} {σ : St} {H : Hp} {s : Shared} {scope : Scope} {cl : List (Str × Addr)} {N' : List Str} {fr : List (Option Nat)} {fp : List Addr} (I : Inv X pins σ H s) (O : CompOk X scope cl N' fr) (hf : ∀ b ∈ fp, FpOk X pins H b) (hlt : ∀ b ∈ fp, b < s.heap.objs.size) :
    (compCx X N' (compEnvC scope cl s.heap.objs.size X.env) s H fp).Ok where
  mod := I.ok.mod
  kind := O.kind
  glob := I.ok.glob
  blt := I.ok.blt
  above := Nat.le_refl _
  inj := fun x y c h1 h2 => I.ok.inj x y c (O.sub x c h1) (O.sub y c h2)
  has := fun x h => O.has x h
  cab := fun x c h => by cases h
  hd := I.ok.hd
  frames := I.ok.frames
  stk := .inl rfl
  exf := fun b hb => ⟨Nat.ne_of_lt (hlt b hb), fun x c e => (hf b hb).2.2.2.2.1 x c (O.sub x c e)⟩
  bs := I.bs
  bsz := Nat.le_trans I.ok.bsz I.sz
  noex := fun b o e hb => by
    rcases (hf b hb).2.2.2.1 with z | z
    · exact I.ok.noex b o e z
    · exact absurd (Nat.lt_of_lt_of_le (Heap.lt_size (I.ok.bs b o e).1) z) (Nat.lt_irrefl _)
  exfs := fun b hb z => by
    rcases List.mem_cons.mp (I.stkSub b z) with e | e
    · exact (hf b hb).2.1 e
    · exact (hf b hb).2.2.1 e
  funs := I.stack
  frf := I.stkFree

private theorem inner_get {fr : List (Option Nat)} {σ : St} {i : Nat} {v : V} (h : (inner fr σ)[i]? = some (some v)) : ∃ j, fr[i]? = some (some j) ∧ σ[j]? = some (some v) := by
  unfold inner at h
  rw [List.getElem?_map] at h
  obtain ⟨o, h1, h2⟩ := Option.map_eq_some_iff.mp h
  cases o with
  | none => cases h2
  | some j =>
    refine ⟨j, h1, ?_⟩
    simp only [Option.bind_some] at h2
    cases e : σ[j]? with
    | none => rw [e] at h2; cases h2
    | some q => rw [e] at h2; simp only [Option.getD_some] at h2; rw [h2]

private theorem comp_start {X : Cx} {pins : List (Addr × Obj)} {σ : St} {H : Hp} {s : Shared} {scope : Scope} {cl : List (Str × Addr)} {N' : List Str} {fr : List (Option Nat)} {fp : List Addr} {h₁ : Heap} {m : Str → Option Value} {ob : Obj} (I : Inv X pins σ H s) (O : CompOk X scope cl N' fr) (hf : ∀ b ∈ fp, FpOk X pins H b) (hlt : ∀ b ∈ fp, b < s.heap.objs.size)
    (hns : h₁.Ns s.heap.objs.size m) (hsb : Heap.SameBut s.heap.objs.size (s.heap.push ob) h₁) : Inv (compCx X N' (compEnvC scope cl s.heap.objs.size X.env) s H fp) [] (inner fr σ) H { s with heap := h₁ } := by
  have kp : ∀ b u, s.heap.get? b = some u → h₁.get? b = some u := fun b u e => (hsb.2 b (Nat.ne_of_lt (Heap.lt_size e))).trans (Heap.get?_push_of_some _ e)
  refine ⟨comp_ok I O hf hlt, rfl, I.bare, Un.kept kp, ⟨m, hns, fun i x v e1 e2 e3 => ?_⟩, fun x c e => ?_, I.hok.fresh (Nat.le_refl _), fun x c e => I.freeC x c (O.sub x c e), fun p hp => absurd (show p ∈ ([] : List (Addr × Obj)) from hp) (by simp), I.hok.kept kp, by unfold inner; rw [List.length_map]; exact O.len⟩
  · obtain ⟨j, f1, f2⟩ := inner_get e2
    obtain ⟨o1, o2, o3⟩ := O.out i x j e1 f1
    obtain ⟨mo, hn, hl⟩ := I.loc
    obtain ⟨u, ru, lk⟩ := hl j x v o1 f2 (.inr (.inl o2))
    refine ⟨u, ru, .inr ⟨o3, ?_⟩⟩
    rcases lk with ⟨k, _⟩ | ⟨_, c, e, ob', z1, z2⟩
    · have k' : X.env.scope.names.lookup x = some .local := k
      rw [o2] at k'; cases k'
    · obtain ⟨c', e'⟩ := O.has x o3
      have e'' := O.sub x c' e'
      rw [e] at e''; cases e''
      exact ⟨c, e', ob', kp _ _ z1, z2⟩
  · obtain ⟨v, ob', z1, z2⟩ := I.cell x c (O.sub x c e)
    exact ⟨v, ob', kp _ _ z1, z2⟩

noncomputable def LcW (J : It) (g : TG) (tt : TT) (te : TE) (D : Addr) (Q : Hp → Prop) (W : Nat → Nat → St → Hp → Prop) : Prop := ∀ i m σ H2, W i m σ H2 →
  (J.stop i H2 ∧ Q H2) ∨ (J.go i H2 ∧ ∀ x H3, J.yld i H2 x H3 → g x σ H3 fun σ4 H4 => tt σ4 H4 fun b H5 =>
    if b = true then te σ4 H5 fun y H6 => ∃ ys, H6 D = some (.lst ys) ∧ ys.length < sizeLine ∧ ∃ m', m' < m ∧ W (i + 1) m' σ4 (upd H6 D (.lst (ys ++ [y]))) else ∃ m', m' < m ∧ W (i + 1) m' σ4 H5)
noncomputable def tLC (fr : List (Option Nat)) (wi : TI) (g : TG) (tt : TT) (te : TE) : TE := fun σ H Q => wi σ H fun J H1 => ∀ D, H1 D = none → ∃ W : Nat → Nat → St → Hp → Prop, (∃ m, W 0 m (inner fr σ) (upd H1 D (.lst []))) ∧ LcW J g tt te D (Q (.ref D)) W

private theorem lc_loop {X : Cx} {elt tg iter : Expr} {ifs : List Expr} {scope : Scope} {pos : Pos} {g : TG} {tt : TT} {te : TE} {J : It} {fp : List Addr} {it D : Addr} {tn : Nat → Heap → Prop} {W : Nat → Nat → St → Hp → Prop} {Q : Hp → Prop} {R : Result → Shared → Prop} {σ : St} {H : Hp} {s : Shared} {m : Nat}
    (T : Turn X.prog X.w X.K tg J fp it tn) (hc : X.calm = true) (hx : X.xe = fun _ _ => False) (hg : PG X tg g) (ht : PTl X ifs tt) (he : PE X elt te) (stat : ∀ H' : Hp, (∀ b ∈ fp, H' b = none) → ∀ b ∈ fp, FpOk X [] H' b)
    (hW : LcW J g tt te D Q W) (fin : ∀ σ' H' s', Inv X [] σ' H' s' → Q H' → R (.ok .next) s') (I : Inv X [] σ H s) (st : tn 0 s.heap) (hf : ∀ b ∈ fp, H b = none) (w0 : W 0 m σ H) :
    codeAny (model X.prog X.w) X.A (.compLoop (.ListComp elt [⟨tg, iter, ifs, 0⟩] scope pos) 0 (.ref it) (.ref D) X.env) R s := by
  refine compLoop_gen (fun n s' => ∃ i σ' H', Inv X [] σ' H' s' ∧ tn i s'.heap ∧ (∀ b ∈ fp, H' b = none) ∧ W i n σ' H') ?_ m ⟨0, σ, H, I, st, hf, w0⟩
  rintro n s3 ⟨i, σ3, H3, I3, st3, fr3, w3⟩
  rcases hW i n σ3 H3 w3 with ⟨stop, qn⟩ | ⟨go, step⟩
  · refine thn (T.done X rfl rfl rfl hc i [] s3 σ3 H3 _ I3 (stat _ fr3) st3 stop) fun r s4 zq9 => ?_
    obtain ⟨hr, I4⟩ := zq9
    subst hr
    exact fin σ3 H3 s4 I4 qn
  · refine thn (T.item X rfl rfl rfl hc i [] s3 σ3 H3 _ I3 (stat _ fr3) st3 go) fun r s4 zq9 => ?_
    obtain ⟨u, hr, h4⟩ := zq9
    subst hr
    refine thn h4 fun _ s5 zq9 => ?_
    obtain ⟨x, H5, I5, r5, y5, st5, fr5⟩ := zq9
    have I5' := I5.pinned (stat _ fr5) (T.obj _ _ st5)
    have hx' : ∀ {α : Type} {t : Sem α} {Q : α → Shared → Prop} {s : Shared}, wpAny (model X.prog X.w) X.A t Q X.xe s → wpAny (model X.prog X.w) X.A t Q (fun _ _ => False) s := fun h => by rw [← hx]; exact h
    have back : ∀ {σ7 : St} {H7 : Hp} {s7 : Shared} {m' : Nat}, Inv X ([] ++ pinsAt fp s5.heap) σ7 H7 s7 → m' < n → W (i + 1) m' σ7 H7 → ∃ m, m < n ∧ ∃ i σ' H', Inv X [] σ' H' s7 ∧ tn i s7.heap ∧ (∀ b ∈ fp, H' b = none) ∧ W i m σ' H' := fun {σ7 H7 s7 m'} I7 hm w7 => by
      refine ⟨m', hm, i + 1, σ7, H7, I7.unpinned, T.keep _ _ _ st5 fun b hb o e => (I7.pin (b, o) (List.mem_append_right _ (List.mem_append_right _ (mem_pinsAt hb e)))).1, fun b hb => ?_, w7⟩
      obtain ⟨o, e, d⟩ := T.obj _ _ st5 b hb
      exact (I7.pin (b, o) (List.mem_append_right _ (List.mem_append_right _ (mem_pinsAt hb e)))).2.1
    refine hx' (thn (hg _ s5 σ3 H5 x u _ I5' r5 (step x H5 y5)) fun _ s6 zq9 => ?_)
    obtain ⟨σ6, H6, I6, q6⟩ := zq9
    refine hx' (thn (ht _ s6 σ6 H6 _ I6 q6) fun ok s7 zq9 => ?_)
    obtain ⟨H7, I7, q7⟩ := zq9
    cases ok with
    | false =>
      rw [if_neg Bool.false_ne_true] at q7 ⊢
      obtain ⟨m', hm, w7⟩ := q7
      exact back I7 hm w7
    | true =>
      rw [if_pos rfl] at q7 ⊢
      refine hx' (thn (he _ s7 σ6 H7 _ I7 q7) fun y s8 zq9 => ?_)
      obtain ⟨yv, H8, I8, r8, ys, hD, hl, m', hm, w8⟩ := zq9
      refine hx' (thn (mt_append _ s8 σ6 H8 (.ref D) [yv] (.ref D) [y] (fun v H9 => v = .non ∧ H9 = upd H8 D (.lst (ys ++ [yv]))) I8 rfl (.cons r8 .nil) ⟨D, ys, yv, rfl, rfl, hD, hl, rfl, rfl⟩) fun _ s9 zq9 => ?_)
      obtain ⟨v9, H9, I9, r9, e9, eH⟩ := zq9
      subst eH
      exact back I9 hm w8

private theorem Un.to {fs ex : List Addr} {H H' : Hp} {h h1 h2 : Heap} {C : Addr} (u : Un fs ex H H' h h1) (hC : h.get? C = none) (hs : Heap.SameBut C h1 h2) : Un fs ex H H' h h2 := by
  have ne : ∀ b o, h.get? b = some o → b ≠ C := fun b o e z => by subst z; rw [hC] at e; cases e
  exact ⟨fun b o e n hb hx => (hs.2 b (ne b o e)).trans (u.keep b o e n hb hx), fun b o e n hb hx => let ⟨sl, q⟩ := u.slot b o e n hb hx; ⟨sl, (hs.2 b (ne b o e)).trans q⟩, u.free, fun b o e hx => let ⟨o', q⟩ := u.there b o e hx; ⟨o', (hs.2 b (ne b o e)).trans q⟩, u.tups, u.frzs, u.tbls⟩

private theorem comp_end {X : Cx} {pins : List (Addr × Obj)} {σ σ' : St} {H H1 H' : Hp} {s s1 s' : Shared} {C : Addr} {h' : Heap} {cenv : Env} {N' : List Str} {fp : List Addr} (I : Inv X pins σ H s) (u : Un (frs X.stack) fp H H1 s.heap s1.heap) (hos : s1.os = s.os) (hf : ∀ b ∈ fp, FpOk X pins H b)
    (I' : Inv (compCx X N' cenv s1 H1 fp) [] σ' H' s') (hL : cenv.locals = C) (hC : s.heap.get? C = none) (hs : Heap.SameBut C s'.heap h') : Inv X pins σ H' { s' with heap := h' } := by
  have un : Un (frs X.stack) fp H H' s.heap h' := Un.to (u.trans I'.base) hC hs
  have hC' : H' C = none := by have := I'.free; rw [← hL]; exact this
  have hok : HOk X.prog X.w H' h' := fun b o e => by
    refine (I'.hok b o e).stay (fun c v hc q => (hs.2 c ?_).trans q) (fun _ q => q) fun _ _ q => q
    rintro rfl
    rcases hc with z | z
    · rw [← z, hC'] at e; cases e
    · rw [hC'] at z; cases z
  obtain ⟨hh, gg, dd, tt, oo⟩ := s'
  have eo : oo = s.os := I'.os.trans hos
  subst eo
  have fin := I.call (h' := h') (g' := gg) (d' := dd) (t' := tt) (ch := fp) un hok I'.bare fun b hb => ⟨(hf b hb).2.2.2.1, (hf b hb).2.1, (hf b hb).2.2.2.2.1, (hf b hb).2.2.2.2.2⟩
  exact fin

section
variable {X : Cx} {elt tg iter : Expr} {ifs : List Expr} {scope : Scope} {pos : Pos} {cl : List (Str × Addr)} {N' : List Str} {fr : List (Option Nat)} {wi : TI} {g : TG} {tt : TT} {te : TE}
private theorem lc_block (hc : X.calm = true) (O : CompOk X scope cl N' fr)
    (hg : ∀ C s₀ H₀ ex, PG (compCx X N' (compEnvC scope cl C X.env) s₀ H₀ ex) tg g) (ht : ∀ C s₀ H₀ ex, PTl (compCx X N' (compEnvC scope cl C X.env) s₀ H₀ ex) ifs tt) (he : ∀ C s₀ H₀ ex, PE (compCx X N' (compEnvC scope cl C X.env) s₀ H₀ ex) elt te)
    {pins : List (Addr × Obj)} {σ : St} {H2 : Hp} {s2 : Shared} {it : Addr} {fp : List Addr} {tn : Nat → Heap → Prop} {J : It} {Q : VK} {RR : Value → Addr → Result → Shared → Prop} {E : Value → Shared → Prop} (I2 : Inv X pins σ H2 s2) (T : Turn X.prog X.w X.K tg J fp it tn) (st2 : tn 0 s2.heap) (f2 : ∀ b ∈ fp, FpOk X pins H2 b)
    (q2 : ∀ D, H2 D = none → ∃ W : Nat → Nat → St → Hp → Prop, (∃ m, W 0 m (inner fr σ) (upd H2 D (.lst []))) ∧ LcW J g tt te D (Q (.ref D)) W)
    (hRR : ∀ D C H' s', s2.heap.objs.size ≤ C → H' C = none → (∃ m, s'.heap.Ns C m) → Q (.ref D) H' → (∀ h', Heap.SameBut C s'.heap h' → Inv X pins σ H' { s' with heap := h' }) → RR (.ref D) C (.ok .next) s') :
    wpAny (model X.prog X.w) X.A (newList []) (fun acc s₃ => wpAny (model X.prog X.w) X.A (newFunctionEnv scope X.env.globals cl [] X.env.qual none .none (some X.env)) (fun cenv s₄ =>
      codeAny (model X.prog X.w) X.A (.compStart (.ListComp elt [⟨tg, iter, ifs, 0⟩] scope pos) 0 (.ref it) acc { cenv with scope := relabel scope X.env }) (RR acc cenv.locals) s₄) E s₃) E s2 := by
  refine wpAny_newObj_type ?_ (by show 0 ≤ sizeLine; decide)
  have hD : H2 s2.heap.objs.size = none := I2.hok.fresh (Nat.le_refl _)
  obtain ⟨W, ⟨m0, w0⟩, turn⟩ := q2 _ hD
  have I3 : Inv X pins σ (upd H2 s2.heap.objs.size (.lst [])) { s2 with heap := s2.heap.push { cls := .type "list", data := .seq ([] : List Value).toArray } } :=
    I2.laid (t' := s2.toks) (fun b u e => Heap.get?_push_of_some _ e) (Nat.le_refl _) ⟨Nat.zero_le _, [], 0, .nil, Heap.get?_push_size _ rfl⟩
  have u23 : Un (frs X.stack) fp H2 (upd H2 s2.heap.objs.size (.lst [])) s2.heap (s2.heap.push { cls := .type "list", data := .seq ([] : List Value).toArray }) := Un.laid (fun b u e => Heap.get?_push_of_some _ e) (Nat.le_refl _) hD
  have flt : ∀ b ∈ fp, b < s2.heap.objs.size := fun b hb => let ⟨o, e, _⟩ := T.obj _ _ st2 b hb; Heap.lt_size e
  have f3 : ∀ b ∈ fp, FpOk X pins (upd H2 s2.heap.objs.size (.lst [])) b := fun b hb => ⟨by rw [upd_ne (Nat.ne_of_lt (flt b hb))]; exact (f2 b hb).1, (f2 b hb).2⟩
  have k23 : ∀ b u, s2.heap.get? b = some u → (s2.heap.push { cls := .type "list", data := .seq ([] : List Value).toArray }).get? b = some u := fun b u e => Heap.get?_push_of_some _ e
  have sz : (s2.heap.push { cls := .type "list", data := .seq ([] : List Value).toArray }).objs.size = s2.heap.objs.size + 1 := Heap.size_push _ _
  have hle : s2.heap.objs.size ≤ (s2.heap.push { cls := .type "list", data := .seq ([] : List Value).toArray }).objs.size := by rw [sz]; exact Nat.le_succ _
  have flt3 : ∀ b ∈ fp, b < (s2.heap.push { cls := .type "list", data := .seq ([] : List Value).toArray }).objs.size := fun b hb => by rw [sz]; exact Nat.lt_succ_of_lt (flt b hb)
  refine wpAny_newFunctionEnv O.noc (by intro y hy; simp at hy) (fun h₁ hns₁ hsb₁ => ?_) O.kind
  have I4 := comp_start I3 O f3 flt3 hns₁ hsb₁
  have k34 : ∀ b u, s2.heap.get? b = some u → h₁.get? b = some u := fun b u e => (hsb₁.2 b (Nat.ne_of_lt (Heap.lt_size (k23 _ _ e)))).trans (Heap.get?_push_of_some _ (k23 _ _ e))
  have st4 : tn 0 h₁ := T.keep _ _ _ st2 fun b hb o e => k34 _ _ e
  have CO := comp_ok I3 O f3 flt3
  have loop := lc_loop (X := compCx X N' (compEnvC scope cl (s2.heap.push { cls := .type "list", data := .seq ([] : List Value).toArray }).objs.size X.env) { s2 with heap := s2.heap.push { cls := .type "list", data := .seq ([] : List Value).toArray } } (upd H2 s2.heap.objs.size (.lst [])) fp)
    (elt := elt) (iter := iter) (ifs := ifs) (scope := scope) (pos := pos) (R := RR (.ref s2.heap.objs.size) (s2.heap.push { cls := .type "list", data := .seq ([] : List Value).toArray }).objs.size)
    T hc rfl (hg _ _ _ _) (ht _ _ _ _) (he _ _ _ _) (fun H' hn b hb => ⟨hn b hb, Nat.ne_of_lt (flt3 b hb), fun z => CO.exfs b hb z, .inl hb, fun x c e => (f3 b hb).2.2.2.2.1 x c (O.sub x c e), fun p hp => absurd (show p ∈ ([] : List (Addr × Obj)) from hp) (by simp)⟩)
    turn (fun σ' H' s' I' q => hRR _ _ H' s' hle I'.free (let ⟨m, hn, _⟩ := I'.loc; ⟨m, hn⟩) q fun h' hs =>
      comp_end (N' := N') (cenv := compEnvC scope cl (s2.heap.push { cls := .type "list", data := .seq ([] : List Value).toArray }).objs.size X.env) (s1 := { s2 with heap := s2.heap.push { cls := .type "list", data := .seq ([] : List Value).toArray } }) (H1 := upd H2 s2.heap.objs.size (.lst [])) (C := (s2.heap.push { cls := .type "list", data := .seq ([] : List Value).toArray }).objs.size) I2 u23 rfl f2 I' rfl (Heap.get?_none_of_le hle) hs) I4 st4 (fun b hb => (f3 b hb).1) w0
  exact codeAny_compStart_list loop (T.self X.A 0 _ _ _ st4 loop)

private theorem pe_lc (hc : X.calm = true) (O : CompOk X scope cl N' fr) (hi : PI X tg iter wi)
    (hg : ∀ C s₀ H₀ ex, PG (compCx X N' (compEnvC scope cl C X.env) s₀ H₀ ex) tg g) (ht : ∀ C s₀ H₀ ex, PTl (compCx X N' (compEnvC scope cl C X.env) s₀ H₀ ex) ifs tt) (he : ∀ C s₀ H₀ ex, PE (compCx X N' (compEnvC scope cl C X.env) s₀ H₀ ex) elt te)
    (hs : autoParam (∀ x, foldedSetIterable iter X.env x = pure x) _root_.zt3) : PE X (.ListComp elt [⟨tg, iter, ifs, 0⟩] scope pos) (tLC fr wi g tt te) := by
  intro pins s σ H Q I h
  rw [eval_ListComp]
  refine wpAny_comprehension_free (use := none) rfl hs O.clos O.kind O.names (thn (hi pins s σ H _ I h) fun v s1 h1 => thn h1 fun itv s2 h2 => ?_)
  obtain ⟨it, fp, tn, J, H2, e, I2, T, st2, f2, q2⟩ := h2
  subst e
  refine lc_block hc O hg ht he I2 T st2 f2 q2 fun D C H' s' hC hfr ⟨m, hn⟩ q inv => ?_
  exact ⟨m, hn, fun h' hs' => ⟨.ref D, H', inv h' hs', rfl, q⟩⟩
end

noncomputable def compG (h : D → List Sl → Option (List Sl)) (ts : List Sl → Option Bool) (f : List Sl → Option Sl) : List D → List Sl → Option (List D)
  | [], _ => some []
  | d :: ds, ρ => match h d ρ with
    | none => none
    | some ρ1 => match ts ρ1 with
      | some true => match f ρ1 with
        | some r => (compG h ts f ds ρ1).map (r.toD :: ·)
        | none => none
      | some false => compG h ts f ds ρ1
      | none => none
noncomputable def innerS (fr : List (Option Nat)) (ρ : List Sl) : List Sl := fr.map fun o => match o with
  | none => .un
  | some j => ((ρ[j]?).getD .un).er
noncomputable def lcF (fi : List Sl → Option (List D)) (fr : List (Option Nat)) (h : D → List Sl → Option (List Sl)) (ts : List Sl → Option Bool) (f : List Sl → Option Sl) (ρ : List Sl) : Option Sl :=
  (fi ρ).bind fun items => if items.length < 10000000 then (compG h ts f items (innerS fr ρ)).map .ac else none
private theorem Rep.other {K : PySem.W.Frag} {F H : Hp} {σ : St} {ρ : List Sl} {p : Addr} (R : Rep K F H σ ρ) (fp : F p = none) (nh : ¬ Held σ ρ p) (o : HO) : Rep K F (upd H p o) σ ρ := by
  refine ⟨fun b u e => by rw [upd_ne (ne_of_none e fp)]; exact R.sub _ _ e, fun j r e n => ?_, R.apart, R.len⟩
  obtain ⟨w, w1, w2⟩ := R.at_ j r e n
  refine ⟨w, w1, ?_⟩
  cases r with
  | un => exact w2
  | sh d => exact w2
  | ac ds =>
    obtain ⟨p', vs, rfl, z1, z2, z3⟩ := w2
    refine ⟨p', vs, rfl, ?_, z2, z3⟩
    rw [upd_ne]; exact z1
    rintro rfl; exact nh ⟨j, _, e, rfl, w1⟩
  | ad ks ds =>
    obtain ⟨p', vs, rfl, z1, z2, z3⟩ := w2
    refine ⟨p', vs, rfl, ?_, z2, z3⟩
    rw [upd_ne]; exact z1
    rintro rfl; exact nh ⟨j, _, e, rfl, w1⟩
private theorem innerS_own {fr : List (Option Nat)} {ρ : List Sl} {i : Nat} {r : Sl} (h : (innerS fr ρ)[i]? = some r) : r.own = false := by
  unfold innerS at h
  rw [List.getElem?_map] at h
  obtain ⟨o, _, rfl⟩ := Option.map_eq_some_iff.mp h
  cases o with
  | none => rfl
  | some j => exact Sl.er_own _
private theorem rep_inner {K : PySem.W.Frag} {F H : Hp} {σ : St} {ρ : List Sl} (R : Rep K F H σ ρ) (fr : List (Option Nat)) : Rep K F H (inner fr σ) (innerS fr ρ) := by
  refine ⟨R.sub, fun i r e n => ?_, fun i j r r' p e _ o => ?_, by unfold inner innerS; rw [List.length_map, List.length_map]⟩
  · unfold innerS at e
    rw [List.getElem?_map] at e
    obtain ⟨o, h1, rfl⟩ := Option.map_eq_some_iff.mp e
    cases o with
    | none => exact absurd rfl n
    | some j =>
      simp only at n ⊢
      cases hj : ρ[j]? with
      | none => rw [hj] at n; exact absurd rfl n
      | some q =>
        rw [hj] at n
        simp only [Option.getD_some] at n ⊢
        have z := Sl.er_of n
        rw [z] at n ⊢
        obtain ⟨v, v1, v2⟩ := R.at_ j q hj n
        refine ⟨v, ?_, v2⟩
        unfold inner
        rw [List.getElem?_map, h1]
        simp [v1]
  · rw [innerS_own e] at o; cases o
inductive LcI (K : PySem.W.Frag) (h : D → List Sl → Option (List Sl)) (ts : List Sl → Option Bool) (f : List Sl → Option Sl) (items out : List D) (F1 H1 : Hp) (Da : Addr) : Nat → Nat → St → Hp → Prop
  | mk {i : Nat} {σ' : St} {H2 F' : Hp} {ρ' : List Sl} {ys : List V} {ds rest : List D} (hi : i ≤ items.length) (g2 : Grow F1 H1 F' H2) (fD : F' Da = none) (hD : H2 Da = some (.lst ys)) (hyl : ys.length ≤ i) (den : DenL K F' ds ys) (R : Rep K F' H2 σ' ρ') (nh : ∀ p, ¬ Held σ' ρ' p)
      (e3 : compG h ts f (items.drop i) ρ' = some rest) (eo : out = ds ++ rest) : LcI K h ts f items out F1 H1 Da i (items.length - i) σ' H2
private theorem lc_imp {K : PySem.W.Frag} {fi : List Sl → Option (List D)} {fr : List (Option Nat)} {h : D → List Sl → Option (List Sl)} {ts : List Sl → Option Bool} {f : List Sl → Option Sl} (σ : St) (H : Hp) (Q : VK) (q : tX K (lcF fi fr h ts f) σ H Q) :
    tLC fr (iX K fi) (tG K h) (tXt K ts) (tX K f) σ H Q := by
  obtain ⟨F, ρ, r, R, e, k⟩ := q
  unfold lcF at e
  cases e1 : fi ρ with
  | none => rw [e1] at e; cases e
  | some items =>
    rw [e1] at e
    simp only [Option.bind_some] at e
    split at e
    · rename_i hlim
      obtain ⟨out, e2, rfl⟩ := Option.map_eq_some_iff.mp e
      refine ⟨F, ρ, items, R, e1, fun J F1 H1 g1 it D hD => ?_⟩
      have fD : F1 D = none := g1.sub.free hD
      refine ⟨LcI K h ts f items out F1 H1 D, ⟨_, LcI.mk (F' := F1) (ρ' := innerS fr ρ) (ys := []) (ds := []) (rest := out) (Nat.zero_le _) (Grow.own g1.sub hD _) fD upd_same (Nat.le_refl _) .nil (((rep_inner R fr).grow g1).other fD (not_held fun i r e => innerS_own e) _) (fun p => not_held fun i r e => innerS_own e) e2 rfl⟩, ?_⟩
      rintro i m σ' H2 (@⟨_, _, F', ρ', ys, ds, rest, hi, g2, fD', hD', hyl, den, R', nh, e3, eo⟩)
      obtain ⟨go, stop⟩ := it i F' H2 g2.ff g2.sub
      by_cases hlt : i < items.length
      · have hd : items[i]? = some items[i] := List.getElem?_eq_getElem hlt
        rw [List.drop_eq_getElem_cons hlt] at e3
        obtain ⟨c1, c2⟩ := go _ hd
        unfold compG at e3
        split at e3
        · cases e3
        · rename_i ρ1 e4
          refine .inr ⟨c1, fun x H3 y => ?_⟩
          obtain ⟨F2, g3, denx⟩ := c2 x H3 y
          have fD2 : F2 D = none := by
            cases z : F2 D with
            | none => rfl
            | some o => rw [g3.new D fD' (by rw [z]; simp)] at hD'; cases hD'
          refine ⟨F2, H3, F2, _, ρ', ρ1, ⟨R'.grow g3, .refl g3.sub, fun p hp => absurd hp (nh p)⟩, denx, e4, fun σ4 R4 => ?_⟩
          have nh4 : ∀ p, ¬ Held σ4 ρ1 p := fun p hp => by
            obtain ⟨_, o, ho⟩ := R4.rep.heldFree hp
            rw [R4.fresh p hp] at ho; cases ho
          have hD3 : H3 D = some (.lst ys) := g3.same _ _ hD'
          have keepD : ∀ {F5 H5 : Hp}, Grow F2 H3 F5 H5 → F5 D = none := fun {F5 H5} g5 => by
            cases z : F5 D with
            | none => rfl
            | some o => rw [g5.new D fD2 (by rw [z]; simp)] at hD3; cases hD3
          split at e3
          · rename_i e5
            split at e3
            · rename_i r' e6
              obtain ⟨rest', e7, e8⟩ := Option.map_eq_some_iff.mp e3
              refine ⟨F2, ρ1, true, R4.rep, e5, fun F5 H5 g5 => ?_⟩
              refine iteT ?_
              refine ⟨F5, ρ1, r', R4.rep.grow g5, e6, fun y F6 H6 g6 q6 => ?_⟩
              obtain ⟨F7, g7, s7, den7⟩ := q6.den g6
              have g57 : Grow F2 H3 F7 H6 := g5.trans g7
              have fD7 := keepD g57
              have G : Grow F1 H1 F7 H6 := g2.trans (g3.trans g57)
              refine ⟨ys, g57.same _ _ hD3, ?_, items.length - (i + 1), by omega, LcI.mk (F' := F7) (ρ' := ρ1) (ys := ys ++ [y]) (ds := ds ++ [r'.toD]) (rest := rest') hlt ?_ fD7 upd_same (by rw [List.length_append, List.length_singleton]; omega) ((den.mono (g3.trans g57).ff).append (.cons den7 .nil)) ((R4.rep.grow g57).other fD7 (nh4 D) _) nh4 e7 (by rw [eo, ← e8]; simp)⟩
              · have : ys.length < 10000000 := by omega
                exact Nat.lt_of_lt_of_le this (by rw [sizeLine_eq]; decide)
              · exact ⟨fun b o e => by rw [upd_ne (ne_of_none e hD)]; exact G.same _ _ e, G.ff, fun b o e => by rw [upd_ne (ne_of_none e fD7)]; exact G.sub _ _ e, G.new⟩
            · cases e3
          · rename_i e5
            refine ⟨F2, ρ1, false, R4.rep, e5, fun F5 H5 g5 => ?_⟩
            refine iteF ?_
            exact ⟨items.length - (i + 1), by omega, LcI.mk (F' := F5) (ρ' := ρ1) (ys := ys) (ds := ds) (rest := rest) hlt (g2.trans (g3.trans g5)) (keepD g5) (g5.same _ _ hD3) (by omega) (den.mono (g3.trans g5).ff) (R4.rep.grow g5) nh4 e3 eo⟩
          · cases e3
      · have z : i = items.length := by omega
        subst z
        rw [List.drop_length] at e3
        cases e3
        refine .inl ⟨stop (Nat.le_refl _), k _ F' H2 (g1.trans g2) ⟨⟨D, ys, rfl, hD', fD', by rw [eo, List.append_nil]; exact den⟩, fun _ p ep => ?_⟩⟩
        cases ep
        exact g1.same.free hD
    · cases e
section
variable {X : Cx} {elt tg iter c : Expr} {ifs : List Expr} {scope : Scope} {pos : Pos} {cl : List (Str × Addr)} {N' : List Str} {fr : List (Option Nat)} {fi : List Sl → Option (List D)} {h : D → List Sl → Option (List Sl)} {ts : List Sl → Option Bool} {f : List Sl → Option Sl}
noncomputable abbrev PXl (X : Cx) (ifs : List Expr) (ts : List Sl → Option Bool) : Prop := PTl X ifs (tXt X.K ts)
noncomputable def yesT (_ : List Sl) : Option Bool := some true
private theorem pxl_nil : PXl X [] yesT := fun pins s σ H Q I zq9 => by
  obtain ⟨F, ρ, b, R, e, k⟩ := zq9
  cases e
  exact ptl_nil pins s σ H Q I (k F H (.refl R.sub))
private theorem px_lc (hc : X.calm = true) (O : CompOk X scope cl N' fr) (hi : PIX X tg iter fi) (hg : ∀ C s₀ H₀ ex, PGX (compCx X N' (compEnvC scope cl C X.env) s₀ H₀ ex) tg h) (ht : ∀ C s₀ H₀ ex, PXl (compCx X N' (compEnvC scope cl C X.env) s₀ H₀ ex) ifs ts)
    (he : ∀ C s₀ H₀ ex, PX (compCx X N' (compEnvC scope cl C X.env) s₀ H₀ ex) elt f) (hs : autoParam (∀ x, foldedSetIterable iter X.env x = pure x) _root_.zt3) : PX X (.ListComp elt [⟨tg, iter, ifs, 0⟩] scope pos) (lcF fi fr h ts f) :=
  PE.imp (pe_lc hc O hi hg ht he hs) lc_imp
end
end L3
namespace L3
open PySem PySem.Spec L2
open PyProof.Rows hiding St

private theorem Inv.turnedLay {X : Cx} {pins : List (Addr × Obj)} {σ : L2.St} {H : Hp} {s : Shared} {h' : Heap} {t' : Nat} {T : Addr} {o : HO} {fp : List Addr} (I : L2.Inv X pins σ H s) (hf : ∀ b ∈ fp, FpOk X pins H b)
    (k : ∀ b ob, b ∉ fp → s.heap.get? b = some ob → h'.get? b = some ob) (hT : s.heap.objs.size ≤ T) (new : ObjOk X.prog X.w (upd H T o) h' T o) : L2.Inv X pins σ (upd H T o) { s with heap := h', toks := t' } := by
  have hn : H T = none := I.hok.fresh hT
  have nf : ∀ b u, H b = some u → b ∉ fp := fun b u e z => by rw [(hf b z).1] at e; cases e
  refine I.step (g' := s.gens) (d' := s.drawn) (ch := fp) (fun b hb => ⟨(hf b hb).2.2.2.1, (hf b hb).2.1, (hf b hb).2.2.2.2.1, (hf b hb).2.2.2.2.2⟩) (fun b ob _ _ hc e _ => k b ob hc e) (fun b ob _ _ hc e _ => ⟨ob.slots, k b ob hc e⟩)
    (fun b ob _ e n => by rw [upd_ne (Nat.ne_of_lt (Nat.lt_of_lt_of_le (Heap.lt_size e) hT))]; exact n) (fun b ob hc e => ⟨ob, k b ob hc e⟩) (fun b xs e => by rw [upd_ne (ne_of_none e hn)]; exact e) (fun b u v e => by rw [upd_ne (ne_of_none e hn)]; exact e)
    (fun b ps e => ⟨#[], by rw [upd_ne (ne_of_none e hn), e]; simp⟩) (fun m hm => ?_) (fun b u e => ?_) I.bare
  · obtain ⟨ob, es, ep, ho, r⟩ := hm
    exact ⟨ob, es, ep, k _ ob (fun z => (hf _ z).2.1 rfl) ho, r⟩
  · by_cases z : b = T
    · subst z; rw [upd_same] at e; cases e; exact new
    · rw [upd_ne z] at e
      refine (I.hok b u e).stay (fun c v hc q => k c v ?_ q) (fun c q => by rw [upd_ne (ne_of_none q hn)]; exact q) fun c xs q => by rw [upd_ne (ne_of_none q hn)]; exact q
      rcases hc with y | y
      · rw [y]; exact nf b u e
      · exact nf c _ y
private theorem Inv.turnedL {X : Cx} {pins : List (Addr × Obj)} {σ : L2.St} {H : Hp} {s : Shared} {h' : Heap} {t' : Nat} {fp : List Addr} (I : L2.Inv X pins σ H s) (hf : ∀ b ∈ fp, FpOk X pins H b)
    (k : ∀ b ob, b ∉ fp → s.heap.get? b = some ob → h'.get? b = some ob) : L2.Inv X pins σ H { s with heap := h', toks := t' } := by
  have nf : ∀ b u, H b = some u → b ∉ fp := fun b u e z => by rw [(hf b z).1] at e; cases e
  refine I.step (g' := s.gens) (d' := s.drawn) (ch := fp) (fun b hb => ⟨(hf b hb).2.2.2.1, (hf b hb).2.1, (hf b hb).2.2.2.2.1, (hf b hb).2.2.2.2.2⟩) (fun b ob _ _ hc e _ => k b ob hc e) (fun b ob _ _ hc e _ => ⟨ob.slots, k b ob hc e⟩)
    (fun _ _ _ _ n => n) (fun b ob hc e => ⟨ob, k b ob hc e⟩) (fun _ _ e => e) (fun _ _ _ e => e) (fun b ps e => ⟨#[], by rw [e]; simp⟩) (fun m hm => ?_) (fun b u e => ?_) I.bare
  · obtain ⟨ob, es, ep, ho, r⟩ := hm
    exact ⟨ob, es, ep, k _ ob (fun z => (hf _ z).2.1 rfl) ho, r⟩
  · refine (I.hok b u e).stay (fun c v hc q => k c v ?_ q) (fun _ q => q) fun _ _ q => q
    rcases hc with y | y
    · rw [y]; exact nf b u e
    · exact nf c _ y

noncomputable def Ite (K : PySem.W.Frag) (a : Addr) : It :=
  ⟨fun i H => ∃ xs x, SqL K H a xs ∧ xs[i]? = some x, fun i H x H' => ∃ T y, (∀ xs, SqL K H a xs → xs[i]? = some y) ∧ H T = none ∧ x = .ref T ∧ H' = upd H T (.tup [.int i, y]), fun i H => ∃ xs, SqL K H a xs ∧ xs.length ≤ i⟩
private theorem turn_enum {P : Program} {w : World} {K : PySem.W.Frag} {elts : List Expr} {x1} {pos : Pos} (a e it : Addr) (hei : e ≠ it) : Turn P w K (.Tuple elts x1 pos) (Ite K a) [e, it] e (fun i h => (∃ old, IsEnum h e it i old) ∧ h.IsListIter it a i) where
  mem := by simp
  obj := fun i h ⟨⟨old, he⟩, hit⟩ b hb => by
    rcases List.mem_cons.mp hb with z | z
    · subst z; exact ⟨_, he, fun v z => by cases z⟩
    · have z : b = it := by simpa using z
      subst z
      obtain ⟨o, e, c, d⟩ := hit
      exact ⟨o, e, fun v z => by rw [d] at z; cases z⟩
  keep := fun i h h' ⟨⟨old, he⟩, hit⟩ k => ⟨⟨old, k e (by simp) _ he⟩, hit.at fun o q => k it (by simp) o q⟩
  item := by
    intro X hP hw hK hc i pins s σ H E I hf st hg
    subst hP hw hK
    obtain ⟨⟨old, he⟩, hit⟩ := st
    obtain ⟨xs, x, hq, hx⟩ := hg
    obtain ⟨its, rv, p, hz⟩ := I.list hq
    obtain ⟨u, hu, ru⟩ := rv.get hx
    refine wpAny_pyNext_enum_item he hit p.isList (x := u) (by simpa using hu) hei fun h' ho hit' hT hsz hk => ⟨_, rfl, ?_⟩
    refine wpAny_letOwnedTupleGo_enum ho fun h2 he2 hs2 => ?_
    have ne : s.heap.objs.size ≠ e := Nat.ne_of_gt (Heap.lt_size he)
    have nit : it ≠ e := Ne.symm hei
    have kp : ∀ b ob, b ∉ [e, it] → s.heap.get? b = some ob → h2.get? b = some ob := fun b ob hb q => by
      have b1 : b ≠ e := fun z => hb (by simp [z])
      have b2 : b ≠ it := fun z => hb (by simp [z])
      exact (hs2.2 b b1).trans (hk b ob b1 b2 q)
    have hit2 : h2.IsListIter it a (i + 1) := hit'.at fun o q => (hs2.2 it nit).trans q
    have hT2 : h2.get? s.heap.objs.size = some { cls := .type "tuple", data := .seq #[.int i s.toks, u] } := (hs2.2 _ ne).trans hT
    have hTn := I.hok.fresh (Nat.le_refl s.heap.objs.size)
    have I9 : L2.Inv X pins σ (upd H s.heap.objs.size (.tup [.int i, x])) { s with heap := h2, toks := s.toks + 1 } :=
      Inv.turnedLay (t' := s.toks + 1) I hf kp (Nat.le_refl _) ⟨by show 2 ≤ sizeLine; decide, [.int i s.toks, u], .cons ⟨_, rfl⟩ (.cons ru .nil), ⟨_, hT2, rfl, _, rfl⟩⟩
    refine ⟨.ref s.heap.objs.size, upd H s.heap.objs.size (.tup [.int i, x]), I9, rfl, ⟨s.heap.objs.size, x, fun ys hy => by rw [I.list_inj hy hq]; exact hx, hTn, rfl, rfl⟩, ⟨⟨u, by simpa using he2⟩, hit2⟩, fun b hb => ?_⟩
    · rw [upd_ne]
      · exact (hf b hb).1
      · intro z
        rcases List.mem_cons.mp hb with y | y
        · exact ne (z.symm.trans y)
        · have y : b = it := by simpa using y
          obtain ⟨o, q, _⟩ := hit
          exact absurd (Heap.lt_size q) (by rw [← y, z]; exact Nat.lt_irrefl _)
  done := by
    intro X hP hw hK hc i pins s σ H E I hf st hg
    subst hP hw hK
    obtain ⟨⟨old, he⟩, hit⟩ := st
    obtain ⟨xs, hq, hx⟩ := hg
    obtain ⟨its, rv, p, hz⟩ := I.list hq
    have hl := rv.length
    refine wpAny_pyNext_enum_end (I.ok.hd hc) he hit p.isList (by simp; omega) fun h' eb => ⟨rfl, Inv.turnedL (t' := s.toks) I hf fun b ob hb q => eb b ob (fun z => hb (by simp [z])) q⟩
  self := fun _ _ _ _ _ ⟨⟨old, he⟩, _⟩ h => wpAny_pyIter_enum he h

private theorem itok_enum {K : PySem.W.Frag} {F : Hp} {a : Addr} {vs : List V} {ds : List D} (h1 : SqL K F a vs) (h2 : DenL K F ds vs) : ItOk K F (Ite K a) (ds.mapIdx fun i d => .t [.i (i : Nat), d]) := fun i F' H s1 s2 => by
  have q : SqL K H a vs := (s1.trans s2).seq h1
  refine ⟨fun d e => ?_, fun hl => ⟨vs, q, by rw [List.length_mapIdx] at hl; rw [← h2.length]; exact hl⟩⟩
  rw [List.getElem?_mapIdx] at e
  obtain ⟨d', e', rfl⟩ := Option.map_eq_some_iff.mp e
  obtain ⟨v, e1, den⟩ := h2.get e'
  refine ⟨⟨vs, v, q, e1⟩, fun x H' zq9 => ?_⟩
  obtain ⟨T, y, hy, hT, hx, eH⟩ := zq9
  subst hx eH
  have := hy vs q
  rw [e1] at this; cases this
  have g := Grow.lay s2 hT (.tup [.int i, v])
  exact ⟨_, g, T, _, rfl, SqT.of upd_same, .cons rfl (.cons (den.mono (s1.trans g.ff)) .nil)⟩
section
variable {X : Cx} {pos q : Pos} {elts : List Expr} {x1 : _} {tpos : Pos}
noncomputable def enumF (g : List Sl → Option (List D)) (ρ : List Sl) : Option (List D) := match g ρ with
  | some [.l ds] => some (ds.mapIdx fun i d => .t [.i (i : Nat), d])
  | _ => none
private theorem pix_enum {a : Expr} {g : List Sl → Option (List D)} (hg : Gl X "enumerate") (hm : X.mg "enumerate" = none) (hb : bootBuiltins "enumerate" = some (.type "enumerate")) (ha : PXs X [a] g) (hs : autoParam (starEach [a] X.env = [(false, eval a X.env)]) _root_.zt2) :
    PIX X (.Tuple elts x1 tpos) (.Call (.Name "enumerate" q) [a] [] pos) (enumF g) := by
  intro pins s σ H R I zq9
  obtain ⟨F, ρ, items, R', e, k⟩ := zq9
  unfold enumF at e
  split at e
  · rename_i ds e1
    cases e
    refine Call_ (ld_blt I hg hm hb (PyProof.Rows.callWith_type1 (thn (ha pos pins s σ H (fun vs H1 => ∃ F1, Grow F H F1 H1 ∧ DenL X.K F1 [.l ds] vs) I ⟨F, ρ, _, R', e1, fun vs F1 H1 g1 q1 => ⟨F1, g1, q1⟩⟩) fun us s1 zq9 => ?_) hs rfl))
    obtain ⟨vs, H1, I1, r1, F1, g1, q1⟩ := zq9
    obtain ⟨v, rfl, b, xs, rfl, z1, z2⟩ := den1 q1
    cases r1 with
    | cons r rr =>
      cases rr
      cases r
      obtain ⟨its, rv, p, hz⟩ := I1.list (g1.sub.seq z1)
      refine call_enumerate_list p.isList fun h' he hit hsz kp => wpAny_pyIter_enum he ?_
      have I2 : L2.Inv X pins σ H1 { s1 with heap := h' } := I1.kept (t' := s1.toks) kp
      refine ⟨s1.heap.objs.size + 1, [s1.heap.objs.size + 1, s1.heap.objs.size], _, _, H1, rfl, I2, turn_enum b _ _ (Nat.ne_of_gt (Nat.lt_succ_self _)), ⟨⟨_, he⟩, hit⟩, fun c hc => ?_, k _ F1 H1 g1 (itok_enum z1 z2)⟩
      have hc' : s1.heap.objs.size ≤ c := by
        rcases List.mem_cons.mp hc with z | z
        · rw [z]; exact Nat.le_succ _
        · rw [show c = s1.heap.objs.size by simpa using z]; exact Nat.le_refl _
      exact I1.fpOk hc' (I1.hok.fresh hc')
  · cases e
end

noncomputable def closL (names : List (Str × NameKind)) (env : Env) : List (Str × Addr) := (names.filterMap fun p => if p.2 = .free then (env.cells.lookup p.1).map (p.1, ·) else none).reverse
private theorem closureFor_eq {scope : Scope} {env : Env} (h : ∀ p ∈ scope.names, p.2 = .free → ∃ c, env.cells.lookup p.1 = some c) : closureFor scope env = pure (closL scope.names env) := by
  unfold closureFor closL
  have aux : ∀ (l : List (Str × NameKind)) (acc : List (Str × Addr)), (∀ p ∈ l, p.2 = .free → ∃ c, env.cells.lookup p.1 = some c) →
      (forIn l acc fun x cs => (do let (name, kind) := x; if (kind == .free) = true then do let c ← cellOf env name; pure (ForInStep.yield ((name, c) :: cs)) else pure (ForInStep.yield cs) : Sem (ForInStep (List (Str × Addr))))) =
      (pure ((l.filterMap fun p => if p.2 = .free then (env.cells.lookup p.1).map (p.1, ·) else none).reverse ++ acc) : Sem (List (Str × Addr))) := by
    intro l
    induction l with
    | nil => intro acc _; rfl
    | cons p r ih =>
      intro acc hl
      obtain ⟨n, k⟩ := p
      rw [List.forIn_cons]
      by_cases hk : k = .free
      · subst hk
        obtain ⟨c, hc⟩ := hl (n, .free) (List.mem_cons_self ..) rfl
        have e1 : cellOf env n = pure c := by unfold cellOf; rw [hc]
        simp only [beq_self_eq_true, if_true, e1, pure_bind, List.filterMap_cons, hc, Option.map_some]
        rw [ih _ fun q hq => hl q (List.mem_cons_of_mem _ hq)]
        simp
      · have hb : (k == NameKind.free) = false := by simpa using hk
        simp only [hb, Bool.false_eq_true, if_false, pure_bind, List.filterMap_cons, if_neg hk]
        exact ih _ fun q hq => hl q (List.mem_cons_of_mem _ hq)
  have := aux scope.names [] h
  rw [List.append_nil] at this
  simp only [bind_pure]
  exact this
end L3
namespace L3
open PySem PySem.Spec L2
open PyProof.Rows hiding St

private theorem closL_sub {names : List (Str × NameKind)} {env : Env} {x : Str} {c : Addr} (h : (closL names env).lookup x = some c) : env.cells.lookup x = some c := by
  have hm : (x, c) ∈ closL names env := PySem.mem_of_lookup h
  unfold closL at hm
  rw [List.mem_reverse] at hm
  obtain ⟨p, _, hp⟩ := List.mem_filterMap.mp hm
  split at hp
  · obtain ⟨d, e1, e2⟩ := Option.map_eq_some_iff.mp hp
    cases e2
    exact e1
  · cases hp
private theorem lookup_of_mem {α : Type} {x : Str} {c : α} : ∀ {l : List (Str × α)}, (x, c) ∈ l → ∃ d, l.lookup x = some d
  | [], h => by simp at h
  | (y, d) :: r, h => by
    by_cases e : (x == y) = true
    · exact ⟨d, by rw [List.lookup_cons, e]⟩
    · have e' : (x == y) = false := by simpa using e
      rw [List.lookup_cons, e']
      rcases List.mem_cons.mp h with z | z
      · cases z; simp at e'
      · exact lookup_of_mem z
private theorem relabel_free {env : Env} : ∀ {names : List (Str × NameKind)} {x : Str}, names.lookup x = some .free →
    (names.map fun (n, k) => if (k == NameKind.free && env.scope.kind == .function && env.kindOf n == some .cell) then (n, NameKind.cell) else (n, k)).lookup x = some .cell ∨
    (names.map fun (n, k) => if (k == NameKind.free && env.scope.kind == .function && env.kindOf n == some .cell) then (n, NameKind.cell) else (n, k)).lookup x = some .free
  | [], _, h => by simp at h
  | (n, k) :: r, x, h => by
    have ih := @relabel_free env r x
    show List.lookup x ((if (k == NameKind.free && env.scope.kind == .function && env.kindOf n == some .cell) = true then (n, NameKind.cell) else (n, k)) :: _) = _ ∨ List.lookup x ((if (k == NameKind.free && env.scope.kind == .function && env.kindOf n == some .cell) = true then (n, NameKind.cell) else (n, k)) :: _) = _
    cases hx : x == n with
    | true =>
      simp only [List.lookup_cons, hx] at h
      cases h
      by_cases hc : (NameKind.free == NameKind.free && env.scope.kind == .function && env.kindOf n == some .cell) = true
      · rw [if_pos hc]; simp [List.lookup_cons, hx]
      · rw [if_neg hc]; simp [List.lookup_cons, hx]
    | false =>
      simp only [List.lookup_cons, hx] at h
      by_cases hc : (k == NameKind.free && env.scope.kind == .function && env.kindOf n == some .cell) = true
      · rw [if_pos hc]; simp only [List.lookup_cons, hx]; exact ih h
      · rw [if_neg hc]; simp only [List.lookup_cons, hx]; exact ih h
private theorem of_relabel {env : Env} {κ : NameKind} (hκ : κ = .cell ∨ κ = .free) : ∀ {names : List (Str × NameKind)} {x : Str}, (∀ y ∈ names, y.2 ≠ .cell) →
    (names.map fun (n, k) => if (k == NameKind.free && env.scope.kind == .function && env.kindOf n == some .cell) then (n, NameKind.cell) else (n, k)).lookup x = some κ → names.lookup x = some .free
  | [], _, _, h => by simp at h
  | (n, k) :: r, x, no, h => by
    have ih := @of_relabel env κ hκ r x fun y hy => no y (List.mem_cons_of_mem _ hy)
    have hk : k ≠ .cell := no (n, k) (List.mem_cons_self ..)
    have h : List.lookup x ((if (k == NameKind.free && env.scope.kind == .function && env.kindOf n == some .cell) = true then (n, NameKind.cell) else (n, k)) :: _) = _ := h
    cases hx : x == n with
    | true =>
      simp only [List.lookup_cons, hx]
      by_cases hc : (k == NameKind.free && env.scope.kind == .function && env.kindOf n == some .cell) = true
      · have : k = .free := by
          simp only [Bool.and_eq_true, beq_iff_eq] at hc
          exact hc.1.1
        rw [this]
      · rw [if_neg hc] at h
        simp only [List.lookup_cons, hx] at h
        cases h
        rcases hκ with z | z
        · exact absurd z hk
        · rw [z]
    | false =>
      simp only [List.lookup_cons, hx]
      by_cases hc : (k == NameKind.free && env.scope.kind == .function && env.kindOf n == some .cell) = true
      · rw [if_pos hc] at h; simp only [List.lookup_cons, hx] at h; exact ih h
      · rw [if_neg hc] at h; simp only [List.lookup_cons, hx] at h; exact ih h
noncomputable def frOk (N N' : List Str) (fr : List (Option Nat)) (names : List (Str × NameKind)) : Bool :=
  fr.length == N'.length && (List.range N'.length).all fun i => match N'[i]?, fr[i]? with
    | some x, some (some j) => N[j]? == some x && names.lookup x == some .free
    | _, _ => true
private theorem compOk_of {X : Cx} {scope : Scope} {N' : List Str} {fr : List (Option Nat)} (hk : scope.kind = .function) (noc : (scope.names.all fun y => y.2 != .cell) = true) (names : (scope.names.all fun y => y.2 != .local || scope.names.lookup y.1 == some .local) = true)
    (frees : (scope.names.all fun y => y.2 != .free || X.env.scope.names.lookup y.1 == some .cell) = true) (hc : ∀ x, X.env.scope.names.lookup x = some .cell → ∃ c, X.env.cells.lookup x = some c) (ok : frOk X.N N' fr scope.names = true) : CompOk X scope (closL scope.names X.env) N' fr := by
  have noc' : ∀ y ∈ scope.names, y.2 ≠ .cell := fun y hy => by simpa using List.all_eq_true.mp noc y hy
  have frees' : ∀ y ∈ scope.names, y.2 = .free → X.env.scope.names.lookup y.1 = some .cell := fun y hy e => by
    have := List.all_eq_true.mp frees y hy
    rw [e] at this
    simpa using this
  have hcl : ∀ p ∈ scope.names, p.2 = .free → ∃ c, X.env.cells.lookup p.1 = some c := fun p hp e => hc _ (frees' p hp e)
  unfold frOk at ok
  simp only [Bool.and_eq_true, beq_iff_eq] at ok
  refine ⟨closureFor_eq hcl, hk, noc', fun y hy e => ?_, fun x c => closL_sub, fun x h => ?_, ok.1, fun i x j e1 e2 => ?_⟩
  · have := List.all_eq_true.mp names y hy
    rw [e] at this
    simpa using this
  · have hf : scope.names.lookup x = some .free := by
      rcases h with h | h
      · exact of_relabel (.inl rfl) noc' h
      · exact of_relabel (.inr rfl) noc' h
    have hm := PySem.mem_of_lookup hf
    obtain ⟨c, e⟩ := hcl _ hm rfl
    refine lookup_of_mem (c := c) ?_
    unfold closL
    rw [List.mem_reverse]
    exact List.mem_filterMap.mpr ⟨_, hm, by simp [e]⟩
  · have hi : i < N'.length := (List.getElem?_eq_some_iff.mp e1).1
    have := List.all_eq_true.mp ok.2 i (List.mem_range.mpr hi)
    rw [e1, e2] at this
    simp only [Bool.and_eq_true, beq_iff_eq] at this
    exact ⟨this.1, frees' _ (PySem.mem_of_lookup this.2) rfl, relabel_free this.2⟩
private theorem compOk_at {X : Cx} {scope sc : Scope} {N N' : List Str} {fr : List (Option Nat)} (hsc : X.env.scope = sc) (hN : X.N = N) (hk : scope.kind = .function) (noc : (scope.names.all fun y => y.2 != .cell) = true) (names : (scope.names.all fun y => y.2 != .local || scope.names.lookup y.1 == some .local) = true)
    (frees : (scope.names.all fun y => y.2 != .free || sc.names.lookup y.1 == some .cell) = true) (hc : ∀ x, X.env.scope.names.lookup x = some .cell → ∃ c, X.env.cells.lookup x = some c) (ok : frOk N N' fr scope.names = true) : CompOk X scope (closL scope.names X.env) N' fr :=
  compOk_of hk noc names (by rw [hsc]; exact frees) hc (by rw [hN]; exact ok)
private theorem cells_def {CX : CXT} {P : Program} {w : World} {K : PySem.W.Frag} {mg : Str → Option Value} {base : Heap} {N : List Str} {qual : Str} {scope : Scope} {f : Addr} {cd : Value} {A : Around} {outer : List Env} {s : Shared} {H : Hp} {E : XK} :
    ∀ x, (cxOf CX P w K mg base N qual scope f cd A outer s H E).env.scope.names.lookup x = some .cell → ∃ c, (cxOf CX P w K mg base N qual scope f cd A outer s H E).env.cells.lookup x = some c := fun _ h => cell_has h

noncomputable def boolsOf : List D → Option (List Bool)
  | [] => some []
  | .b x :: ds => (boolsOf ds).map (x :: ·)
  | _ => none
private theorem boolsOf_eq : ∀ {ds : List D} {ns : List Bool}, boolsOf ds = some ns → ds = ns.map D.b
  | [], _, h => by cases h; rfl
  | .b x :: ds, _, h => by
    obtain ⟨r, e, rfl⟩ := Option.map_eq_some_iff.mp (show (boolsOf ds).map (x :: ·) = _ from h)
    rw [boolsOf_eq e]; rfl
  | .n :: _, _, h => by cases h
  | .i _ :: _, _, h => by cases h
  | .s _ :: _, _, h => by cases h
  | .t _ :: _, _, h => by cases h
  | .l _ :: _, _, h => by cases h
  | .d _ _ :: _, _, h => by cases h
  | .x _ _ _ :: _, _, h => by cases h
  | .o _ _ _ :: _, _, h => by cases h
section
variable {X : Cx}
end
end L3
namespace L3
open PySem PySem.Spec L2
open PyProof.Rows hiding St

noncomputable def Itz (K : PySem.W.Frag) (a b : Addr) : It :=
  ⟨fun i H => ∃ xs ys x y, SqL K H a xs ∧ SqL K H b ys ∧ xs[i]? = some x ∧ ys[i]? = some y,
   fun i H v H' => ∃ T x y, (∀ xs, SqL K H a xs → xs[i]? = some x) ∧ (∀ ys, SqL K H b ys → ys[i]? = some y) ∧ H T = none ∧ v = .ref T ∧ H' = upd H T (.tup [x, y]),
   fun i H => ∃ xs ys, SqL K H a xs ∧ SqL K H b ys ∧ (xs.length ≤ i ∨ ys.length ≤ i)⟩
private theorem turn_zip {P : Program} {w : World} {K : PySem.W.Frag} {elts : List Expr} {x1} {pos : Pos} (a b z TI TO i1 i2 : Addr) (D : ZipApart z TI TO i1 i2 a b) : Turn P w K (.Tuple elts x1 pos) (Itz K a b) [z, TI, TO, i1, i2] z
    (fun i h => IsZip h z TI TO .none ∧ IsPair h TI (.ref i1) (.ref i2) ∧ (∃ c d, IsPair h TO c d) ∧ h.IsListIter i1 a i ∧ h.IsListIter i2 b i) where
  mem := by simp
  obj := fun i h ⟨hz, hTI, ⟨c, d, hTO⟩, h1, h2⟩ q hq => by
    simp only [List.mem_cons, List.not_mem_nil, or_false] at hq
    rcases hq with rfl | rfl | rfl | rfl | rfl
    · exact ⟨_, hz, fun v z => by cases z⟩
    · exact ⟨_, hTI, fun v z => by cases z⟩
    · exact ⟨_, hTO, fun v z => by cases z⟩
    · obtain ⟨o, e, c, d⟩ := h1
      exact ⟨o, e, fun v z => by rw [d] at z; cases z⟩
    · obtain ⟨o, e, c, d⟩ := h2
      exact ⟨o, e, fun v z => by rw [d] at z; cases z⟩
  keep := fun i h h' ⟨hz, hTI, ⟨c, d, hTO⟩, h1, h2⟩ k => ⟨k z (by simp) _ hz, k TI (by simp) _ hTI, ⟨c, d, k TO (by simp) _ hTO⟩, h1.at fun o q => k i1 (by simp) o q, h2.at fun o q => k i2 (by simp) o q⟩
  item := by
    intro X hP hw hK hc i pins s σ H E I hf st hg
    subst hP hw hK
    obtain ⟨hz, hTI, ⟨c, d, hTO⟩, h1, h2⟩ := st
    obtain ⟨xs, ys, x, y, hqx, hqy, hx, hy⟩ := hg
    obtain ⟨its, rv, p, hzx⟩ := I.list hqx
    obtain ⟨jts, rw', p', hzy⟩ := I.list hqy
    obtain ⟨u, hu, ru⟩ := rv.get hx
    obtain ⟨u', hu', ru'⟩ := rw'.get hy
    refine wpAny_pyNext_zip_item D hz hTI hTO h1 h2 p.isList p'.isList (x := u) (y := u') (by simpa using hu) (by simpa using hu') fun h' a1 a2 a3 a4 a5 a6 hk => ⟨_, rfl, ?_⟩
    refine wpAny_letOwnedTupleGo_zip a1 fun h3 hz3 hs3 => ?_
    have nez : s.heap.objs.size ≠ z := Nat.ne_of_gt (Heap.lt_size hz)
    have kp : ∀ b ob, b ∉ [z, TI, TO, i1, i2] → s.heap.get? b = some ob → h3.get? b = some ob := fun b ob hb q => by
      have b1 : b ≠ z := fun z => hb (by simp [z])
      exact hs3.extBut _ _ b1 (hk b ob b1 (fun z => hb (by simp [z])) (fun z => hb (by simp [z])) (fun z => hb (by simp [z])) q)
    have hT3 : h3.get? s.heap.objs.size = some { cls := .type "tuple", data := .seq #[u, u'] } := hs3.extBut _ _ nez a5
    have hTn := I.hok.fresh (Nat.le_refl s.heap.objs.size)
    have I9 : L2.Inv X pins σ (upd H s.heap.objs.size (.tup [x, y])) { s with heap := h3, toks := s.toks } :=
      Inv.turnedLay (t' := s.toks) I hf kp (Nat.le_refl _) ⟨by show 2 ≤ sizeLine; decide, [u, u'], .cons ru (.cons ru' .nil), ⟨_, hT3, rfl, _, rfl⟩⟩
    refine ⟨.ref s.heap.objs.size, upd H s.heap.objs.size (.tup [x, y]), I9, rfl, ⟨s.heap.objs.size, x, y, fun zs hy => by rw [I.list_inj hy hqx]; exact hx, fun zs hy' => by rw [I.list_inj hy' hqy]; exact hy, hTn, rfl, rfl⟩,
      ⟨hz3, hs3.extBut _ _ D.TIz (hk _ _ D.TIz D.TITO D.TIi1 D.TIi2 hTI), ⟨_, _, hs3.extBut _ _ D.TOz a2⟩, a3.at fun o q => hs3.extBut _ _ D.i1z q, a4.at fun o q => hs3.extBut _ _ D.i2z q⟩, fun q hq => ?_⟩
    rw [upd_ne]
    · exact (hf q hq).1
    · intro e
      have lt : q < s.heap.objs.size := by
        simp only [List.mem_cons, List.not_mem_nil, or_false] at hq
        rcases hq with rfl | rfl | rfl | rfl | rfl
        · exact Heap.lt_size hz
        · exact Heap.lt_size hTI
        · exact Heap.lt_size hTO
        · obtain ⟨o, e, _⟩ := h1; exact Heap.lt_size e
        · obtain ⟨o, e, _⟩ := h2; exact Heap.lt_size e
      rw [e] at lt; exact absurd lt (Nat.lt_irrefl _)
  done := by
    intro X hP hw hK hc i pins s σ H E I hf st hg
    subst hP hw hK
    obtain ⟨hz, hTI, ⟨c, d, hTO⟩, h1, h2⟩ := st
    obtain ⟨xs, ys, hqx, hqy, he⟩ := hg
    obtain ⟨its, rv, p, hzx⟩ := I.list hqx
    obtain ⟨jts, rw', p', hzy⟩ := I.list hqy
    have hl := rv.length
    have hl' := rw'.length
    refine wpAny_pyNext_zip_end (I.ok.hd hc) D hz hTI hTO h1 h2 p.isList p'.isList (by
      rcases he with he | he
      · exact .inl (by simp; omega)
      · exact .inr (by simp; omega)) fun h' hk => ⟨rfl, Inv.turnedL (t' := s.toks) I hf fun b ob hb q => hk b ob (fun z => hb (by simp [z])) (fun z => hb (by simp [z])) (fun z => hb (by simp [z])) (fun z => hb (by simp [z])) q⟩
  self := fun _ _ _ _ _ ⟨hz, _⟩ h => wpAny_pyIter_zip hz h

noncomputable def zipDs : List D → List D → List D
  | x :: xs, y :: ys => .t [x, y] :: zipDs xs ys
  | _, _ => []
private theorem zipDs_get : ∀ {xs ys : List D} {i : Nat} {d : D}, (zipDs xs ys)[i]? = some d → ∃ x y, xs[i]? = some x ∧ ys[i]? = some y ∧ d = .t [x, y]
  | [], _, _, _, h => by simp [zipDs] at h
  | _ :: _, [], _, _, h => by simp [zipDs] at h
  | x :: xs, y :: ys, 0, d, h => by simp [zipDs] at h; exact ⟨x, y, rfl, rfl, h.symm⟩
  | x :: xs, y :: ys, i + 1, d, h => by
    have h' : (zipDs xs ys)[i]? = some d := by simpa [zipDs] using h
    obtain ⟨a, b, h1, h2, h3⟩ := zipDs_get h'
    exact ⟨a, b, by simpa using h1, by simpa using h2, h3⟩
private theorem zipDs_len : ∀ {xs ys : List D} {i : Nat}, (zipDs xs ys).length ≤ i → xs.length ≤ i ∨ ys.length ≤ i
  | [], _, _, _ => .inl (Nat.zero_le _)
  | _ :: _, [], _, _ => .inr (Nat.zero_le _)
  | x :: xs, y :: ys, 0, h => by simp [zipDs] at h
  | x :: xs, y :: ys, i + 1, h => by
    have h' : (zipDs xs ys).length ≤ i := by simpa [zipDs] using h
    rcases zipDs_len h' with q | q
    · exact .inl (by simpa using q)
    · exact .inr (by simpa using q)
private theorem itok_zip {K : PySem.W.Frag} {F : Hp} {a b : Addr} {vs us : List V} {ds es : List D} (h1 : SqL K F a vs) (h2 : DenL K F ds vs) (k1 : SqL K F b us) (k2 : DenL K F es us) : ItOk K F (Itz K a b) (zipDs ds es) := fun i F' H s1 s2 => by
  have q : SqL K H a vs := (s1.trans s2).seq h1
  have r : SqL K H b us := (s1.trans s2).seq k1
  refine ⟨fun d e => ?_, fun hl => ⟨vs, us, q, r, by rw [← h2.length, ← k2.length]; exact zipDs_len hl⟩⟩
  obtain ⟨x, y, ex, ey, rfl⟩ := zipDs_get e
  obtain ⟨v, e1, den⟩ := h2.get ex
  obtain ⟨u, e2, den2⟩ := k2.get ey
  refine ⟨⟨vs, us, v, u, q, r, e1, e2⟩, fun x H' zq9 => ?_⟩
  obtain ⟨T, v', u', hv, hu, hT, hx, eH⟩ := zq9
  subst hx eH
  have z1 := hv vs q
  rw [e1] at z1; cases z1
  have z2 := hu us r
  rw [e2] at z2; cases z2
  have g := Grow.lay s2 hT (.tup [v, u])
  exact ⟨_, g, T, _, rfl, SqT.of upd_same, .cons (den.mono (s1.trans g.ff)) (.cons (den2.mono (s1.trans g.ff)) .nil)⟩
section
variable {X : Cx} {pos q : Pos} {elts : List Expr} {x1 : _} {tpos : Pos}
noncomputable def zipF (g : List Sl → Option (List D)) (ρ : List Sl) : Option (List D) := match g ρ with
  | some [.l ds, .l es] => some (zipDs ds es)
  | _ => none
private theorem pix_zip {a b : Expr} {g : List Sl → Option (List D)} (hg : Gl X "zip") (hm : X.mg "zip" = none) (hb : bootBuiltins "zip" = some (.type "zip")) (ha : PXs X [a, b] g)
    (hs : autoParam (starEach [a, b] X.env = (false, eval a X.env) :: starEach [b] X.env) _root_.zt2) (hpl : autoParam ((backTo pos (starEach [b] X.env)).any (·.1) = false) _root_.zt2) :
    PIX X (.Tuple elts x1 tpos) (.Call (.Name "zip" q) [a, b] [] pos) (zipF g) := by
  intro pins s σ H R I zq9
  obtain ⟨F, ρ, items, R', e, k⟩ := zq9
  unfold zipF at e
  split at e
  · rename_i ds es e1
    cases e
    refine Call_ (ld_blt I hg hm hb (PyProof.Rows.callWith_type1 (thn (ha pos pins s σ H (fun vs H1 => ∃ F1, Grow F H F1 H1 ∧ DenL X.K F1 [.l ds, .l es] vs) I ⟨F, ρ, _, R', e1, fun vs F1 H1 g1 q1 => ⟨F1, g1, q1⟩⟩) fun us s1 zq9 => ?_) hs hpl))
    obtain ⟨vs, H1, I1, r1, F1, g1, q1⟩ := zq9
    obtain ⟨v, v', rfl, ⟨c, xs, rfl, z1, z2⟩, ⟨c', ys, rfl, y1, y2⟩⟩ := den2 q1
    obtain ⟨u, u', rfl, r, r'⟩ := Vals.two r1
    cases r
    cases r'
    obtain ⟨its, rv, p, hz⟩ := I1.list (g1.sub.seq z1)
    obtain ⟨jts, rv', p', hz'⟩ := I1.list (g1.sub.seq y1)
    have lc : c < s1.heap.objs.size := by obtain ⟨o, e, _⟩ := p.isList; exact Heap.lt_size e
    have lc' : c' < s1.heap.objs.size := by obtain ⟨o, e, _⟩ := p'.isList; exact Heap.lt_size e
    refine call_zip_2 p.isList p'.isList fun h' hzz hTI hTO hi1 hi2 hsz kp => wpAny_pyIter_zip hzz ?_
    have I2 : L2.Inv X pins σ H1 { s1 with heap := h' } := I1.kept (t' := s1.toks) kp
    refine ⟨s1.heap.objs.size + 4, [s1.heap.objs.size + 4, s1.heap.objs.size + 2, s1.heap.objs.size + 3, s1.heap.objs.size, s1.heap.objs.size + 1], _, _, H1, rfl, I2, turn_zip c c' _ _ _ _ _ (PySem.W.ktu_apart _ _ _ lc lc'), ⟨hzz, hTI, ⟨_, _, hTO⟩, hi1, hi2⟩, fun d hd => ?_, k _ F1 H1 g1 (itok_zip z1 z2 y1 y2)⟩
    have hd' : s1.heap.objs.size ≤ d := by
      simp only [List.mem_cons, List.not_mem_nil, or_false] at hd
      rcases hd with rfl | rfl | rfl | rfl | rfl <;> omega
    exact I1.fpOk hd' (I1.hok.fresh hd')
  · cases e
end
end L3
namespace L3
open PySem PySem.Spec L2
open PyProof.Rows hiding St

section
variable {prog : Program} {w : World} {A : Around} {E : Value → Shared → Prop} {s : Shared}
end

noncomputable def Sq (b : Bool) (h : Heap) (l : Addr) (xs : Array Value) : Prop := match b with
  | true => IsTup h l xs
  | false => h.IsList l xs
section
variable {prog : Program} {w : World} {A : Around} {E : Value → Shared → Prop} {s : Shared} {b : Bool} {h m : Heap} {l it c : Addr} {xs : Array Value} {i : Nat}
end
section
variable {prog : Program} {w : World} {A : Around} {E : Value → Shared → Prop} {s : Shared} {b1 b2 : Bool} {z TI TO i1 i2 l1 l2 : Addr} {k1 k2 : Nat} {xs ys : Array Value} {a b : Value}
end
section
variable {prog : Program} {w : World} {A : Around} {E : Value → Shared → Prop} {s : Shared} {b b1 b2 : Bool} {l l1 l2 : Addr} {xs ys : Array Value}
end

noncomputable def SqH (b : Bool) (K : PySem.W.Frag) (H : Hp) (a : Addr) (xs : List V) : Prop := match b with
  | true => SqT K H a xs
  | false => SqL K H a xs
private theorem _root_.L2.Inv.sq {X : Cx} {pins : List (Addr × Obj)} {σ : St} {H : Hp} {s : Shared} {b : Bool} {a : Addr} {xs : List V} (I : L2.Inv X pins σ H s) (h : SqH b X.K H a xs) : ∃ its : List Value, Vals xs its ∧ Sq b s.heap a its.toArray := by
  cases b with
  | true => obtain ⟨its, r, t, _⟩ := I.tuple h; exact ⟨its, r, t⟩
  | false => obtain ⟨its, r, p, _⟩ := I.list h; exact ⟨its, r, p.isList⟩
section
variable {X : Cx} {pos q : Pos} {elts : List Expr} {x1 : _} {tpos : Pos}
end
end L3
namespace L3
open PySem PySem.Spec L2
open PyProof.Rows hiding St

section
variable {prog : Program} {w : World} {A : Around} {E : Value → Shared → Prop} {s : Shared}
end

section
variable {X : Cx} {a b c e : Expr} {pos p2 : Pos}
end

section
variable {X : Cx}
noncomputable def neL (d1 d2 : D) : Option Sl := match d1, d2 with
  | .l (_ :: _), .l [] => some (.sh (.b true))
  | .l [], .l [] => some (.sh (.b false))
  | _, _ => neO d1 d2
end
end L3
namespace L3
open PySem PySem.Spec L2
open PyProof.Rows hiding St

section
variable {X : Cx} {tg : Expr}
end
end L3
namespace L3
open PySem PySem.Spec L2
open PyProof.Rows hiding St

noncomputable def tR (X : Cx) (x : List Sl → Option Ex) : TE := fun σ H _ => ∃ F ρ ex, Rep X.K F H σ ρ ∧ x ρ = some ex ∧ ∀ F' H' C dx e s', Grow F H F' H' → ExDen X.K F' ex C dx → Lies X σ H' C dx e s' → X.xe e s'
noncomputable abbrev RX (X : Cx) (e : Expr) (x : List Sl → Option Ex) : Prop := PE X e (tR X x)
section
variable {X : Cx} {x : Str} {p pos : Pos} {e a b : Expr} {es : List Expr} {h : List D → Option Sl} {hx : List D → Option Ex} {g : List Sl → Option (List D)} {k : Nat} {ps : List Str}
noncomputable def callX (hx : List D → Option Ex) (g : List Sl → Option (List D)) (ρ : List Sl) : Option Ex := (g ρ).bind hx
private theorem rx_fx (F : FX X.prog X.w X.K X.mg X.base k x ps h hx) (hr : Room k X.A) (hg : Gl X x) (ha : PXs X (e :: es) g) (hdb : autoParam ((x == ("__debug__" : Str)) = false) _root_.zt1) (he : autoParam (starEach (e :: es) X.env = (false, eval e X.env) :: starEach es X.env) _root_.zt2)
    (hpl : autoParam ((backTo pos (starEach es X.env)).any (·.1) = false) _root_.zt2) : RX X (.Call (.Name x p) (e :: es) [] pos) (callX hx g) := by
  obtain ⟨f, fd, h1, h2, h3, h4⟩ := F
  intro pins s σ H Q I zq9
  obtain ⟨F, ρ, ex, R, e1, kx⟩ := zq9
  unfold callX at e1
  obtain ⟨ds, e2, e3⟩ := Option.bind_eq_some_iff.mp e1
  refine wpAny_Call_Name_kw (ld_glob I hg h4 ?_ hdb)
  refine PySem.W.callWith_K (h₀ := X.base) I.ok.mod.kin h3 (thn (ha pos pins s σ H (fun vs H1 => ∃ F1, Grow F H F1 H1 ∧ DenL X.K F1 ds vs) I ⟨F, ρ, ds, R, e2, fun vs F1 H1 g1 q1 => ⟨F1, g1, q1⟩⟩) fun us s1 ⟨vs, H1, I1, r, F1, g1, q1⟩ => ⟨I1.kIn, ?_⟩) he hpl
  have sp : spXX X.K h hx (vs ++ []) H1 Q (fun C dx H' => ∀ (A : Addr) (s' : Value × Shared), C = .ref A → Lies X σ H' A dx s'.1 s'.2 → X.xe s'.1 s'.2) := .inr ⟨F1, ds, ex, g1.sub, by rw [List.append_nil]; exact q1, e3, fun C dx F2 H2 g2 xd D s' eq ly => by
    cases eq
    exact kx F2 H2 C dx s'.1 s'.2 (g1.trans g2) xd ly⟩
  have r2 : Vals (vs ++ []) (us ++ []) := r.append .nil
  have hl : (us ++ []).length = ps.length := by rw [← r2.length]; exact h1.len _ _ _ _ sp
  refine wpAny_call (codeAny_mono (h1.run X.A X.stack s1 H1 ⟨us, []⟩ (us ++ []) (vs ++ []) Q _ hr I1.env0 (h2 s1 us I1.kIn hl) r2 sp) fun r s' hq => ?_)
  cases r with
  | error v =>
    obtain ⟨C, dx, H', lie, hE⟩ := hq
    exact hE C (v, s') rfl ⟨pins, H1, s1, I1, lie⟩
  | ok fl =>
    cases fl with
    | ret u => exact I1.after hq
    | next => exact False.elim hq
    | brk => exact False.elim hq
    | cont => exact False.elim hq
end

private theorem PS.or {X : Cx} {st : Stmt} {t u : TS} (h : PS X st t) (k : PS X st u) : PS X st (fun D σ H => t D σ H ∨ u D σ H) := fun pins s σ H D I q => by
  rcases q with q | q
  · exact h pins s σ H D I q
  · exact k pins s σ H D I q
noncomputable def evX (x : List Sl → Option Ex) (ρ : List Sl) : Option Out := match x (er ρ) with
  | some ex => some (.ex ex ρ)
  | none => match x (vw ρ) with
    | some ex => some (.ex ex (vw ρ))
    | none => none
private theorem evX_ok {X : Cx} {x : List Sl → Option Ex} {F₀ H₀ F H : Hp} {σ : St} {ρ : List Sl} {o : Out} {D : Ends} {Q : VK} (R : RepS X.K F₀ H₀ F H σ ρ) (e : evX x ρ = some o) (k : endO X F₀ H₀ D o) : tR X x σ H Q := by
  unfold evX at e
  split at e
  · rename_i ex e1
    cases e
    exact ⟨F, er ρ, ex, R.rep.er, e1, fun F' H' C dx ev s' g xd ly => k F' H' σ C dx ev s' (R.grow g) xd ly⟩
  · split at e
    · rename_i ex e1
      cases e
      exact ⟨_, vw ρ, ex, R.rep.vw, e1, fun F' H' C dx ev s' g xd ly => k F' H' σ C dx ev s' (R.frozen.grow g) xd ly⟩
    · cases e
noncomputable def orO (g h : List Sl → Option Out) (ρ : List Sl) : Option Out := match g ρ with
  | some o => some o
  | none => h ρ
section
variable {X : Cx} {e : Expr} {pos : Pos}
private theorem q_or {st : Stmt} {g h : List Sl → Option Out} (hg : PQ X st g) (hh : PQ X st h) : PQ X st (orO g h) := PS.imp (PS.or hg hh) fun D σ H zq9 => by
  obtain ⟨F₀, H₀, F, ρ, o, R, e, k⟩ := zq9
  unfold orO at e
  split at e
  · rename_i o' e1
    cases e
    exact .inl ⟨F₀, H₀, F, ρ, o, R, e1, k⟩
  · exact .inr ⟨F₀, H₀, F, ρ, o, R, e, k⟩
private theorem q_setX {i : Nat} {x : Str} {pos' : Pos} {y : List Sl → Option Ex} (hN : X.N.Nodup) (hi : X.N[i]? = some x) (hx : Loc X.env.scope x) (he : RX X e y) (hs : autoParam (swapsWith e (some (.Name x pos')) pos.line X.env = pure false) _root_.zt2)
    (hf : autoParam (X.fn x = true ∨ X.env.scope.names.lookup x = some .local) _root_.zt0) : PQ X (.Assign [.Name x pos'] e pos) (evX y) :=
  PS.imp (ps_set hN hi hx he hs hf) fun D σ H ⟨F₀, H₀, F, ρ, o, R, e, k⟩ => evX_ok R e k
private theorem q_retX {y : List Sl → Option Ex} (he : RX X e y) : PQ X (.Return (some e) pos) (evX y) := PS.imp (ps_ret he) fun D σ H ⟨F₀, H₀, F, ρ, o, R, e, k⟩ => evX_ok R e k
private theorem q_exprX {y : List Sl → Option Ex} (he : RX X e y) (hs : autoParam (swapsWith e none pos.line X.env = pure false) _root_.zt2) : PQ X (.Expr e pos) (evX y) := PS.imp (ps_expr he hs) fun D σ H ⟨F₀, H₀, F, ρ, o, R, e, k⟩ => evX_ok R e k

structure XI (P : Program) (w : World) (K : PySem.W.Frag) (mg : Str → Option Value) (base : Heap) (c : Str) (fn : List Str) : Prop where
  ex : ∃ C fI fd ps, xclsIn K C = true ∧ PySem.W.findIn K (.ref C) "__init__" = some (some (.ref fI)) ∧ PySem.W.typeIn K (.ref fI) = some (.type "function") ∧ PySem.W.keepIn K (.ref C) = true ∧ FnOk P w K mg base CX0 1 fI fd ps (spI C fn) ∧ Binds K fd ps [] ∧ mg c = some (.ref C) ∧
    PySem.W.nsIn K mainGlobals c = some (some (.ref C))
structure XP (K : PySem.W.Frag) (mg : Str → Option Value) (c : Str) : Prop where
  ex : ∃ C, xnsIn K C = true ∧ xclsIn K C = true ∧ PySem.W.keepIn K (.ref C) = true ∧ mg c = some (.ref C) ∧ PySem.W.nsIn K mainGlobals c = some (some (.ref C))
noncomputable def raiseI (c : Str) (fn : List Str) (g : List Sl → Option (List D)) (ρ : List Sl) : Option Out := match g (er ρ) with
  | some ds => if ds.length = fn.length then some (.ex ⟨c, fn, ds⟩ ρ) else none
  | none => match g (vw ρ) with
    | some ds => if ds.length = fn.length then some (.ex ⟨c, fn, ds⟩ (vw ρ)) else none
    | none => none
noncomputable def raiseP (c : Str) (g : List Sl → Option (List D)) (ρ : List Sl) : Option Out := match g (vw ρ) with
  | some ds => if ds.length ≤ 1000 then some (.ex ⟨c, [], []⟩ (vw ρ)) else none
  | none => none
variable {c : Str} {p cpos : Pos} {es : List Expr} {fn : List Str} {g : List Sl → Option (List D)} {k : Nat}
private theorem q_raiseI (xi : XI X.prog X.w X.K X.mg X.base c fn) (hr : Room k X.A) (hk : 2 ≤ k) (hfn : fn.length ≤ 1000) (hne : fn ≠ []) (hg : Gl X c) (ha : PXs X (e :: es) g) (hdb : autoParam ((c == ("__debug__" : Str)) = false) _root_.zt1)
    (he : autoParam (starEach (e :: es) X.env = (false, eval e X.env) :: starEach es X.env) _root_.zt2) (hpl : autoParam ((backTo cpos (starEach es X.env)).any (·.1) = false) _root_.zt2) : PQ X (.Raise (some (.Call (.Name c p) (e :: es) [] cpos)) none pos) (raiseI c fn g) := by
  obtain ⟨C, fI, fd, ps, h1, h2, h3, h4, h5, h6, h7, h8⟩ := xi.ex
  refine PS.imp (ps_raiseI h1 h2 h3 h4 h5 (hr.mono hk) h6 hfn hg h7 ha hdb he hpl) fun D σ H zq9 => ?_
  obtain ⟨F₀, H₀, F, ρ, o, R, e, k⟩ := zq9
  have go : ∀ {F1 H1 : Hp} {ρ1 : List Sl} {ds : List L3.D} {vs : List V}, RepS X.K F₀ H₀ F1 H1 σ ρ1 → DenL X.K F1 ds vs → ds.length = fn.length → (∀ F H σ C dx e s', RepS X.K F₀ H₀ F H σ ρ1 → ExDen X.K F ⟨c, fn, ds⟩ C dx → Lies X σ H C dx e s' → X.xe e s') →
      vs.length = fn.length ∧ ∀ d ex s', H1 d = none → Lies X σ (upd H1 d (dcH d (fn.zip vs))) C (some d) ex s' → X.xe ex s' := fun {F1 H1 ρ1 ds vs} R1 q hl k => ⟨by rw [← q.length]; exact hl, fun d ex s' hd ly => by
    have gr := Grow.lay R1.rep.sub hd (dcH d (fn.zip vs))
    exact k _ _ σ C (some d) ex s' (R1.grow gr) ⟨h8, vs, .inr ⟨d, rfl, upd_same, by rw [← q.length]; exact hl.symm⟩, q.mono gr.ff⟩ ly⟩
  unfold raiseI at e
  split at e
  · rename_i ds e1
    split at e
    · rename_i hl
      cases e
      exact ⟨F, er ρ, ds, R.rep.er, e1, fun vs F1 H1 g1 q1 => go (R.grow g1) q1 hl k⟩
    · cases e
  · split at e
    · rename_i ds e1
      split at e
      · rename_i hl
        cases e
        exact ⟨_, vw ρ, ds, R.rep.vw, e1, fun vs F1 H1 g1 q1 => go (R.frozen.grow g1) q1 hl k⟩
      · cases e
    · cases e
private theorem q_raiseP (xp : XP X.K X.mg c) (hr : Room k X.A) (hg : Gl X c) (ha : PXs X (e :: es) g) (hdb : autoParam ((c == ("__debug__" : Str)) = false) _root_.zt1)
    (he : autoParam (starEach (e :: es) X.env = (false, eval e X.env) :: starEach es X.env) _root_.zt2) (hpl : autoParam ((backTo cpos (starEach es X.env)).any (·.1) = false) _root_.zt2) : PQ X (.Raise (some (.Call (.Name c p) (e :: es) [] cpos)) none pos) (raiseP c g) := by
  obtain ⟨C, h1, h2, h3, h4, h5⟩ := xp.ex
  refine PS.imp (ps_raiseP h1 h2 h3 hr hg h4 ha hdb he hpl) fun D σ H zq9 => ?_
  obtain ⟨F₀, H₀, F, ρ, o, R, e, k⟩ := zq9
  unfold raiseP at e
  split at e
  · rename_i ds e1
    split at e
    · rename_i hl
      cases e
      exact ⟨_, vw ρ, ds, R.rep.vw, e1, fun vs F1 H1 g1 q1 => ⟨by rw [← q1.length]; exact hl, fun ex s' ly => k _ _ σ C none ex s' (R.frozen.grow g1) ⟨h5, [], .inl ⟨rfl, rfl, rfl⟩, .nil⟩ ly⟩⟩
    · cases e
  · cases e
end
end L3
namespace L3
open PySem PySem.Spec L2
open PyProof.Rows hiding St
open PySem.W (InstAt Looks)

section
variable {prog : Program} {w : World} {A : Around} {E : Value → Shared → Prop} {s : Shared} {K : PySem.W.Frag} {a C : Addr} {ox : Obj} {odo : Option Obj} {name : Str} {v : Value}
private theorem xga_check {M : Model} {nameV : Value} {Q : Unit → Shared → Prop} (X : K.In s.heap) (q : xclsIn K C = true) (hx : s.heap.get? a = some ox) (hc : ox.cls = .ref C) (hq : Q () s) : wpAny M A (checkBuiltinCall "BaseException.__getattribute__" ⟨[.ref a, nameV], []⟩) Q E s := by
  obtain ⟨nm, qn, N, bs, bm, hd, sn, sub, ab, col, dd, k0, k1, k2, k3, k5, lk, tl⟩ := xcls_of q
  have hC := X _ _ lk
  have hk : builtinKind "BaseException.__getattribute__" = some .slot := by decide +kernel
  have hsplit : splitId "BaseException.__getattribute__" = some ("BaseException", "__getattribute__") := by decide +kernel
  have hcB : (Value.ref C :: bm).contains (.type "BaseException") = true := by rw [List.contains_cons, (PySem.W.tail_of_in X tl).hasType (show xTail.contains (.type "BaseException") = true by decide +kernel), Bool.or_true]
  have ha := F.args_bexc_ga (.ref a) nameV
  obtain ⟨h, g, d, t, os⟩ := s
  simp only [checkBuiltinCall, hk, hsplit]
  refine wpAny_bind ?_
  · unfold isInstance
    repeat (first | (with_reducible refine wpAny_loadPart_at hx ?_; rw [hc]) | (with_reducible refine wpAny_isSubtype_exc hC ?_; rw [hcB]) | wp_step)
    exact hq
private theorem xga_value {tk : Tok} {Q : Fin → Shared → Prop} (X : K.In s.heap) (I : InstAt s.heap a ox C odo) (hf : PySem.W.findObj K C odo name = some (.value v)) (k : Q (.done (.ret v)) s) : wpAny (model prog w) A (Builtin.«object.__getattribute__» ⟨[.ref a, .str name tk], []⟩) Q E s := by
  obtain ⟨hh, gg, d, t, os⟩ := s
  have L0 := I.type (M := model prog w)
  have L1 := PySem.W.looks_find (M := model prog w) X I hf
  refine wpAny_bind (wpAny_pure (wpAny_bind (wpAny_pure (wpAny_bind (L0.at (wpAny_bind (L1.at ?_)))))))
  exact wpAny_pure k
private theorem xga_bind {g f : Value} {tk : Tok} {Q : Fin → Shared → Prop} (X : K.In s.heap) (I : InstAt s.heap a ox C odo) (hf : PySem.W.findObj K C odo name = some (.bind g f)) (k : wpAny (model prog w) A (call g [f, .ref a, .ref C]) (fun v s' => Q (.done (.ret v)) s') E s) :
    wpAny (model prog w) A (Builtin.«object.__getattribute__» ⟨[.ref a, .str name tk], []⟩) Q E s := by
  obtain ⟨hh, gg, d, t, os⟩ := s
  have L0 := I.type (M := model prog w)
  have L1 := PySem.W.looks_find (M := model prog w) X I hf
  refine wpAny_bind (wpAny_pure (wpAny_bind (wpAny_pure (wpAny_bind (L0.at (wpAny_bind (L1.at ?_)))))))
  show wpAny _ _ (holding [f] (call g [f, .ref a, .ref C]) >>= ret) _ _ _
  exact wpAny_bind (wpAny_holding (wpAny_mono k (fun v s' z => wpAny_pure z) fun _ _ z => z))
private theorem xga_by {tk : Tok} {fill expr : Bool} {Q : Value → Shared → Prop} (X : K.In s.heap) (q : xclsIn K C = true) (I : InstAt s.heap a ox C odo) (hga : PySem.W.findIn K (.ref C) "__getattribute__" = some (some (.builtin "BaseException.__getattribute__"))) (hgt : PySem.W.findIn K (.ref C) "__getattr__" = some none)
    (h : ∀ (A' : Around) (E' : Value → Shared → Prop) (P : Fin → Shared → Prop), P (.done (.ret v)) s → wpAny (model prog w) A' (Builtin.«object.__getattribute__» ⟨[.ref a, .str name tk], []⟩) P E' s) (hv : PySem.W.handedIn v = true) (k : Q v s) :
    wpAny (model prog w) A (getAttrBy (.ref a) (.str name tk) fill expr) Q E s := by
  have chk := fun (M : Model) (A' : Around) (E' : Value → Shared → Prop) (nv : Value) (P : Unit → Shared → Prop) (hp : P () s) => xga_check (M := M) (A := A') (E := E') (nameV := nv) X q I.at_ I.cls hp
  obtain ⟨hh, gg, d, t, os⟩ := s
  have L0 := I.type (M := model prog w)
  have L1 := PySem.W.looks_findIn (M := model prog w) X hga
  have L2 := PySem.W.looks_findIn (M := model prog w) X hgt
  have f3 := PySem.F.attr_ValueError.ga.bind (.ref a)
  have hx0 : (expr && onTheHeap (Value.builtin "BaseException.__getattribute__")) = false := by cases expr <;> rfl
  have hx1 : (onTheHeap (Value.ref C) && Value.builtin "BaseException.__getattribute__" == Value.builtin "object.__getattribute__") = false := by rw [show (Value.builtin "BaseException.__getattribute__" == Value.builtin "object.__getattribute__") = false by decide +kernel]; rfl
  unfold getAttrBy
  refine wpAny_holding (wpAny_bind (L0.at (wpAny_bind (L1.at ?_))))
  simp only [hx1, Bool.false_eq_true, if_false]
  unfold getAttrByItsOwn hookBefore
  refine wpAny_bind ?_
  rw [if_pos (show onTheHeap (Value.ref C) = true from rfl)]
  refine L2.at ?_
  refine wpAny_bind (wpAny_attempt (wpAny_holding ?_))
  unfold callGetattribute
  rw [hx0]
  simp only [Bool.false_eq_true, if_false]
  unfold boundAndCalled
  rw [f3]
  refine wpAny_bind (wpAny_pure ?_)
  refine wpAny_call ?_
  refine codeAny_call_builtin PySem.F.attr_ValueError.ga.plain F.entry_bexc_ga (chk _ _ _ _ _ (h _ _ _ ?_))
  show wpAny _ _ (handedOut v) _ _ _
  rw [PySem.W.handedOut_of hv]; exact wpAny_pure k
private theorem xget' {expr : Bool} {Q : Value → Shared → Prop} (X : K.In s.heap) (q : xclsIn K C = true) (I : InstAt s.heap a ox C odo) (hga : PySem.W.findIn K (.ref C) "__getattribute__" = some (some (.builtin "BaseException.__getattribute__"))) (hgt : PySem.W.findIn K (.ref C) "__getattr__" = some none)
    (hf : PySem.W.findObj K C odo name = some (.value v)) (hv : PySem.W.handedIn v = true) (k : ∀ t, Q v { s with toks := t }) : wpAny (model prog w) A (getAttr (.ref a) name expr) Q E s := by
  obtain ⟨hh, gg, d, t, os⟩ := s
  unfold getAttr
  exact wpAny_bind (wpAny_mkText (xga_by (s := ⟨hh, gg, d, t + 1, os⟩) X q I hga hgt (fun A' E' P hp => xga_value (s := ⟨hh, gg, d, t + 1, os⟩) X I hf hp) hv (k _)))
private theorem kitx_exc (q : xclsIn K C = true) (hcl : (PySem.W.clsIn K C).isSome = true) (hga : PySem.W.findIn K (.ref C) "__getattribute__" = some (some (.builtin "BaseException.__getattribute__"))) (hgt : PySem.W.findIn K (.ref C) "__getattr__" = some none)
    (ha : PySem.W.findIn K (.ref C) "__class__" = some (some (.builtin "object.__class__"))) (hn : PySem.W.specialIn K (.builtin "object.__class__") "__get__" = some (some (.builtin "getset_descriptor.__get__"))) (htk : PySem.W.takesIn K (.builtin "object.__class__") = some true)
    (hm : PySem.W.mroIn K C (.type "object") = some true) : PySem.W.KitX K (.ref a) (.ref C) (fun h => ∃ ox odo, InstAt h a ox C odo) where
  ty := fun _ _ _ ⟨_, _, I⟩ => I.type
  it := fun _ _ X _ => by
    obtain ⟨nm, qn, N, bs, bm, hd, sn, sub, ab, col, dd, k0, k1, k2, k3, k5, lk, tl⟩ := xcls_of q
    intro A' Q' E' s' k q
    unfold isType loadHead
    exact wpAny_bind (wpAny_loadPart (k _ _ (X _ _ lk)) (wpAny_pure q))
  ne := fun h tp dd its n sl X htp => by
    obtain ⟨nm, qn, N, bs, bm, hd, sn, sub, ab, col, dd, k0, k1, k2, k3, k5, lk, tl⟩ := xcls_of q
    refine Bool.eq_false_iff.mpr fun q => ?_
    have e : C = tp := Value.ref.inj (beq_iff_eq.mp q)
    subst e
    have z := congrArg (fun o => o.map Obj.data) ((X _ _ lk).symm.trans htp)
    cases z
  ca := fun {prog w A E Q s} X I k => by
    obtain ⟨ox, odo, I⟩ := I
    have hf : PySem.W.findObj K C odo "__class__" = some (.bind (.builtin "getset_descriptor.__get__") (.builtin "object.__class__")) := by
      obtain ⟨cd, hc⟩ := Option.isSome_iff_exists.mp hcl
      unfold PySem.W.findObj
      rw [hc, Option.bind_some, ha, Option.bind_some]
      simp [hn, htk]
    obtain ⟨hh, gg, d, t, os⟩ := s
    unfold getAttr? getAttrBy?
    refine wpAny_bind (wpAny_mkText (wpAny_bind (wpAny_attempt (xga_by (v := .ref C) (s := ⟨hh, gg, d, t + 1, os⟩) X q I hga hgt (fun A' E' P hp => xga_bind (s := ⟨hh, gg, d, t + 1, os⟩) X I hf (wpAny_call (PySem.W.class_get (s := ⟨hh, gg, d, t + 1, os⟩) X I hm hp))) rfl ?_))))
    exact wpAny_pure k
end
end L3
namespace L3
open PySem PySem.Spec L2
open PyProof.Rows hiding St
open PySem.W (InstAt Looks)

private theorem held_unset {σ : St} {ρ : List Sl} {i : Nat} {p : Addr} (h : Held (σ.set i none) (ρ.set i .un) p) : Held σ ρ p := by
  obtain ⟨j, r, e, o, q⟩ := h
  by_cases z : i = j
  · subst z
    have hi : i < ρ.length := by
      by_cases hl : i < ρ.length
      · exact hl
      · rw [List.getElem?_eq_none (by simpa using hl)] at e; cases e
    rw [List.getElem?_set_self hi] at e
    cases e; cases o
  · rw [List.getElem?_set_ne z] at e q
    exact ⟨j, r, e, o, q⟩
private theorem RepS.unset {K : PySem.W.Frag} {F₀ H₀ F H : Hp} {σ : St} {ρ : List Sl} {i : Nat} (R : RepS K F₀ H₀ F H σ ρ) : RepS K F₀ H₀ F H (σ.set i none) (ρ.set i .un) := by
  have nun : ∀ {j : Nat} {r : Sl}, (ρ.set i .un)[j]? = some r → r ≠ .un → i ≠ j ∧ ρ[j]? = some r := fun {j r} e n => by
    rcases get_set_inv e with ⟨_, z, _⟩ | ⟨z, e'⟩
    · exact absurd z n
    · exact ⟨Ne.symm z, e'⟩
  refine ⟨⟨R.rep.sub, fun j r e n => ?_, fun j j' r1 r2 p e1 e2 o1 o2 s1 s2 => ?_, by simpa using R.rep.len⟩, R.gr, fun p h => R.fresh p (held_unset h)⟩
  · obtain ⟨z, e'⟩ := nun e n
    obtain ⟨w, w1, w2⟩ := R.rep.at_ j r e' n
    exact ⟨w, by rw [List.getElem?_set_ne z]; exact w1, w2⟩
  · obtain ⟨z1, e1'⟩ := nun e1 (by rintro rfl; cases o1)
    obtain ⟨z2, e2'⟩ := nun e2 (by rintro rfl; cases o2)
    rw [List.getElem?_set_ne z1] at s1
    rw [List.getElem?_set_ne z2] at s2
    exact R.rep.apart j j' r1 r2 p e1' e2' o1 o2 s1 s2

noncomputable abbrev _root_.L2.Cx.trial (X : Cx) (E : Value → Shared → Prop) (pn : List (Addr × Obj)) : Cx := { X with xe := E, pn := pn }
section
variable {X : Cx} {pins : List (Addr × Obj)} {σ : St} {H : Hp} {s : Shared} {E : Value → Shared → Prop}
private theorem _root_.L2.Inv.trial (I : L2.Inv X pins σ H s) (E : Value → Shared → Prop) : L2.Inv (X.trial E (X.pn ++ pins)) [] σ H s :=
  ⟨⟨I.ok.mod, I.ok.kind, I.ok.glob, I.ok.blt, I.ok.above, I.ok.inj, I.ok.has, I.ok.cab, I.ok.hd, I.ok.frames, I.ok.stk, I.ok.exf, I.ok.bs, I.ok.bsz, I.ok.noex, I.ok.exfs, I.ok.funs, I.ok.frf⟩, I.os, I.bare, I.base, I.loc, I.cell, I.free, I.freeC, fun p hp => I.pin p (by simpa using hp), I.hok, I.len⟩
private theorem _root_.L2.Inv.untrial {ps : List (Addr × Obj)} (I : L2.Inv (X.trial E (X.pn ++ pins)) ps σ H s) : L2.Inv X pins σ H s :=
  ⟨⟨I.ok.mod, I.ok.kind, I.ok.glob, I.ok.blt, I.ok.above, I.ok.inj, I.ok.has, I.ok.cab, I.ok.hd, I.ok.frames, I.ok.stk, I.ok.exf, I.ok.bs, I.ok.bsz, I.ok.noex, I.ok.exfs, I.ok.funs, I.ok.frf⟩, I.os, I.bare, I.base, I.loc, I.cell, I.free, I.freeC, fun p hp => I.pin p (List.mem_append_left _ hp), I.hok, I.len⟩
private theorem SP.untrial {D : Ends} {f : Flow} {s' : Shared} (h : SP (X.trial E (X.pn ++ pins)) [] D f s') : SP X pins D f s' := by
  cases f with
  | next => obtain ⟨σ', H', I, q⟩ := h; exact ⟨σ', H', I.untrial, q⟩
  | brk => obtain ⟨σ', H', I, q⟩ := h; exact ⟨σ', H', I.untrial, q⟩
  | cont => obtain ⟨σ', H', I, q⟩ := h; exact ⟨σ', H', I.untrial, q⟩
  | ret u => obtain ⟨v, σ', H', I, r, q⟩ := h; exact ⟨v, σ', H', I.untrial, r, q⟩
private theorem lie_here {M : Model} {H' : Hp} {C : Addr} {dx : Option Addr} {ex : Value} {s' : Shared} {Q : Value → Shared → Prop} (I : L2.Inv X pins σ H s) (L : Lie X.prog X.w X.stack H s H' C dx ex s') (hst : X.stack = X.env :: X.outer) (hfr : X.env.frame = some X.env.locals)
    (k : ∀ a s'', ex = .ref a → H' a = none → Here X pins σ H' C dx a s'' → Q ex s'') :
    wpAny M X.A (noteFrame ex X.env) (fun _ s2 => wpAny M X.A (setFlight ex none) (fun _ s3 => Q ex s3) E s2) E s' := by
  have fa : ∃ a, ex = .ref a ∧ H' a = none := by
    obtain ⟨a, B, e, _, _, fa, _⟩ := L.ex
    exact ⟨a, e, fa⟩
  obtain ⟨a, B, rfl, fl, step⟩ := lie_land L
  have os := L.os
  have bare := L.bare
  have inv : ∀ h', Flies B X.stack a (.ref C) dx h' → s'.heap.UpToSlots h' → Inv X pins σ (upd H' a (xoH a C dx)) { s' with heap := h' } := fun h' f u =>
    I.call' (s' := { s' with heap := h' }) os (step h' f u).1 (step h' f u).2 bare (fun b z => absurd z (by simp))
  rw [hst] at fl inv
  refine note_land (by rw [I.ok.frames, hst]) hfr fl fun h' f u => k a _ rfl (by obtain ⟨a', e, z⟩ := fa; cases e; exact z) ⟨B, ?_, fun h2 f2 u2 => ?_⟩
  · rw [hst]; exact f
  · rw [hst] at f2; exact inv h2 f2 (u.trans u2)
end
structure Cl where
  t : List (Str × Bool)
  i : Option Nat
  h : List Sl → Option Out
noncomputable def noEx : Out → Option Out
  | .ex _ _ => none
  | o => some o
noncomputable def unO (i : Nat) : Out → Option Out
  | .nx ρ => some (.nx (ρ.set i .un))
  | .bk ρ => some (.bk (ρ.set i .un))
  | .ct ρ => some (.ct (ρ.set i .un))
  | .rt r => some (.rt r)
  | .ex _ _ => none
noncomputable def clsG : List Cl → Ex → List Sl → Option Out
  | [], _, _ => none
  | c :: r, x, ρ => match c.t.lookup x.c with
    | some true => (match c.i with
      | none => (c.h ρ).bind noEx
      | some i => (c.h (ρ.set i (.sh (.x x.c x.ks x.vs)))).bind (unO i))
    | some false => clsG r x ρ
    | none => none
noncomputable def tryG (g : List Sl → Option Out) (cs : List Cl) (ρ : List Sl) : Option Out := match g ρ with
  | some (.ex x ρ') => clsG cs x ρ'
  | o => o
structure XT (K : PySem.W.Frag) (mg : Str → Option Value) (hx : Str) (tb : List (Str × Bool)) : Prop where
  ex : ∃ cv, (mg hx = some cv ∨ (mg hx = none ∧ bootBuiltins hx = some cv ∧ hx ≠ "__name__")) ∧ ∀ p ∈ tb, ∃ C, PySem.W.nsIn K mainGlobals p.1 = some (some (.ref C)) ∧ PySem.W.exmOne K (.ref C) cv = some p.2
private theorem lookup_mem {tb : List (Str × Bool)} {n : Str} {b : Bool} (h : tb.lookup n = some b) : (n, b) ∈ tb := by
  induction tb with
  | nil => cases h
  | cons p r ih =>
    obtain ⟨m, c⟩ := p
    rw [List.lookup_cons] at h
    split at h
    · rename_i z
      cases h
      rw [eq_of_beq z]; exact List.mem_cons_self
    · exact List.mem_cons_of_mem _ (ih h)
inductive Clauses (X : Cx) : List ExceptHandler → List Cl → Prop
  | nil : Clauses X [] []
  | cl {hx : Str} {np pos : Pos} {b0 : Stmt} {body : List Stmt} {rest : List ExceptHandler} {cs : List Cl} {tb : List (Str × Bool)} {h : List Sl → Option Out} : XT X.K X.mg hx tb → Gl X hx → (hx == ("__debug__" : Str)) = false → (∀ e, PQs (suite X e) (b0 :: body) h) → Clauses X rest cs →
      Clauses X (.ExceptHandler (some (.Name hx np)) none (b0 :: body) pos :: rest) (⟨tb, none, h⟩ :: cs)
  | as {hx n : Str} {i : Nat} {np pos : Pos} {b0 : Stmt} {body : List Stmt} {rest : List ExceptHandler} {cs : List Cl} {tb : List (Str × Bool)} {h : List Sl → Option Out} : XT X.K X.mg hx tb → Gl X hx → (hx == ("__debug__" : Str)) = false → (∀ e, PQs (suite X e) (b0 :: body) h) →
      X.N[i]? = some n → X.env.scope.names.lookup n = some .local → Clauses X rest cs → Clauses X (.ExceptHandler (some (.Name hx np)) (some n) (b0 :: body) pos :: rest) (⟨tb, some i, h⟩ :: cs)
section
variable {X : Cx}
private theorem XT.nam {hx : Str} {tb : List (Str × Bool)} (x : XT X.K X.mg hx tb) (hg : Gl X hx) (hd : (hx == ("__debug__" : Str)) = false) : ∃ cv, Nam X hx cv ∧ ∀ n b C, tb.lookup n = some b → PySem.W.nsIn X.K mainGlobals n = some (some (.ref C)) → PySem.W.exmOne X.K (.ref C) cv = some b := by
  obtain ⟨cv, h1, h2⟩ := x.ex
  refine ⟨cv, ⟨hg, h1, hd⟩, fun n b C e q => ?_⟩
  obtain ⟨C', q', z⟩ := h2 _ (lookup_mem e)
  simp only at q' z
  rw [q] at q'; cases q'
  exact z
private theorem cls_ok (hN : X.N.Nodup) : ∀ {hs : List ExceptHandler} {cs : List Cl}, Clauses X hs cs → ∀ {pins : List (Addr × Obj)} {σ : St} {F₀ H₀ F H' : Hp} {C a : Addr} {dx : Option Addr} {s : Shared} {D : Ends} {ρ : List Sl} {x : Ex} {o : Out},
    Here X pins σ H' C dx a s → RepS X.K F₀ H₀ F H' σ ρ → ExDen X.K F x C dx → H' a = none → clsG cs x ρ = some o → endO X F₀ H₀ D o → wpAny (model X.prog X.w) X.A (handleBy (.ref a) X.env hs) (SP X pins D) X.xe s := by
  intro hs cs h
  induction h with
  | nil => intro pins σ F₀ H₀ F H' C a dx s D ρ x o _ _ _ _ e; cases e
  | cl xt hg hd hb _ ih =>
    intro pins σ F₀ H₀ F H' C a dx s D ρ x o hr R xd fa e k
    obtain ⟨cv, nm, tt⟩ := xt.nam hg hd
    unfold clsG at e
    split at e
    · rename_i e1
      simp only at e
      obtain ⟨o', e2, e3⟩ := Option.bind_eq_some_iff.mp e
      have gr := Grow.lay R.rep.sub fa (xoH a C dx)
      refine clause_hit hr nm (tt _ _ _ e1 xd.1) (hb _) ⟨F₀, H₀, _, ρ, o', R.grow gr, e2, ?_⟩
      cases o' <;> cases e3 <;> exact k
    · rename_i e1
      exact clause_miss hr nm (tt _ _ _ e1 xd.1) (ih hr R xd fa e k)
    · cases e
  | @as hx n i np pos b0 body rest cs tb h xt hg hd hb hi hl _ ih =>
    intro pins σ F₀ H₀ F H' C a dx s D ρ x o hr R xd fa e k
    obtain ⟨cv, nm, tt⟩ := xt.nam hg hd
    unfold clsG at e
    split at e
    · rename_i e1
      simp only at e
      obtain ⟨o', e2, e3⟩ := Option.bind_eq_some_iff.mp e
      have gr := Grow.lay R.rep.sub fa (xoH a C dx)
      have xd' := xd.mono gr.ff
      obtain ⟨q1, us, q2, q3⟩ := xd'
      have den : Den X.K (upd F a (xoH a C dx)) (.x x.c x.ks x.vs) (.ref a) := ⟨a, C, dx, us, rfl, q1, upd_same, q2, q3⟩
      refine clause_hitAs hr nm (tt _ _ _ e1 xd.1) (hb _) hN hi hl ⟨F₀, H₀, _, _, o', (R.grow gr).store (i := i) (r := .sh (.x x.c x.ks x.vs)) den (fun o => by cases o), e2, ?_⟩
      cases o' with
      | nx ρ' => cases e3; exact fun F H σ R => k F H _ R.unset
      | bk ρ' => cases e3; exact fun F H σ R => k F H _ R.unset
      | ct ρ' => cases e3; exact fun F H σ R => k F H _ R.unset
      | rt r => cases e3; exact k
      | ex _ _ => cases e3
    · rename_i e1
      exact clause_miss hr nm (tt _ _ _ e1 xd.1) (ih hr R xd fa e k)
    · cases e
private theorem q_try {body : List Stmt} {h0 : ExceptHandler} {hs : List ExceptHandler} {pos : Pos} {cs : List Cl} {g : List Sl → Option Out} (hN : X.N.Nodup) (hst : X.stack = X.env :: X.outer) (hfr : X.env.frame = some X.env.locals)
    (hb : ∀ E pn, PassesOwn (model X.prog X.w) X.A X.env E → PQs (X.trial E pn) body g) (hc : Clauses X (h0 :: hs) cs) : PQ X (.Try body (h0 :: hs) [] [] pos) (tryG g cs) := by
  intro pins s σ H D I zq9
  obtain ⟨F₀, H₀, F, ρ, o, R, e, k⟩ := zq9
  refine wpAny_Try_except ?_
  have fin : ∀ (E : Value → Shared → Prop) (f : Flow) (s1 : Shared), SP (X.trial E (X.pn ++ pins)) [] D f s1 → (match f with | .next => wpAny (model X.prog X.w) X.A (execs [] X.env) (SP X pins D) X.xe s1 | f => SP X pins D f s1) := fun E f s1 h1 => by
    have h2 := SP.untrial h1
    cases f with
    | next => obtain ⟨σ', H', I', q⟩ := h2; exact pss_nil pins s1 σ' H' D I' q
    | brk => exact h2
    | cont => exact h2
    | ret u => exact h2
  refine wpAny_mono (hb _ (X.pn ++ pins) PassesOwn.looking [] s σ H D (I.trial _) ?_) (fun f s1 h1 => fin _ f s1 h1) fun _ _ z => z
  unfold tryG at e
  split at e
  · rename_i x ρ' e1
    refine ⟨F₀, H₀, F, ρ, .ex x ρ', R, e1, fun F1 H1 σ1 C dx ev s' R1 xd zq9 => ?_⟩
    obtain ⟨ps, H2, s2, I2, L⟩ := zq9
    exact lie_here (E := X.xe) (Q := fun e s3 => wpAny (model X.prog X.w) X.A (handleBy e X.env (h0 :: hs)) (SP X pins D) X.xe s3) I2.untrial L hst hfr fun a s'' ee fa hr => by
      subst ee
      exact cls_ok hN hc hr R1 xd fa e k
  · rename_i hne
    cases o with
    | nx ρ' => exact ⟨F₀, H₀, F, ρ, _, R, e, k⟩
    | bk ρ' => exact ⟨F₀, H₀, F, ρ, _, R, e, k⟩
    | ct ρ' => exact ⟨F₀, H₀, F, ρ, _, R, e, k⟩
    | rt r => exact ⟨F₀, H₀, F, ρ, _, R, e, k⟩
    | ex x ρ' => exact absurd e (hne x ρ')
end
end L3
namespace L3
open PySem PySem.Spec L2
open PyProof.Rows hiding St
open PySem.W (InstAt Looks)

structure XV (K : PySem.W.Frag) (C : Addr) : Prop where
  q : xclsIn K C = true
  cl : (PySem.W.clsIn K C).isSome = true
  ga : PySem.W.findIn K (.ref C) "__getattribute__" = some (some (.builtin "BaseException.__getattribute__"))
  gt : PySem.W.findIn K (.ref C) "__getattr__" = some none
  ac : PySem.W.findIn K (.ref C) "__class__" = some (some (.builtin "object.__class__"))
  sp : PySem.W.specialIn K (.builtin "object.__class__") "__get__" = some (some (.builtin "getset_descriptor.__get__"))
  tk : PySem.W.takesIn K (.builtin "object.__class__") = some true
  ob : PySem.W.mroIn K C (.type "object") = some true
noncomputable def xvB (K : PySem.W.Frag) (C : Addr) : Bool := xclsIn K C && (PySem.W.clsIn K C).isSome && PySem.W.findIn K (.ref C) "__getattribute__" == some (some (.builtin "BaseException.__getattribute__")) && PySem.W.findIn K (.ref C) "__getattr__" == some none &&
  PySem.W.findIn K (.ref C) "__class__" == some (some (.builtin "object.__class__")) && PySem.W.specialIn K (.builtin "object.__class__") "__get__" == some (some (.builtin "getset_descriptor.__get__")) && PySem.W.takesIn K (.builtin "object.__class__") == some true && PySem.W.mroIn K C (.type "object") == some true
private theorem xv_of {K : PySem.W.Frag} {C : Addr} (h : xvB K C = true) : XV K C := by
  unfold xvB at h
  simp only [Bool.and_eq_true, beq_iff_eq] at h
  obtain ⟨⟨⟨⟨⟨⟨⟨h1, h2⟩, h3⟩, h4⟩, h5⟩, h6⟩, h7⟩, h8⟩ := h
  exact ⟨h1, h2, h3, h4, h5, h6, h7, h8⟩
noncomputable def vv : V → Value
  | .ref a => .ref a
  | .ty T => .type T
  | _ => .none
noncomputable def isCV : V → Bool
  | .ref _ => true
  | .ty _ => true
  | _ => false
private theorem vv_rel {v : V} {u : Value} (h : isCV v = true) (r : RelV v u) : u = vv v := by
  cases v <;> first | exact r | cases h
private theorem vv_rels : ∀ {vs : List V} {us : List Value}, (∀ v ∈ vs, isCV v = true) → Vals vs us → us = vs.map vv
  | _, _, _, .nil => rfl
  | _, _, h, .cons r q => by rw [List.map_cons, ← vv_rel (h _ List.mem_cons_self) r, ← vv_rels (fun v m => h v (List.mem_cons_of_mem _ m)) q]
noncomputable def ClN (mg : Str → Option Value) (n : Str) (v : V) : Prop := (∃ C, v = .ref C ∧ mg n = some (.ref C)) ∨ ∃ T, v = .ty T ∧ mg n = none ∧ bootBuiltins n = some (.type T) ∧ n ≠ "__name__"
inductive ClNs (mg : Str → Option Value) : List Str → List V → Prop
  | nil : ClNs mg [] []
  | cons {n : Str} {v : V} {ns : List Str} {vs : List V} : ClN mg n v → ClNs mg ns vs → ClNs mg (n :: ns) (v :: vs)
private theorem ClN.cv {mg : Str → Option Value} {n : Str} {v : V} (h : ClN mg n v) : isCV v = true := by
  rcases h with ⟨C, rfl, _⟩ | ⟨T, rfl, _⟩ <;> rfl
private theorem ClNs.cv {mg : Str → Option Value} {ns : List Str} {vs : List V} (h : ClNs mg ns vs) : ∀ v ∈ vs, isCV v = true := by
  induction h with
  | nil => intro v m; cases m
  | cons a _ ih =>
    intro v m
    rcases List.mem_cons.mp m with rfl | m
    · exact a.cv
    · exact ih v m
structure IT (K : PySem.W.Frag) (mg : Str → Option Value) (cs : List Str) (tb : List (Str × Bool)) : Prop where
  ex : ∃ vs, ClNs mg cs vs ∧ (∀ p ∈ tb, ∃ C, PySem.W.nsIn K mainGlobals p.1 = some (some (.ref C)) ∧ XV K C ∧ PySem.W.kitAny K (.ref C) (vs.map vv) = some p.2) ∧ PySem.W.kitAny K (.type "NoneType") (vs.map vv) = some false
noncomputable def isxD (tb : List (Str × Bool)) : D → Option Bool
  | .x c _ _ => tb.lookup c
  | .n => some false
  | _ => none
noncomputable def isxF (tb : List (Str × Bool)) (f : List Sl → Option Sl) (ρ : List Sl) : Option Sl := (f ρ).bind fun r => (isxD tb r.toD).map fun b => .sh (.b b)
section
variable {X : Cx} {pos p q : Pos} {a e : Expr}
private theorem inst_of {pins : List (Addr × Obj)} {σ : St} {F H : Hp} {s : Shared} {b C : Addr} {od : Option Addr} {ks : List Str} {us : List V} (I : L2.Inv X pins σ H s) (hs : Same F H) (h1 : F b = some (xoH b C od)) (h2 : XDc F od ks us) :
    ∃ ox odo, InstAt s.heap b ox C odo := by
  obtain ⟨vs, sl, g⟩ := xoH_get I.hok (hs _ _ h1)
  rcases h2 with ⟨_, _, rfl⟩ | ⟨d, rfl, hd, _⟩
  · exact ⟨_, none, ⟨g, rfl, rfl, trivial⟩⟩
  · obtain ⟨mA, nA, _⟩ := dcH_get I.hok (hs _ _ hd)
    obtain ⟨o, god, _⟩ := lookIn_ns nA
    exact ⟨_, some o, ⟨g, rfl, rfl, god⟩⟩
private theorem isx_ok {pins : List (Addr × Obj)} {σ : St} {H F : Hp} {s : Shared} {A : Around} {E : Value → Shared → Prop} {Q : Value → Shared → Prop} {cs : List Str} {tb : List (Str × Bool)} {vs : List V} {b : Bool} (I : L2.Inv X pins σ H s) (hs : Same F H) (hcv : ∀ v ∈ vs, isCV v = true)
    (h1 : ∀ p ∈ tb, ∃ C, PySem.W.nsIn X.K mainGlobals p.1 = some (some (.ref C)) ∧ XV X.K C ∧ PySem.W.kitAny X.K (.ref C) (vs.map vv) = some p.2) (h2 : PySem.W.kitAny X.K (.type "NoneType") (vs.map vv) = some false) :
    ∀ {d : D} {v : V} {u c : Value}, isxD tb d = some b → Den X.K F d v → RelV v u → (vs.map vv = [c] ∨ ∃ tp, c = .ref tp ∧ IsTup s.heap tp (vs.map vv).toArray) → (∀ tk, Q (.bool b) { s with toks := tk }) → wpAny (model X.prog X.w) A (call (.builtin "isinstance") [u, c]) Q E s := by
  intro d v u c e den r hc k
  have one : ∀ {t : Value}, vs.map vv = [c] → PySem.W.kitAny X.K t (vs.map vv) = some b → PySem.W.kitOne X.K t c = some b := fun {t} z q => by
    rw [z] at q
    unfold PySem.W.kitAny at q
    split at q
    · rename_i w; rw [w]; exact q
    · rename_i w
      unfold PySem.W.kitAny at q
      rw [w]; exact q
    · cases q
  have all : ∀ {t : Value} {P : Heap → Prop}, PySem.W.KitX X.K u t P → P s.heap → PySem.W.kitAny X.K t (vs.map vv) = some b → u ≠ .builtin "__main__.__loader__#opaque" → wpAny (model X.prog X.w) A (call (.builtin "isinstance") [u, c]) Q E s := fun {t P} Z hp hk hu => by
    rcases hc with z | ⟨tp, rfl, o, ho, hcl, n, hd⟩
    · exact PySem.W.kia_one Z I.kIn hp (one z hk) hu k
    · obtain ⟨c0, dd, dt, sl⟩ := o
      simp only at hcl hd
      subst hcl hd
      exact PySem.W.kia_tup Z I.kIn hp ho hk hu k
  cases d with
  | n =>
    cases (show v = V.non from den)
    cases r
    cases e
    exact all PySem.W.kitx_none True.intro h2 (fun z => nomatch z)
  | x c' ks ds =>
    obtain ⟨ad, C, od, us, rfl, q1, q2, q3, q4⟩ := den
    obtain rfl : u = Value.ref ad := r
    obtain ⟨C', q', xv, kk⟩ := h1 _ (lookup_mem e)
    simp only at q' kk
    rw [q1] at q'; cases q'
    exact all (kitx_exc xv.q xv.cl xv.ga xv.gt xv.ac xv.sp xv.tk xv.ob) (inst_of I hs q2 q3) kk (fun z => nomatch z)
  | _ => cases e
private theorem pe_cln {n : Str} {v : V} (h : ClN X.mg n v) (hg : Gl X n) (hd : (n == ("__debug__" : Str)) = false) : PE X (.Name n q) (tC v) := by
  rcases h with ⟨C, rfl, h⟩ | ⟨T, rfl, h1, h2, h3⟩
  · exact pe_glob hg h rfl hd
  · exact pe_bltn hg h1 h2 rfl h3 hd
noncomputable def rIx (X : Cx) (tb : List (Str × Bool)) (vs : List V) (tup : Bool) : List V → Hp → VK → Prop := fun xs H Q => ∃ F d v c b, Same F H ∧ xs = [v, c] ∧ Den X.K F d v ∧ isxD tb d = some b ∧ (if tup = true then ∃ tp, c = .ref tp ∧ SqT X.K H tp vs else vs = [c]) ∧ Q (.bl b) H
private theorem call_isx {cs : List Str} {tb : List (Str × Bool)} {vs : List V} {tup : Bool} (hcv : ∀ v ∈ vs, isCV v = true)
    (h1 : ∀ p ∈ tb, ∃ C, PySem.W.nsIn X.K mainGlobals p.1 = some (some (.ref C)) ∧ XV X.K C ∧ PySem.W.kitAny X.K (.ref C) (vs.map vv) = some p.2) (h2 : PySem.W.kitAny X.K (.type "NoneType") (vs.map vv) = some false) : CallR X (.builtin "isinstance") (rIx X tb vs tup) := by
  intro pins s σ H xs us Q I r q
  obtain ⟨F, d, v, c, b, hs, rfl, hd, e, hc, q⟩ := q
  obtain ⟨u, u', rfl, r1, r2⟩ := Vals.two r
  refine isx_ok (cs := cs) I hs hcv h1 h2 e hd r1 ?_ fun tk => ⟨.bl _, H, I.tok tk, rfl, q⟩
  cases tup with
  | false =>
    simp only [Bool.false_eq_true, if_false] at hc
    subst hc
    exact .inl (by rw [List.map_cons, List.map_nil, vv_rel (hcv _ List.mem_cons_self) r2])
  | true =>
    simp only [if_true] at hc
    obtain ⟨tp, rfl, sq⟩ := hc
    obtain rfl : u' = Value.ref tp := r2
    obtain ⟨its, rv, it, _⟩ := I.tuple sq
    rw [vv_rels hcv rv] at it
    exact .inr ⟨tp, rfl, it⟩
private theorem px_isx {n : Str} {tb : List (Str × Bool)} {f : List Sl → Option Sl} (it : IT X.K X.mg [n] tb) (ha : PX X a f) (hg : Gl X "isinstance") (hm : X.mg "isinstance" = none) (hgn : Gl X n) (hdb : autoParam ((n == ("__debug__" : Str)) = false) _root_.zt1)
    (he : autoParam (starEach [a, .Name n q] X.env = (false, eval a X.env) :: starEach [.Name n q] X.env) _root_.zt2) (he2 : autoParam (starEach [.Name n q] X.env = (false, eval (.Name n q) X.env) :: starEach [] X.env) _root_.zt2) (hpl : autoParam ((backTo pos (starEach [.Name n q] X.env)).any (·.1) = false) _root_.zt2) :
    PX X (.Call (.Name "isinstance" p) [a, .Name n q] [] pos) (isxF tb f) := by
  obtain ⟨vs, h0, h1, h2⟩ := it.ex
  have hcv := h0.cv
  cases h0 with
  | cons c1 c2 =>
  cases c2
  refine PE.imp (pe_callB (call_isx (cs := [n]) (tup := false) hcv h1 h2) hg hm boot_isinstance (pa_cons ha (pa_cons (pe_cln c1 hgn hdb) pa_nil he2) he) (by decide) (by decide) he hpl) fun σ H Q zq9 => ?_
  obtain ⟨F, ρ, r, R, e, k⟩ := zq9
  unfold isxF at e
  obtain ⟨r', e1, e⟩ := Option.bind_eq_some_iff.mp e
  obtain ⟨b, e2, rfl⟩ := Option.map_eq_some_iff.mp e
  refine ⟨F, ρ, r', R, e1, fun v F1 H1 g1 q1 => ?_⟩
  obtain ⟨F2, g2, s2, den⟩ := q1.den g1
  exact ⟨F2, r'.toD, v, _, b, g2.sub, rfl, den, e2, rfl, k _ F2 H1 g2 (.sh rfl)⟩
noncomputable def fldD : List Str → List D → Str → Option D
  | k :: ks, d :: ds, f => if k = f then some d else fldD ks ds f
  | _, _, _ => none
private theorem fldD_ok {K : PySem.W.Frag} {F : Hp} : ∀ {ks : List Str} {ds : List D} {us : List V} {f : Str} {d : D}, DenL K F ds us → fldD ks ds f = some d → ∃ u, (ks.zip us).lookup f = some u ∧ Den K F d u
  | [], _, _, _, _, _, e => by simp [fldD] at e
  | _ :: _, [], _, _, _, _, e => by simp [fldD] at e
  | k :: ks, d' :: ds, _, f, d, q, e => by
    obtain ⟨v, r, rfl, q1, q2⟩ := q
    by_cases z : k = f
    · simp only [fldD, if_pos z] at e
      cases e
      exact ⟨v, by rw [List.zip_cons_cons, List.lookup_cons, beq_iff_eq.mpr z.symm], q1⟩
    · simp only [fldD, if_neg z] at e
      obtain ⟨u, h1, h2⟩ := fldD_ok q2 e
      exact ⟨u, by rw [List.zip_cons_cons, List.lookup_cons, show (f == k) = false from beq_eq_false_iff_ne.mpr (Ne.symm z)]; exact h1, h2⟩
structure AT (K : PySem.W.Frag) (f : Str) (cs : List Str) : Prop where
  ex : ∀ c ∈ cs, ∃ C, PySem.W.nsIn K mainGlobals c = some (some (.ref C)) ∧ XV K C ∧ PySem.W.hasDictIn K C = true ∧ PySem.W.findIn K (.ref C) f = some none
noncomputable def fldX (cs : List Str) (f : Str) : D → Option Sl
  | .x c ks ds => if c ∈ cs then (fldD ks ds f).map .sh else none
  | _ => none
noncomputable def atF (cs : List Str) (f : Str) (g : List Sl → Option Sl) (ρ : List Sl) : Option Sl := (g ρ).bind fun r => fldX cs f r.toD
private theorem px_at {f : Str} {cs : List Str} {g : List Sl → Option Sl} (at_ : AT X.K f cs) (he : PX X e g) (hb : autoParam (attributeBase e f X.env (eval e X.env) = eval e X.env) _root_.zt2) : PX X (.Attribute e f pos) (atF cs f g) := by
  intro pins s σ H Q I zq9
  obtain ⟨F, ρ, r, R, e1, k⟩ := zq9
  unfold atF at e1
  obtain ⟨r', e2, e1⟩ := Option.bind_eq_some_iff.mp e1
  unfold fldX at e1
  split at e1
  · rename_i c ks ds hr
    split at e1
    · rename_i hc
      obtain ⟨d, e3, rfl⟩ := Option.map_eq_some_iff.mp e1
      refine attr_of hb (thn (he pins s σ H (fun v H1 => ∃ F1, Grow F H F1 H1 ∧ Den X.K F1 (.x c ks ds) v) I ⟨F, ρ, r', R, e2, fun v F1 H1 g1 q1 => ?_⟩) fun u s1 ⟨x, H1, I1, rx, F1, g1, den⟩ => ?_)
      · obtain ⟨F2, g2, s2, den⟩ := q1.den g1
        exact ⟨F2, g2, by rw [← hr]; exact den⟩
      · obtain ⟨a, C, od, us, rfl, q1, q2, q3, q4⟩ := den
        obtain rfl : u = Value.ref a := rx
        obtain ⟨C', q', xv, hd, hf⟩ := at_.ex c hc
        rw [q1] at q'; cases q'
        obtain ⟨w, lw, dw⟩ := fldD_ok q4 e3
        obtain ⟨vs, sl, ga⟩ := xoH_get I1.hok (g1.sub _ _ q2)
        rcases q3 with ⟨rfl, rfl, _⟩ | ⟨dd, rfl, hdd, _⟩
        · cases lw
        · obtain ⟨mA, nA, rA, _⟩ := dcH_get I1.hok (g1.sub _ _ hdd)
          obtain ⟨od, god, lod⟩ := lookIn_ns nA
          obtain ⟨uv, hu, ru⟩ := RelO.some_of (v := w) (o := mA f) (by rw [← lw]; exact rA f)
          have J : InstAt s1.heap a ⟨.ref C, some dd, .fields vs, sl⟩ C (some od) := ⟨ga, rfl, rfl, god⟩
          exact xget' I1.kIn xv.q J xv.ga xv.gt (PySem.W.findObj_own hd hf rfl (by rw [lod, hu])) (handed_of ru) fun t => ⟨w, H1, I1.tok t, ru, k w F1 H1 g1 (.sh dw)⟩
    · cases e1
  · cases e1
end
end L3
namespace L3
open PySem PySem.Spec L2
open PyProof.Rows hiding St

noncomputable def whileG (t : List Sl → Option Bool) (g : List Sl → Option Out) : Nat → List Sl → Option Out
  | 0, _ => none
  | n + 1, ρ => match t (vw ρ) with
    | some true => (match g ρ with
      | some (.nx ρ2) => whileG t g n ρ2
      | some (.ct ρ2) => whileG t g n ρ2
      | some (.bk ρ2) => some (.nx ρ2)
      | some (.rt r) => some (.rt r)
      | some (.ex x ρ2) => some (.ex x ρ2)
      | none => none)
    | some false => some (.nx ρ)
    | none => none
@[irreducible] noncomputable def turns : Nat := 1000000
private theorem turns_ge {n : Nat} (h : n ≤ 1000000) : n ≤ turns := by unfold turns; exact h
noncomputable def whileS (t : List Sl → Option Bool) (g : List Sl → Option Out) (ρ : List Sl) : Option Out := whileG t g turns ρ
private theorem q_while {X : Cx} {c : Expr} {body : List Stmt} {pos : Pos} {t : List Sl → Option Bool} {g : List Sl → Option Out} (hp : PassesOwn (model X.prog X.w) X.A X.env X.xe) (hc : PXt X c t) (hb : PQs X body g) : PQ X (.While c body [] pos) (whileS t g) :=
  PS.imp (ps_while hp hc hb) fun D' σ H zq9 => by
    obtain ⟨F₀, H₀, F, ρ, o, R, e, k⟩ := zq9
    refine ⟨fun m σ H => ∃ F ρ, RepS X.K F₀ H₀ F H σ ρ ∧ whileG t g m ρ = some o, ⟨turns, F, ρ, R, e⟩, ?_⟩
    rintro m σ H ⟨F, ρ, R, e⟩
    have nxt : ∀ {F' H' : Hp}, Grow (frzd σ ρ F H) H F' H' → RepS X.K F₀ H₀ F H' σ ρ := fun {F' H'} g => R.grow ⟨g.same, .refl _, R.rep.sub.trans g.same, fun _ e n => absurd e n⟩
    cases m with
    | zero => cases e
    | succ n =>
      unfold whileG at e
      split at e
      · rename_i e1
        refine ⟨_, vw ρ, true, R.rep.vw, e1, fun F1 H1 g1 => ?_⟩
        refine iteT ?_
        refine ⟨fun σ' H' => ∃ F ρ, RepS X.K F₀ H₀ F H' σ' ρ ∧ whileG t g n ρ = some o, fun σ' H' z => ⟨n, Nat.lt_succ_self n, z⟩, ?_⟩
        split at e
        · rename_i ρ2 e2
          exact ⟨F₀, H₀, F, ρ, .nx ρ2, nxt g1, e2, fun F3 H3 σ3 R3 => ⟨F3, ρ2, R3, e⟩⟩
        · rename_i ρ2 e2
          exact ⟨F₀, H₀, F, ρ, .ct ρ2, nxt g1, e2, fun F3 H3 σ3 R3 => ⟨F3, ρ2, R3, e⟩⟩
        · rename_i ρ2 e2
          cases e
          exact ⟨F₀, H₀, F, ρ, .bk ρ2, nxt g1, e2, k⟩
        · rename_i r e2
          cases e
          exact ⟨F₀, H₀, F, ρ, .rt r, nxt g1, e2, k⟩
        · rename_i x ρ2 e2
          cases e
          exact ⟨F₀, H₀, F, ρ, .ex x ρ2, nxt g1, e2, k⟩
        · cases e
      · rename_i e1
        cases e
        refine ⟨_, vw ρ, false, R.rep.vw, e1, fun F1 H1 g1 => ?_⟩
        refine iteF ?_
        exact k F H1 σ (nxt g1)
      · cases e
end L3
namespace L3
open PySem PySem.Spec L2
open PyProof.Rows hiding St

noncomputable def clsOf (K : PySem.W.Frag) (c : Str) : Option Addr := match PySem.W.nsIn K mainGlobals c with
  | some (some (.ref C)) => some C
  | _ => none
private theorem clsOf_ns {K : PySem.W.Frag} {c : Str} {C : Addr} (h : clsOf K c = some C) : PySem.W.nsIn K mainGlobals c = some (some (.ref C)) := by
  unfold clsOf at h
  split at h
  · rename_i q; cases h; exact q
  · cases h
noncomputable def xpB (K : PySem.W.Frag) (c : Str) : Bool := match clsOf K c with
  | some C => xnsIn K C && xclsIn K C && PySem.W.keepIn K (.ref C)
  | none => false
private theorem xp_of {K : PySem.W.Frag} {h : Heap} {mg : Str → Option Value} {c : Str} (X : K.In h) (G : h.Ns mainGlobals mg) (e : xpB K c = true) : XP K mg c := by
  unfold xpB at e
  split at e
  · rename_i C q
    simp only [Bool.and_eq_true] at e
    have ns := clsOf_ns q
    exact ⟨C, e.1.1, e.1.2, e.2, PySem.W.mg_of X G ns, ns⟩
  · cases e
noncomputable def xiB (K : PySem.W.Frag) (C fI : Addr) (fn : List Str) : Bool := xclsIn K C && PySem.W.typeIn K (.ref fI) == some (.type "function") && PySem.W.keepIn K (.ref C) && PySem.W.findIn K (.ref C) "__setattr__" == some (some (.builtin "object.__setattr__")) && xOver K C &&
  fn.all fun f => PySem.W.findIn K (.ref C) f == some none
private theorem xi_of {P : Program} {w : World} {K : PySem.W.Frag} {h : Heap} {mg : Str → Option Value} {base : Heap} {c : Str} {C fI : Addr} {fd : FuncData} {ps fn : List Str} (X : K.In h) (G : h.Ns mainGlobals mg) (a : PySem.W.nsIn K mainGlobals c = some (some (.ref C)))
    (i : PySem.W.findIn K (.ref C) "__init__" = some (some (.ref fI))) (b : xiB K C fI fn = true) (F : XCl K C → (∀ f ∈ fn, NoAttr K C f) → FnOk P w K mg base CX0 1 fI fd ps (spI C fn)) (bi : Binds K fd ps []) : XI P w K mg base c fn := by
  unfold xiB at b
  simp only [Bool.and_eq_true, beq_iff_eq, List.all_eq_true] at b
  obtain ⟨⟨⟨⟨⟨b1, b2⟩, b3⟩, b4⟩, b5⟩, b6⟩ := b
  exact ⟨C, fI, fd, ps, b1, i, b2, b3, F ⟨b4, b5⟩ b6, bi, PySem.W.mg_of X G a, a⟩
noncomputable def bltCls (n : Str) : Option String := if n = "ValueError" then some "ValueError" else if n = "Exception" then some "Exception" else if n = "KeyError" then some "KeyError" else if n = "TypeError" then some "TypeError" else if n = "IndexError" then some "IndexError" else none
private theorem bltCls_of {n : Str} {T : String} (h : bltCls n = some T) : bootBuiltins n = some (.type T) ∧ n ≠ "__name__" := by
  unfold bltCls at h
  split at h
  · rename_i z; cases h; subst z; exact ⟨by decide +kernel, by decide⟩
  · split at h
    · rename_i z; cases h; subst z; exact ⟨by decide +kernel, by decide⟩
    · split at h
      · rename_i z; cases h; subst z; exact ⟨by decide +kernel, by decide⟩
      · split at h
        · rename_i z; cases h; subst z; exact ⟨by decide +kernel, by decide⟩
        · split at h
          · rename_i z; cases h; subst z; exact ⟨by decide +kernel, by decide⟩
          · cases h
noncomputable def clV (K : PySem.W.Frag) (n : Str) : Option V := match PySem.W.nsIn K mainGlobals n with
  | some (some (.ref C)) => some (.ref C)
  | some none => (bltCls n).map .ty
  | _ => none
private theorem clV_of {K : PySem.W.Frag} {h : Heap} {mg : Str → Option Value} {n : Str} {v : V} (X : K.In h) (G : h.Ns mainGlobals mg) (e : clV K n = some v) : ClN mg n v := by
  unfold clV at e
  split at e
  · rename_i q; cases e; exact .inl ⟨_, rfl, PySem.W.mg_of X G q⟩
  · rename_i q
    obtain ⟨T, e1, rfl⟩ := Option.map_eq_some_iff.mp e
    exact .inr ⟨T, rfl, PySem.W.mg_none_of X G q, (bltCls_of e1).1, (bltCls_of e1).2⟩
  · cases e
noncomputable def clVs (K : PySem.W.Frag) : List Str → Option (List V)
  | [] => some []
  | n :: r => match clV K n, clVs K r with
    | some v, some vs => some (v :: vs)
    | _, _ => none
private theorem clVs_of {K : PySem.W.Frag} {h : Heap} {mg : Str → Option Value} (X : K.In h) (G : h.Ns mainGlobals mg) : ∀ {ns : List Str} {vs : List V}, clVs K ns = some vs → ClNs mg ns vs
  | [], _, e => by cases e; exact .nil
  | n :: r, _, e => by
    unfold clVs at e
    split at e
    · rename_i v vs e1 e2
      cases e
      exact .cons (clV_of X G e1) (clVs_of X G e2)
    · cases e
noncomputable def itB (K : PySem.W.Frag) (cs : List Str) (tb : List (Str × Bool)) : Bool := match clVs K cs with
  | some vs => (tb.all fun p => match clsOf K p.1 with
    | some C => xvB K C && PySem.W.kitAny K (.ref C) (vs.map vv) == some p.2
    | none => false) && PySem.W.kitAny K (.type "NoneType") (vs.map vv) == some false
  | none => false
private theorem it_of {K : PySem.W.Frag} {h : Heap} {mg : Str → Option Value} {cs : List Str} {tb : List (Str × Bool)} (X : K.In h) (G : h.Ns mainGlobals mg) (e : itB K cs tb = true) : IT K mg cs tb := by
  unfold itB at e
  split at e
  · rename_i vs q
    simp only [Bool.and_eq_true, beq_iff_eq, List.all_eq_true] at e
    refine ⟨vs, clVs_of X G q, fun p m => ?_, e.2⟩
    have z := e.1 p m
    split at z
    · rename_i C qc
      simp only [Bool.and_eq_true, beq_iff_eq] at z
      exact ⟨C, clsOf_ns qc, xv_of z.1, z.2⟩
    · cases z
  · cases e
noncomputable def xtB (K : PySem.W.Frag) (n : Str) (tb : List (Str × Bool)) : Bool := match clV K n with
  | some v => tb.all fun p => match clsOf K p.1 with
    | some C => PySem.W.exmOne K (.ref C) (vv v) == some p.2
    | none => false
  | none => false
private theorem xt_of {K : PySem.W.Frag} {h : Heap} {mg : Str → Option Value} {n : Str} {tb : List (Str × Bool)} (X : K.In h) (G : h.Ns mainGlobals mg) (e : xtB K n tb = true) : XT K mg n tb := by
  unfold xtB at e
  split at e
  · rename_i v q
    simp only [List.all_eq_true] at e
    refine ⟨vv v, ?_, fun p m => ?_⟩
    · rcases clV_of X G q with ⟨C, rfl, z⟩ | ⟨T, rfl, z1, z2, z3⟩
      · exact .inl z
      · exact .inr ⟨z1, z2, z3⟩
    · have z := e p m
      split at z
      · rename_i C qc
        exact ⟨C, clsOf_ns qc, beq_iff_eq.mp z⟩
      · cases z
  · cases e
noncomputable def atB (K : PySem.W.Frag) (f : Str) (cs : List Str) : Bool := cs.all fun c => match clsOf K c with
  | some C => xvB K C && PySem.W.hasDictIn K C && PySem.W.findIn K (.ref C) f == some none
  | none => false
private theorem at_of {K : PySem.W.Frag} {f : Str} {cs : List Str} (e : atB K f cs = true) : AT K f cs := by
  unfold atB at e
  simp only [List.all_eq_true] at e
  refine ⟨fun c m => ?_⟩
  have z := e c m
  split at z
  · rename_i C qc
    simp only [Bool.and_eq_true, beq_iff_eq] at z
    exact ⟨C, clsOf_ns qc, xv_of z.1.1, z.1.2, z.2⟩
  · cases z
end L3
namespace L3
open PySem PySem.Spec L2
open PyProof.Rows hiding St
open PySem.W (Looks)

section
variable {P : Program} {w : World} {K : PySem.W.Frag} {mg : Str → Option Value} {base : Heap}
end

section
variable {X : Cx} {c : Str} {p pos apos : Pos} {e o : Expr} {es : List Expr} {k : Nat}
section
variable {P : Program} {w : World} {K : PySem.W.Frag} {mg : Str → Option Value} {base : Heap}
end
end

end L3
namespace L3
open PySem PySem.Spec L2
open PyProof.Rows hiding St
open PySem.Builtin PySem.Builtin.Str

section
variable {X : Cx} {tg a b c e l : Expr} {es : List Expr} {pos p q : Pos}
variable {apos cpos p1 : Pos}
end
end L3
namespace L3
open PySem PySem.Spec L2
open PyProof.Rows hiding St
open PySem.SeqAt (EqAt)

private theorem vals_bools : ∀ {bs : List Bool} {us : List Value}, Vals (bs.map V.bl) us → us = bs.map Value.bool
  | [], _, .nil => rfl
  | b :: bs, _, .cons r q => by
    rw [List.map_cons, ← vals_bools q, show _ = Value.bool b from r]
private theorem boolsOf_den {K : PySem.W.Frag} {F : Hp} {ds : List D} {bs : List Bool} {vs : List V} (e : boolsOf ds = some bs) (q : DenL K F ds vs) : vs = bs.map V.bl := by
  rw [boolsOf_eq e] at q
  clear e
  induction bs generalizing vs with
  | nil => exact q
  | cons b bs ih =>
    obtain ⟨v, r, rfl, q1, q2⟩ := q
    rw [ih q2, show v = V.bl b from q1]; rfl
noncomputable def isB (x : Bool) : Value → Bool
  | .bool b => b == x
  | _ => false
noncomputable def cntB (ds : List D) : List D → Option Sl
  | [.b x] => (boolsOf ds).map fun bs => .sh (.i (bs.countP (· == x) : Nat))
  | _ => none
noncomputable def idxB (ds : List D) : List D → Option Sl
  | [.b x] => (boolsOf ds).bind fun bs => if bs.length < 1000 ∧ bs.findIdx (· == x) < bs.length then some (.sh (.i (bs.findIdx (· == x) : Nat))) else none
  | _ => none
noncomputable def mlF (h : List D → List D → Option Sl) (f : List Sl → Option Sl) (g : List Sl → Option (List D)) (ρ : List Sl) : Option Sl := (f ρ).bind fun r => match r.toD with
  | .l ds => (g ρ).bind (h ds)
  | _ => none
noncomputable def rMl (K : PySem.W.Frag) (h : List D → List D → Option Sl) : V → List V → Hp → VK → Prop := fun v us H Q => ∃ F a vs ds es d, v = .ref a ∧ Same F H ∧ SqL K F a vs ∧ DenL K F ds vs ∧ DenL K F es us ∧ h ds es = some (.sh d) ∧ ∀ u, Den K F d u → Q u H
section
variable {X : Cx}
private theorem mt_cnt : MtR X "list.count" (rMl X.K cntB) := by
  intro pins s σ H v us v' us' Q I r rs q
  obtain ⟨F, a, vs, ds, es, d, rfl, hs, z1, z2, z3, z4, k⟩ := q
  obtain rfl : v' = Value.ref a := r
  unfold cntB at z4
  split at z4
  · rename_i x
    obtain ⟨bs, e1, e2⟩ := Option.map_eq_some_iff.mp z4
    cases e2
    obtain ⟨u0, rfl, q0⟩ := den1 z3
    cases (show u0 = V.bl x from q0)
    obtain ⟨u', rfl, ru⟩ := vals1 rs
    cases (show u' = Value.bool x from ru)
    obtain ⟨its, rv, pl, _⟩ := I.list (hs.seq z1)
    rw [boolsOf_den e1 z2] at rv
    obtain ⟨o, ho, hc, n, hd⟩ := pl.isList
    obtain ⟨c0, dd, dt, sl⟩ := o
    simp only at hc hd
    subst hc hd
    have ei := vals_bools rv
    refine call_meets PySem.F.slot_list_count ⟨_, ho, rfl⟩ PySem.F.entry_list_count (PySem.F.args_list_count_2 _ _) (PySem.SeqAt.list_countAt a its.toArray n dd sl (.bool x) (isB x)) ⟨ho, fun y hy => ?_, ?_⟩
    · rw [ei] at hy
      obtain ⟨b, _, rfl⟩ : ∃ b, b ∈ bs ∧ Value.bool b = y := by simpa using hy
      exact EqAt.bool_bool b x
    · refine ⟨.int _, H, I.tok _, ⟨_, rfl⟩, ?_⟩
      have e3 : List.countP (isB x) its.toArray.toList = bs.countP (· == x) := by
        rw [ei, List.countP_map]; rfl
      rw [e3]
      exact k _ rfl
  · cases z4
private theorem findIdx_bool {bs : List Bool} {x : Bool} (h : bs.findIdx (· == x) < bs.length) : bs[bs.findIdx (· == x)]? = some x ∧ ∀ m, m < bs.findIdx (· == x) → ∀ b, bs[m]? = some b → (b == x) = false := by
  refine ⟨?_, fun m hm b hb => ?_⟩
  · have := List.findIdx_getElem (p := (· == x)) (xs := bs) (w := h)
    rw [List.getElem?_eq_getElem h]
    simp only [beq_iff_eq] at this
    rw [this]
  · have := List.not_of_lt_findIdx hm
    have hl : m < bs.length := (List.getElem?_eq_some_iff.mp hb).1
    have e := (List.getElem?_eq_some_iff.mp hb).2
    rw [e] at this
    simpa using this
private theorem mt_idx : MtR X "list.index" (rMl X.K idxB) := by
  intro pins s σ H v us v' us' Q I r rs q
  obtain ⟨F, a, vs, ds, es, d, rfl, hs, z1, z2, z3, z4, k⟩ := q
  obtain rfl : v' = Value.ref a := r
  unfold idxB at z4
  split at z4
  · rename_i x
    obtain ⟨bs, e1, e2⟩ := Option.bind_eq_some_iff.mp z4
    split at e2
    · rename_i hl
      cases e2
      obtain ⟨u0, rfl, q0⟩ := den1 z3
      cases (show u0 = V.bl x from q0)
      obtain ⟨u', rfl, ru⟩ := vals1 rs
      cases (show u' = Value.bool x from ru)
      obtain ⟨its, rv, pl, _⟩ := I.list (hs.seq z1)
      rw [boolsOf_den e1 z2] at rv
      obtain ⟨o, ho, hc, n, hd⟩ := pl.isList
      obtain ⟨c0, dd, dt, sl⟩ := o
      simp only at hc hd
      subst hc hd
      have ei := vals_bools rv
      subst ei
      obtain ⟨f1, f2⟩ := findIdx_bool hl.2
      have hj : bs.findIdx (· == x) < (bs.map Value.bool).toArray.size := by simpa using hl.2
      refine call_meets PySem.F.slot_list_index ⟨_, ho, rfl⟩ PySem.F.entry_list_index (PySem.F.args_list_index_2 _ _)
        (PySem.SeqAt.list_indexAt a (bs.map Value.bool).toArray n dd sl (.bool x) (isB x) (bs.findIdx (· == x)) hj (by have := hl.1; have := hl.2; omega) ?_ fun m hm h => ?_) ⟨ho, fun y hy => ?_, ?_⟩
      · have : (bs.map Value.bool).toArray[bs.findIdx (· == x)] = Value.bool x := by
          have g := (List.getElem?_eq_some_iff.mp f1).2
          simp [g]
        rw [this]; simp [isB]
      · have hm' : m < bs.length := by simpa using hm
        have := f2 m h bs[m] (List.getElem?_eq_getElem hm')
        have e : (bs.map Value.bool).toArray[m] = Value.bool bs[m] := by simp
        rw [e]; exact this
      · obtain ⟨b, _, rfl⟩ : ∃ b, b ∈ bs ∧ Value.bool b = y := by simpa using hy
        exact EqAt.bool_bool b x
      · exact ⟨.int _, H, I.tok _, ⟨_, rfl⟩, k _ rfl⟩
    · cases e2
  · cases z4
variable {o e : Expr} {apos cpos : Pos}
private theorem ml_imp {h : List D → List D → Option Sl} {f : List Sl → Option Sl} {g : List Sl → Option (List D)} (hd : ∀ ds es r, h ds es = some r → ∃ d, r = .sh d) (σ : St) (H : Hp) (Q : VK) (q : tX X.K (mlF h f g) σ H Q) : tBM X.K "list" (rMl X.K h) (tX X.K f) (tXs X.K g) σ H Q := by
  obtain ⟨F, ρ, r, R, e, k⟩ := q
  unfold mlF at e
  obtain ⟨r', e1, e⟩ := Option.bind_eq_some_iff.mp e
  split at e
  · rename_i ds hr
    obtain ⟨es, e2, e3⟩ := Option.bind_eq_some_iff.mp e
    obtain ⟨d, rfl⟩ := hd _ _ _ e3
    refine ⟨F, ρ, r', R, e1, fun v F1 H1 g1 q1 => ?_⟩
    obtain ⟨F2, g2, s2, den⟩ := q1.den g1
    rw [hr] at den
    obtain ⟨a, vs, rfl, z1, z2⟩ := den
    refine ⟨.inl ⟨rfl, _, g2.sub.seq z1⟩, F2, ρ, es, R.grow g2, e2, fun us F3 H3 g3 q3 => ?_⟩
    exact ⟨F3, a, vs, ds, es, d, rfl, g3.sub, g3.ff.seq z1, z2.mono g3.ff, q3, e3, fun u den => k u F3 H3 (g2.trans g3) (.sh den)⟩
  · cases e
private theorem cntB_sh {ds es : List D} {r : Sl} (h : cntB ds es = some r) : ∃ d, r = .sh d := by
  unfold cntB at h
  split at h
  · obtain ⟨bs, _, rfl⟩ := Option.map_eq_some_iff.mp h; exact ⟨_, rfl⟩
  · cases h
private theorem idxB_sh {ds es : List D} {r : Sl} (h : idxB ds es = some r) : ∃ d, r = .sh d := by
  unfold idxB at h
  split at h
  · obtain ⟨bs, _, h⟩ := Option.bind_eq_some_iff.mp h
    split at h
    · cases h; exact ⟨_, rfl⟩
    · cases h
  · cases h
private theorem px_count {f : List Sl → Option Sl} {g : List Sl → Option (List D)} (ho : PX X o f) (ha : PXs X [e] g) (hbase : autoParam (attributeBase o "count" X.env (eval o X.env) = eval o X.env) _root_.zt2)
    (hfew : autoParam (((backTo cpos (starEach [e] X.env)).all (fun x => !x.1) && (backToKw cpos (keywordEach [] X.env)).all (fun x => x.1.isSome) && decide (([e] : List Expr).length + ([] : List Keyword).length + (if ([] : List Keyword).isEmpty then 0 else 1) < 30)) = true) _root_.zt2)
    (hline : autoParam ((apos.endLine == cpos.line) = true) _root_.zt2) (hs : autoParam (starEach [e] X.env = (false, eval e X.env) :: starEach [] X.env) _root_.zt2) (hplain : autoParam ((backTo cpos (starEach [] X.env)).any (·.1) = false) _root_.zt2) :
    PX X (.Call (.Attribute o "count" apos) [e] [] cpos) (mlF cntB f g) :=
  PE.imp (pe_bm PySem.F.plainAttrs_list PySem.F.slot_list_count PySem.F.type_list_count mt_cnt ho ha hbase hfew hline hs hplain) (ml_imp fun _ _ _ => cntB_sh)
private theorem px_index {f : List Sl → Option Sl} {g : List Sl → Option (List D)} (ho : PX X o f) (ha : PXs X [e] g) (hbase : autoParam (attributeBase o "index" X.env (eval o X.env) = eval o X.env) _root_.zt2)
    (hfew : autoParam (((backTo cpos (starEach [e] X.env)).all (fun x => !x.1) && (backToKw cpos (keywordEach [] X.env)).all (fun x => x.1.isSome) && decide (([e] : List Expr).length + ([] : List Keyword).length + (if ([] : List Keyword).isEmpty then 0 else 1) < 30)) = true) _root_.zt2)
    (hline : autoParam ((apos.endLine == cpos.line) = true) _root_.zt2) (hs : autoParam (starEach [e] X.env = (false, eval e X.env) :: starEach [] X.env) _root_.zt2) (hplain : autoParam ((backTo cpos (starEach [] X.env)).any (·.1) = false) _root_.zt2) :
    PX X (.Call (.Attribute o "index" apos) [e] [] cpos) (mlF idxB f g) :=
  PE.imp (pe_bm PySem.F.plainAttrs_list PySem.F.slot_list_index PySem.F.type_list_index mt_idx ho ha hbase hfew hline hs hplain) (ml_imp fun _ _ _ => idxB_sh)

variable {es : List Expr} {p pos q : Pos}
end
end L3
namespace L3
open PySem PySem.Spec L2
open PyProof.Rows hiding St
section
variable {prog : Program} {w : World} {A : Around} {E : Value → Shared → Prop} {s : Shared}
private theorem cat_lists {l b : Addr} {vs ws : List Value} {Q : Value → Shared → Prop} (hl : s.heap.IsList l vs.toArray) (hb : s.heap.IsList b ws.toArray) (hsz : vs.length + ws.length ≤ sizeLine)
    (k : Q (.ref s.heap.objs.size) { s with heap := s.heap.push { cls := .type "list", data := .seq (vs ++ ws).toArray } }) : wpAny (model prog w) A (binaryOp .Add (.ref l) (.ref b)) Q E s := by
  obtain ⟨⟨c1, d1, x1, s1⟩, ho, hc, n, hd⟩ := id hl
  obtain ⟨⟨c2, d2, x2, s2⟩, ho2, hc2, n2, hd2⟩ := id hb
  simp only at hc hd hc2 hd2
  subst hc hd hc2 hd2
  have ea : vs.toArray ++ ws.toArray = (vs ++ ws).toArray := by simp
  rw [← ea] at k
  exact concat_meets ⟨_, ho, rfl⟩ ⟨_, ho2, rfl⟩ noFill_list_add seq_list_add PySem.F.slot_list_add PySem.F.entry_list_add (PySem.F.args_list_add_2 _ _) (list_addW l b vs.toArray ws.toArray n n2 d1 d2 s1 s2 (by simpa using hsz)) ⟨ho, ho2, k⟩
end
section
variable {X : Cx}
end
end L3
namespace L3
open PySem PySem.Spec L2
open PyProof.Rows hiding St
section
variable {X : Cx} {pos : Pos}
end
end L3
namespace L3
open PySem PySem.Spec L2
open PyProof.Rows hiding St
section
variable {prog : Program} {w : World} {A : Around} {E : Value → Shared → Prop} {s : Shared}
end
section
variable {X : Cx} {e : Expr} {pos p2 : Pos}
end
end L3
namespace L3
open PySem PySem.Spec L2
open PyProof.Rows hiding St
section
variable {prog : Program} {w : World} {A : Around} {E : Value → Shared → Prop} {s : Shared}
end
section
variable {X : Cx} {tg e : Expr} {es : List Expr} {pos p pos2 p2 : Pos}
end
end L3
namespace L3
open PySem PySem.Spec L2
open PyProof.Rows hiding St
end L3
namespace L3
open PySem PySem.Spec L2
open PyProof.Rows hiding St
section
variable {X : Cx}
end
end L3
namespace L3
open PySem PySem.Spec L2
open PyProof.Rows hiding St
private theorem vw_flat1 {r : Sl} (h : r.own = false) : r.vw = r := by cases r <;> first | rfl | cases h
private theorem vw_own1 {r : Sl} (h : r.own = true) : r.vw = .sh r.toD := by cases r <;> first | rfl | cases h
private theorem RepS.frz1 {K : PySem.W.Frag} {F₀ H₀ F H : Hp} {σ : St} {ρ : List Sl} {j : Nat} {r : Sl} (R : RepS K F₀ H₀ F H σ ρ) (hj : ρ[j]? = some r) : ∃ F', RepS K F₀ H₀ F' H σ (ρ.set j r.vw) := by
  have hlt : j < ρ.length := (List.getElem?_eq_some_iff.mp hj).1
  cases ho : r.own with
  | false =>
    refine ⟨F, ?_⟩
    rw [vw_flat1 ho, show ρ.set j r = ρ by
      obtain ⟨hl, e⟩ := List.getElem?_eq_some_iff.mp hj
      subst e
      exact List.set_getElem_self hl]
    exact R
  | true =>
    obtain ⟨v, h1, h2⟩ := R.rep.at_ j r hj (by intro z; subst z; cases ho)
    obtain ⟨p, o, rfl, q1, q2, q3⟩ := h2.ref ho
    have sF : Same F (upd F p o) := same_upd q2 o
    have old : ∀ {i : Nat} {r' : Sl}, (ρ.set j r.vw)[i]? = some r' → r'.own = true → i ≠ j ∧ ρ[i]? = some r' := fun {i r'} e o' => by
      by_cases z : i = j
      · subst z
        rw [List.getElem?_set_self hlt] at e
        cases e
        rw [Sl.vw_own] at o'; cases o'
      · rw [List.getElem?_set_ne (Ne.symm z)] at e
        exact ⟨z, e⟩
    have held : ∀ q, Held σ (ρ.set j r.vw) q → Held σ ρ q := fun q ⟨i, r', e, o', s⟩ => ⟨i, r', (old e o').2, o', s⟩
    refine ⟨upd F p o, ⟨⟨fun b u q => ?_, fun i r' e n => ?_, fun i i' r1 r2 q e1 e2 o1 o2 s1 s2 => ?_, by rw [List.length_set]; exact R.rep.len⟩, ⟨R.gr.same, R.gr.ff.trans sF, fun b u q => ?_, fun b e n => ?_⟩, fun q hq => R.fresh q (held q hq)⟩⟩
    · by_cases z : b = p
      · subst z; rw [upd_same] at q; rw [← q]; exact q1
      · rw [upd_ne z] at q; exact R.rep.sub _ _ q
    · by_cases z : i = j
      · subst z
        rw [List.getElem?_set_self hlt] at e
        cases e
        refine ⟨.ref p, h1, ?_⟩
        rw [vw_own1 ho]
        exact q3 _ sF upd_same
      · rw [List.getElem?_set_ne (Ne.symm z)] at e
        obtain ⟨v', w1, w2⟩ := R.rep.at_ i r' e n
        refine ⟨v', w1, ?_⟩
        cases r' with
        | un => exact w2
        | sh d => exact Den.mono sF w2
        | ac ds =>
          obtain ⟨p', vs, rfl, y1, y2, y3⟩ := w2
          have ne : p' ≠ p := fun zz => z (R.rep.apart i j _ _ p e hj rfl ho (by rw [w1, zz]) h1)
          exact ⟨p', vs, rfl, y1, by rw [upd_ne ne]; exact y2, y3.mono sF⟩
        | ad ks ds =>
          obtain ⟨p', vs, rfl, y1, y2, y3, y4⟩ := w2
          have ne : p' ≠ p := fun zz => z (R.rep.apart i j _ _ p e hj rfl ho (by rw [w1, zz]) h1)
          exact ⟨p', vs, rfl, y1, by rw [upd_ne ne]; exact y2, y3, y4.mono sF⟩
    · exact R.rep.apart i i' r1 r2 q (old e1 o1).2 (old e2 o2).2 o1 o2 s1 s2
    · by_cases z : b = p
      · subst z; rw [upd_same] at q; rw [← q]; exact q1
      · rw [upd_ne z] at q; exact R.rep.sub _ _ q
    · by_cases z : b = p
      · subst z
        exact R.fresh b ⟨j, r, hj, ho, h1⟩
      · rw [upd_ne z] at n; exact R.gr.new b e n
noncomputable def frzG (j : Nat) (g : List Sl → Option Out) (ρ : List Sl) : Option Out := match ρ[j]? with
  | some r => g (ρ.set j r.vw)
  | none => none
private theorem q_frz {X : Cx} {st : Stmt} {j : Nat} {g : List Sl → Option Out} (h : PQ X st g) : PQ X st (frzG j g) := PS.imp h fun D σ H zq9 => by
  obtain ⟨F₀, H₀, F, ρ, o, R, e, k⟩ := zq9
  unfold frzG at e
  split at e
  · rename_i r hj
    obtain ⟨F', R'⟩ := R.frz1 hj
    exact ⟨F₀, H₀, F', _, o, R', e, k⟩
  · cases e
end L3
namespace L3
open PySem PySem.Spec L2
open PyProof.Rows hiding St
open PySem.Builtin PySem.Builtin.Str
section
variable {prog : Program} {w : World} {A : Around} {E : Value → Shared → Prop} {s : Shared}
open AutoSeq1 (wpAny_loadPart')
open AutoSeq1 (wpAny_loadPart')
end
section
variable {X : Cx} {e l : Expr} {pos p p2 lp lpos : Pos}
end
noncomputable def parG (i j : Nat) (g : List Sl → Option (List D)) (ρ : List Sl) : Option Out := match g (er ρ) with
  | some [a, b] => some (.nx ((ρ.set i (.sh a)).set j (.sh b)))
  | _ => match g (vw ρ) with
    | some [a, b] => some (.nx (((vw ρ).set i (.sh a)).set j (.sh b)))
    | _ => none
private theorem DenL.two {K : PySem.W.Frag} {F : Hp} {a b : D} {vs : List V} (h : DenL K F [a, b] vs) : ∃ v w, vs = [v, w] ∧ Den K F a v ∧ Den K F b w := by
  obtain ⟨v, r, rfl, q1, w, r2, rfl, q2, rfl⟩ := h
  exact ⟨v, w, rfl, q1, q2⟩
private theorem q_par {X : Cx} {i j : Nat} {x y : Str} {a b : Expr} {g : List Sl → Option (List D)} {px py pt pos : Pos} {kt k2 pt2} (hc : X.calm = true) (hN : X.N.Nodup) (hi : X.N[i]? = some x) (hj : X.N[j]? = some y) (hij : i ≠ j)
    (hx : X.env.scope.names.lookup x = some .local) (hy : X.env.scope.names.lookup y = some .local) (ha : PXs X [a, b] g)
    (hw : swappedStores [.Tuple [.Name x px, .Name y py] kt pt] (.Tuple [a, b] k2 pt2) X.env = pure (some [x, y]))
    (hs : autoParam (swapsWithSole [.Tuple [.Name x px, .Name y py] kt pt] (.Tuple [a, b] k2 pt2) pos.line X.env = pure false) _root_.zt2) :
    PQ X (.Assign [.Tuple [.Name x px, .Name y py] kt pt] (.Tuple [a, b] k2 pt2) pos) (parG i j g) :=
  PS.imp (ps_par hc hN hi hj hij hx hy ha hw hs) fun D σ H zq9 => by
    obtain ⟨F₀, H₀, F, ρ, o, R, e, k⟩ := zq9
    have go : ∀ {F1 H1 F' H' : Hp} {ρ1 : List Sl} {d1 d2 : L3.D} {vs : List V}, RepS X.K F₀ H₀ F1 H' σ ρ1 → F' = F1 → DenL X.K F' [d1, d2] vs → (∀ F H σ, RepS X.K F₀ H₀ F H σ ((ρ1.set i (.sh d1)).set j (.sh d2)) → D.nx σ H) → ∃ v w, vs = [v, w] ∧ D.nx ((σ.set i (some v)).set j (some w)) H' := fun {F1 H1 F' H' ρ1 d1 d2 vs} R1 hF q k => by
      subst hF
      obtain ⟨v, w, rfl, q1, q2⟩ := q.two
      exact ⟨v, w, rfl, k _ _ _ ((R1.store (r := .sh d1) q1 fun o => by cases o).store (r := .sh d2) q2 fun o => by cases o)⟩
    unfold parG at e
    split at e
    · rename_i d1 d2 e1
      cases e
      exact ⟨F, er ρ, _, R.rep.er, e1, fun vs F1 H1 g1 q1 => go (H1 := H1) (R.grow g1) rfl q1 k⟩
    · split at e
      · rename_i d1 d2 e1
        cases e
        exact ⟨_, vw ρ, _, R.rep.vw, e1, fun vs F1 H1 g1 q1 => go (H1 := H1) (R.frozen.grow g1) rfl q1 k⟩
      · cases e
structure FnOkS (P : Program) (w : World) (K : PySem.W.Frag) (mg : Str → Option Value) (base : Heap) (k : Nat) (f : Addr) (fd : FuncData) (ps : List Str) (h : List D → Option Sl) : Prop where
  len : ∀ vs H Q, rCX K h vs H Q → vs.length = ps.length
  run : ∀ (A : Around) (ev : Value) (outer : List Env) (s : Shared) (H : Hp) (args : Args) (us : List Value) (vs : List V) (Q : VK), Room k A → Env0 P w K mg base (A.mark (some ev)) outer s H → BindsTo s fd args (ps.zip us) → Vals vs us → rCX K h vs H Q →
    codeAny (model P w) (A.mark (some ev)) (.call (.ref f) args) (CR CX0 outer P w H s Q E0) s
noncomputable def FXS (P : Program) (w : World) (K : PySem.W.Frag) (mg : Str → Option Value) (base : Heap) (k : Nat) (x : Str) (ps : List Str) (h : List D → Option Sl) : Prop :=
  ∃ f fd, FnOkS P w K mg base k f fd ps h ∧ Binds K fd ps [] ∧ PySem.W.keepIn K (.ref f) = true ∧ mg x = some (.ref f)
section
variable {P : Program} {w : World} {K : PySem.W.Frag} {mg : Str → Option Value} {base : Heap}
private theorem fn_okS {x qual : Str} {st : Stmt} {f : Addr} {fd : FuncData} {N ps : List Str} {k a n : Nat} {g : List Sl → Option Out} (F : Fun K x qual st f fd) (S : FnScope N ps (defScope st)) (ha : ps.length = a) (hn : N.length = n)
    (hb : ∀ (ev cdv : Value) (A : Around) (outer : List Env) (s : Shared) (H : Hp) (E : XK), Room k (A.deeper (envOfC qual (defScope st) s.heap.objs.size f cdv)) →
      PQs (suite (cxOf (CX1 P w) P w K mg base N qual (defScope st) f cdv A outer s H E) ev) (defBody st) g) : FnOkS P w K mg base (k + 1) f fd ps (fnF a n g) := by
  subst ha hn
  have ln : ∀ vs H Q, rCX K (fnF ps.length N.length g) vs H Q → vs.length = ps.length := by
    rintro vs H Q ⟨F, ds, r, hs, hd, e, _⟩
    unfold fnF at e
    split at e
    · rename_i hl; rw [← hd.length]; exact hl
    · cases e
  obtain ⟨oc, od, kV, doc, pm, an, cdv, ct, osl, rfl, lk, hcd⟩ := F.ex
  refine ⟨ln, ?_⟩
  intro A ev outer s H args us vs Q hr en bd rl sp
  have vl := ln _ _ _ sp
  have kin := en.mod.kin.keeps fun b o z => (en.bs b o z).1
  have nol := en.mod.nolimit.keeps fun b o z => (en.bs b o z).1
  have kinds : ∀ y ∈ ps.zip us, (defScope st).names.lookup y.1 = some .local ∨ ((defScope st).names.lookup y.1 = some .cell ∧ ((cellsFrom (s.heap.objs.size + 1) (defScope st).names []).lookup y.1).isSome = true) := by
    rintro ⟨m, v⟩ hy
    exact (S.par m (List.of_mem_zip hy).1).imp id fun q => ⟨q, PySem.W.cellsFrom_some _ _ _ (.inl q)⟩
  refine codeAny_call_function (A := A.mark (some ev)) hr.depth (kin _ _ lk) rfl S.co S.gen rfl (PySem.W.codeRec_of kin hcd) (bd _ _ _ _ ?_)
  refine wpAny_newFunctionEnv_cells S.kind kinds ?_
  rintro env rfl s1 x
  refine ⟨nol.keeps x.toInCall.keep, codeAny_func ?_⟩
  have en' : Env0 P w K mg base A outer s H := ⟨en.frames, en.mod, en.bs, en.bsz, en.funs, en.frf, en.hok, en.bare⟩
  have I : L2.Inv (cxOf (CX1 P w) P w K mg base N qual (defScope st) f cdv A outer s H E0) [] (start N vs) H s1 := inv_start S hr.hd en' vl rl x
  have body := hb ev cdv A outer s H E0 (hr.deeper _)
  obtain ⟨F1, ds, r, hs, hd, e, k⟩ := sp
  have fin : ∀ {σ' : St} {H' : Hp} {v : V} {u : Value} {s' : Shared}, L2.Inv (suite (cxOf (CX1 P w) P w K mg base N qual (defScope st) f cdv A outer s H E0) ev) [] σ' H' s' → RelV v u → Q v H' → CE outer P w H s Q u s' :=
    fun {σ' H' v u s'} J rv q => ⟨v, H', J.os, J.bare, J.base, J.hok, rv, q⟩
  unfold fnF at e
  split at e
  · rename_i hl
    rw [← hl] at e
    split at e
    · rename_i r' e1
      cases e
      refine wpAny_mono (body [] s1 (start N vs) H { nx := fun _ H' => Q .non H', rt := Q } (Inv.toSuite I) ⟨F1, H, F1, _, _, repS_start hs hd, e1, fun v F' H' g q => k v F' H' g q⟩) (fun fl s' z => ?_) fun e s' z => z.elim
      cases fl with
      | ret u => obtain ⟨v, σ', H', J, rv, q⟩ := z; exact fin J rv q
      | next => obtain ⟨σ', H', J, q⟩ := z; exact fin (v := V.non) (u := Value.none) J rfl q
      | brk => obtain ⟨_, _, _, q⟩ := z; exact q.elim
      | cont => obtain ⟨_, _, _, q⟩ := z; exact q.elim
    · rename_i ρ' e1
      cases e
      refine wpAny_mono (body [] s1 (start N vs) H { nx := fun _ H' => Q .non H', rt := Q } (Inv.toSuite I) ⟨F1, H, F1, _, _, repS_start hs hd, e1, fun F' H' σ' R => k .non F' H' R.gr (.sh rfl)⟩) (fun fl s' z => ?_) fun e s' z => z.elim
      cases fl with
      | ret u => obtain ⟨v, σ', H', J, rv, q⟩ := z; exact fin J rv q
      | next => obtain ⟨σ', H', J, q⟩ := z; exact fin (v := V.non) (u := Value.none) J rfl q
      | brk => obtain ⟨_, _, _, q⟩ := z; exact q.elim
      | cont => obtain ⟨_, _, _, q⟩ := z; exact q.elim
    · cases e
  · cases e
private theorem FD.okS {x : Str} {st : Stmt} {N ps : List Str} {k a n : Nat} {g : List Sl → Option Out} (F : FD K mg x st ps) (S : FnScope N ps (defScope st)) (ha : ps.length = a) (hn : N.length = n)
    (hb : ∀ {f : Addr} (ev cdv : Value) (A : Around) (outer : List Env) (s : Shared) (H : Hp) (E : XK), Room k (A.deeper (envOfC x (defScope st) s.heap.objs.size f cdv)) →
      PQs (suite (cxOf (CX1 P w) P w K mg base N x (defScope st) f cdv A outer s H E) ev) (defBody st) g) : FXS P w K mg base (k + 1) x ps (fnF a n g) := by
  obtain ⟨f, fd, F, b, m⟩ := F
  exact ⟨f, fd, fn_okS F S ha hn fun ev cdv A outer s H E hr => hb ev cdv A outer s H E hr, b, F.kp, m⟩
end
section
variable {X : Cx} {ev : Value} {x : Str} {p pos : Pos} {e : Expr} {es : List Expr} {h : List D → Option Sl} {g : List Sl → Option (List D)} {k : Nat} {ps : List Str}
private theorem px_fxS {j : Nat} (F : FXS X.prog X.w X.K X.mg X.base j x ps h) (hj : j ≤ k) (hr : Room k X.A) (hg : Gl (suite X ev) x) (ha : PXs (suite X ev) (e :: es) g) (hdb : autoParam ((x == ("__debug__" : Str)) = false) _root_.zt1) (he : autoParam (starEach (e :: es) (suite X ev).env = (false, eval e (suite X ev).env) :: starEach es (suite X ev).env) _root_.zt2)
    (hpl : autoParam ((backTo pos (starEach es (suite X ev).env)).any (·.1) = false) _root_.zt2) : PX (suite X ev) (.Call (.Name x p) (e :: es) [] pos) (callF h g) := by
  obtain ⟨f, fd, h1, h2, h3, h4⟩ := F
  intro pins s σ H Q I zq9
  obtain ⟨F, ρ, r, R, e1, kx⟩ := zq9
  unfold callF at e1
  obtain ⟨ds, e2, e3⟩ := Option.bind_eq_some_iff.mp e1
  refine wpAny_Call_Name_kw (ld_glob I hg h4 ?_ hdb)
  refine PySem.W.callWith_K (h₀ := X.base) I.ok.mod.kin h3 (thn (ha pos pins s σ H (fun vs H1 => ∃ F1, Grow F H F1 H1 ∧ DenL X.K F1 ds vs) I ⟨F, ρ, ds, R, e2, fun vs F1 H1 g1 q1 => ⟨F1, g1, q1⟩⟩) fun us s1 ⟨vs, H1, I1, r, F1, g1, q1⟩ => ⟨I1.kIn, ?_⟩) he hpl
  have sp : rCX X.K h (vs ++ []) H1 Q := ⟨F1, ds, _, g1.sub, by rw [List.append_nil]; exact q1, e3, fun v F2 H2 g2 q2 => kx v F2 H2 (g1.trans g2) (Res.weak g1.same q2)⟩
  have r2 : Vals (vs ++ []) (us ++ []) := r.append .nil
  have hl : (us ++ []).length = ps.length := by rw [← r2.length]; exact h1.len _ _ _ sp
  refine wpAny_call (codeAny_mono (h1.run X.A ev X.stack s1 H1 ⟨us, []⟩ (us ++ []) (vs ++ []) Q (hr.mono hj) I1.env0 (h2 s1 us I1.kIn hl) r2 sp) fun r s' hq => ?_)
  cases r with
  | error v => exact hq.elim
  | ok fl =>
    cases fl with
    | ret u => exact I1.after hq
    | next => exact False.elim hq
    | brk => exact False.elim hq
    | cont => exact False.elim hq
end
end L3
namespace L3
open PySem PySem.Spec L2
open PyProof.Rows hiding St
section
variable {X : Cx}
end
open AutoSeq1 (wpAny_loadPart')
section
variable {prog : Program} {w : World} {A : Around} {E : Value → Shared → Prop} {s : Shared}
noncomputable abbrev T3 := Int × Int × Int
end
section
variable {X : Cx}
end
end L3
namespace L3
open PySem PySem.Spec L2
open PyProof.Rows hiding St
section
variable {X : Cx} {pos : Pos}
noncomputable def addL (d1 d2 : D) : Option Sl := match d1, d2 with
  | .l xs, .l ys => if xs.length + ys.length ≤ 10000000 then some (.ac (xs ++ ys)) else none
  | _, _ => none
private theorem ox_addL : OpR X (binaryOp .Add) (rX X.K addL) := by
  intro pins s σ H x y v u Q I rx ry q
  obtain ⟨F, d1, d2, r, hs, h1, h2, e, k⟩ := q
  unfold addL at e
  split at e
  · rename_i xs ys
    split at e
    · rename_i hz
      cases e
      obtain ⟨p, vs, rfl, z1, z2⟩ := h1
      obtain ⟨p', vs', rfl, y1, y2⟩ := h2
      cases rx
      cases ry
      obtain ⟨its, r1, q1, _⟩ := I.list (hs.seq z1)
      obtain ⟨jts, r2, q2, _⟩ := I.list (hs.seq y1)
      have l1 := z2.length
      have l2 := y2.length
      have m1 := r1.length
      have m2 := r2.length
      have hsz : its.length + jts.length ≤ sizeLine := by rw [sizeLine_eq]; omega
      refine cat_lists q1.isList q2.isList hsz ⟨.ref _, _, I.lnew (t' := s.toks) (r1.append r2) (by rw [List.length_append]; omega), rfl, ?_⟩
      have g := Grow.own hs I.fresh (.lst (vs ++ vs'))
      refine k _ F _ g ⟨⟨_, _, rfl, upd_same, hs.free I.fresh, z2.append y2⟩, fun _ p' e' => ?_⟩
      cases e'
      exact I.fresh
    · cases e
  · cases e
private theorem addL_l {xs ys : List D} (h : xs.length + ys.length ≤ 10000000) : addL (.l xs) (.l ys) = some (.ac (xs ++ ys)) := by
  show (if _ then _ else _) = _
  rw [if_pos h]
private theorem boolsOf_vals {K : PySem.W.Frag} {F : Hp} : ∀ {ds : List D} {bs : List Bool} {vs : List V}, boolsOf ds = some bs → DenL K F ds vs → vs = bs.map V.bl
  | [], _, _, h, d => by cases h; exact d
  | .b x :: ds, ns, _, h, d => by
    obtain ⟨m, h1, rfl⟩ := Option.map_eq_some_iff.mp h
    obtain ⟨v, r, rfl, q1, q2⟩ := d
    rw [boolsOf_vals h1 q2, show v = .bl x from q1]; rfl
private theorem inV_bools (n : Bool) : ∀ ns : List Bool, inV (.bl n) (ns.map V.bl) = ns.contains n
  | [] => rfl
  | m :: r => by
    have ih := inV_bools n r
    unfold inV at *
    rw [List.map_cons, List.any_cons, ih, List.contains_cons, Bool.beq_comm]
    cases m <;> cases n <;> rfl
private theorem flat_bools : ∀ ns : List Bool, (ns.map V.bl).all flatV = true
  | [] => rfl
  | _ :: r => by rw [List.map_cons, List.all_cons, flat_bools r]; rfl
noncomputable def inB (d1 d2 : D) : Option Sl := match d1, d2 with
  | .b x, .l ds => (boolsOf ds).map fun bs => .sh (.b (bs.contains x))
  | _, _ => none
private theorem ox_inB : OpR X (compareOp .In) (rX X.K inB) := by
  intro pins s σ H x y v u Q I rx ry q
  obtain ⟨F, d1, d2, r, hs, h1, h2, e, k⟩ := q
  unfold inB at e
  split at e
  · rename_i n ds
    obtain ⟨ns, hn, rfl⟩ := Option.map_eq_some_iff.mp e
    obtain ⟨a, vs, rfl, z1, z2⟩ := h2
    cases boolsOf_vals hn z2
    cases (show x = .bl n from h1)
    refine op_in_seq pins s σ H _ _ v u Q I rx ry ⟨a, _, rfl, .inl (hs.seq z1), rfl, flat_bools ns, ?_⟩
    rw [if_neg (by decide), inV_bools]
    exact k _ F H (.refl hs) (.sh rfl)
  · cases e
end
end L3
namespace L3
open PySem L2

private theorem log2_of {a : Int} {n k : Nat} (h : a.natAbs < 2 ^ n) (hn : n ≤ k) (hk : 0 < k) : a.natAbs.log2 < k := by
  by_cases z : a.natAbs = 0
  · rw [z]; simpa using hk
  · exact Nat.lt_of_lt_of_le ((Nat.log2_lt z).mpr h) hn
private theorem fdivD_big {a b : Int} (h : 0 < b) (hb : b.natAbs < 2 ^ 9000) : fdivD (.i a) (.i b) = some (.sh (.i (a / b))) := by
  show (if _ then _ else _) = _
  rw [if_pos]
  exact decide_eq_true ⟨h, log2_of hb (Nat.le_refl _) (by decide)⟩
private theorem pow200 : (1606938044258990275541962092341162602522202993782792835301376 : Nat) = 2 ^ 200 := by decide +kernel
private theorem nat200 {a : Int} (h : -1606938044258990275541962092341162602522202993782792835301376 < a ∧ a < 1606938044258990275541962092341162602522202993782792835301376) : a.natAbs < 2 ^ 200 := by
  rw [← pow200]; omega
private theorem mulD_i {a b : Int} (h : (-18446744073709551616 < a ∧ a < 18446744073709551616) ∨ (-18446744073709551616 < b ∧ b < 18446744073709551616) ∨
    ((-1606938044258990275541962092341162602522202993782792835301376 < a ∧ a < 1606938044258990275541962092341162602522202993782792835301376) ∧ (-1606938044258990275541962092341162602522202993782792835301376 < b ∧ b < 1606938044258990275541962092341162602522202993782792835301376))) :
    mulD (.i a) (.i b) = some (.sh (.i (a * b))) := by
  show (if _ then _ else _) = _
  rw [if_pos]
  rw [Bool.or_eq_true]
  rcases h with h | h | ⟨h, h'⟩
  · exact .inl (decide_eq_true (.inl h))
  · exact .inl (decide_eq_true (.inr h))
  · exact .inr (decide_eq_true ⟨log2_of (nat200 h) (by decide) (by decide), log2_of (nat200 h') (by decide) (by decide)⟩)
private theorem mulD_r {a b : Int} (h : -18446744073709551616 < b ∧ b < 18446744073709551616) : mulD (.i a) (.i b) = some (.sh (.i (a * b))) := mulD_i (.inr (.inl h))
private theorem mulD_l {a b : Int} (h : -18446744073709551616 < a ∧ a < 18446744073709551616) : mulD (.i a) (.i b) = some (.sh (.i (a * b))) := mulD_i (.inl h)
private theorem fdivD_i {a b : Int} (h : 0 < b ∧ b < 1606938044258990275541962092341162602522202993782792835301376) : fdivD (.i a) (.i b) = some (.sh (.i (a / b))) := by
  show (if _ then _ else _) = _
  rw [if_pos]
  exact decide_eq_true ⟨h.1, log2_of (nat200 ⟨by omega, h.2⟩) (by decide) (by decide)⟩
private theorem fdivD_s {a b : Int} (h : 0 < b ∧ b < 18446744073709551616) : fdivD (.i a) (.i b) = some (.sh (.i (a / b))) := fdivD_i ⟨h.1, by omega⟩
private theorem modD_i {a b : Int} (h : 0 < b) : modD (.i a) (.i b) = some (.sh (.i (a % b))) := by
  show (if _ then _ else _) = _
  rw [if_pos]
  exact decide_eq_true h
private theorem powD_i {a b : Int} (h : 0 ≤ b ∧ b ≤ 1000000) (h2 : a.natAbs < 18446744073709551616) : powD (.i a) (.i b) = some (.sh (.i (a ^ b.toNat))) := by
  show (if _ then _ else _) = _
  rw [if_pos]
  exact decide_eq_true ⟨h.1, h.2, h2⟩
private theorem addI_i {a b : Int} : addI (.i a) (.i b) = some (.sh (.i (a + b))) := rfl
private theorem subD_i {a b : Int} : subD (.i a) (.i b) = some (.sh (.i (a - b))) := rfl
private theorem ltD_i {a b : Int} : ltD (.i a) (.i b) = some (.sh (.b (decide (a < b)))) := rfl
private theorem gtD_i {a b : Int} : gtD (.i a) (.i b) = some (.sh (.b (decide (b < a)))) := rfl
private theorem eqO_i {a b : Int} : eqO (.i a) (.i b) = some (.sh (.b (a == b))) := rfl
private theorem neO_i {a b : Int} : neO (.i a) (.i b) = some (.sh (.b (!(a == b)))) := rfl
private theorem okEs_all {n : Nat} : ∀ {ds : List D}, (∀ d ∈ ds, okE n d = true) → okEs n ds = true
  | [], _ => by simp [okEs]
  | d :: ds, h => by
    rw [okEs, h d (List.mem_cons_self ..), okEs_all fun e he => h e (List.mem_cons_of_mem _ he)]; rfl
private theorem ixA_ints {ns : List Int} {k : Int} (h0 : 0 ≤ k) (h1 : k < ns.length) : ixA (.l (ns.map D.i)) (.i k) = some (.sh (.i (ns.getD k.toNat 0))) := by
  have hk : k.toNat < ns.length := by omega
  have e : atI (ns.map D.i) k = some (.i (ns.getD k.toNat 0)) := by
    have := atI_nat (xs := ns.map D.i) (j := k.toNat) (v := .i (ns.getD k.toNat 0)) (by rw [List.getElem?_map, List.getElem?_eq_getElem hk, List.getD_eq_getElem?_getD, List.getElem?_eq_getElem hk]; rfl)
    rw [show ((k.toNat : Nat) : Int) = k by omega] at this
    exact this
  show (atI _ k).map Sl.sh = _
  rw [e]; rfl
private theorem ixA_l2i {a b k : Int} (h : k = 0 ∨ k = 1) : ixA (.l [.i a, .i b]) (.i k) = some (.sh (.i (if k = 0 then a else b))) := by
  rcases h with rfl | rfl <;> rfl
private theorem eqO_t2 {a b c d : Int} : eqO (.t [.i a, .i b]) (.t [.i c, .i d]) = some (.sh (.b (a == c && b == d))) := by
  unfold eqO
  have e1 : ∀ x y : Int, okE 60 (.t [.i x, .i y]) = true := fun x y => by simp [okE, okEs]
  have e2 : eqD (.t [.i a, .i b]) (.t [.i c, .i d]) = (a == c && b == d) := by simp [eqD, eqDs]
  rw [e1, e1, e2]; rfl
private theorem ixA_t4_0 {a b c d : D} : ixA (.t [a, b, c, d]) (.i 0) = some (.sh a) := rfl
private theorem ixA_t4_1 {a b c d : D} : ixA (.t [a, b, c, d]) (.i 1) = some (.sh b) := rfl
private theorem ixA_t4_2 {a b c d : D} : ixA (.t [a, b, c, d]) (.i 2) = some (.sh c) := rfl
private theorem ixA_t4_3 {a b c d : D} : ixA (.t [a, b, c, d]) (.i 3) = some (.sh d) := rfl
private theorem ixA_t2_0 {a b : D} : ixA (.t [a, b]) (.i 0) = some (.sh a) := rfl
private theorem ixA_t2_1 {a b : D} : ixA (.t [a, b]) (.i 1) = some (.sh b) := rfl
private theorem toD_sh {d : D} : (Sl.sh d).toD = d := rfl
private theorem toD_ac {ds : List D} : (Sl.ac ds).toD = .l ds := rfl
private theorem toD_ad {ks : List Key} {ds : List D} : (Sl.ad ks ds).toD = .d ks ds := rfl
private theorem er_sh {d : D} : (Sl.sh d).er = .sh d := rfl
private theorem er_un : Sl.un.er = .un := rfl
private theorem er_ac {ds : List D} : (Sl.ac ds).er = .un := rfl
private theorem er_ad {ks : List Key} {ds : List D} : (Sl.ad ks ds).er = .un := rfl
private theorem vw_sh {d : D} : (Sl.sh d).vw = .sh d := rfl
private theorem vw_un : Sl.un.vw = .un := rfl
private theorem vw_ac {ds : List D} : (Sl.ac ds).vw = .sh (.l ds) := rfl
private theorem vw_ad {ks : List Key} {ds : List D} : (Sl.ad ks ds).vw = .sh (.d ks ds) := rfl
private theorem minB_i {x y : Int} : minB [.i x, .i y] = some (.sh (.i (if y < x then y else x))) := rfl
private theorem lenB_l {xs : List D} : lenB [.l xs] = some (.sh (.i xs.length)) := rfl
private theorem lenB_t {xs : List D} : lenB [.t xs] = some (.sh (.i xs.length)) := rfl
private theorem tyD_i {x : Int} : tyD (.i x) = "int" := rfl
private theorem tyD_b {x : Bool} : tyD (.b x) = "bool" := rfl
private theorem tyD_t {x : List D} : tyD (.t x) = "tuple" := rfl
private theorem tyD_l {x : List D} : tyD (.l x) = "list" := rfl
private theorem sub_ii : subT "int" "int" = true := rfl
private theorem sub_ib : subT "int" "bool" = false := rfl
private theorem sub_bi : subT "bool" "int" = true := rfl
private theorem sub_bb : subT "bool" "bool" = true := rfl
private theorem sub_tt : subT "tuple" "tuple" = true := rfl
private theorem sub_ll : subT "list" "list" = true := rfl
private theorem forG_nx {h : D → List Sl → Option (List Sl)} {g : List Sl → Option Out} {items : List D} {ρ : List Sl} (P : Nat → List Sl → Prop) (h0 : P 0 ρ)
    (hs : ∀ (i : Nat) (d : D) (ρ : List Sl), items[i]? = some d → P i ρ → ∃ ρ1 ρ2, h d ρ = some ρ1 ∧ (g ρ1 = some (.nx ρ2) ∨ g ρ1 = some (.ct ρ2)) ∧ P (i + 1) ρ2) : ∃ ρ', forG h g items ρ = some (.nx ρ') ∧ P items.length ρ' := by
  have aux : ∀ (n i : Nat) (ρ : List Sl), i + n = items.length → P i ρ → ∃ ρ', forG h g (items.drop i) ρ = some (.nx ρ') ∧ P items.length ρ' := by
    intro n
    induction n with
    | zero =>
      intro i ρ e p
      have z : i = items.length := by omega
      subst z
      rw [List.drop_length]
      exact ⟨ρ, rfl, p⟩
    | succ n ih =>
      intro i ρ e p
      have hlt : i < items.length := by omega
      obtain ⟨ρ1, ρ2, e1, e2, p2⟩ := hs i _ ρ (List.getElem?_eq_getElem hlt) p
      obtain ⟨ρ', e3, p3⟩ := ih (i + 1) ρ2 (by omega) p2
      refine ⟨ρ', ?_, p3⟩
      rw [List.drop_eq_getElem_cons hlt]
      unfold forG
      rw [e1]
      rcases e2 with e2 | e2
      · show (match g ρ1 with | some (.nx ρ2) => forG h g (items.drop (i + 1)) ρ2 | some (.ct ρ2) => forG h g (items.drop (i + 1)) ρ2 | some (.bk ρ2) => some (.nx ρ2) | some (.rt r) => some (.rt r) | some (.ex x ρ2) => some (.ex x ρ2) | none => none) = _
        rw [e2]; exact e3
      · show (match g ρ1 with | some (.nx ρ2) => forG h g (items.drop (i + 1)) ρ2 | some (.ct ρ2) => forG h g (items.drop (i + 1)) ρ2 | some (.bk ρ2) => some (.nx ρ2) | some (.rt r) => some (.rt r) | some (.ex x ρ2) => some (.ex x ρ2) | none => none) = _
        rw [e2]; exact e3
  have := aux items.length 0 ρ (by omega) h0
  rw [List.drop_zero] at this
  exact this
structure Lay where
  u : Int
  w : Int
  l : Int
  b : Int
noncomputable def Lay.d (L : Lay) : D := .t [.i L.u, .i L.w, .i L.l, .i L.b]
noncomputable def prD (p : Int × Int) : D := .t [.i p.1, .i p.2]
private theorem sameD_refl : ∀ (n : Nat) (d : D), okE n d = true → eqD d d = true := by
  intro n d h
  have both : ∀ n, (∀ d, okE n d = true → eqD d d = true) ∧ (∀ ds, okEs n ds = true → eqDs ds ds = true) := by
    intro n
    induction n with
    | zero =>
      have one : ∀ d, okE 0 d = true → eqD d d = true := fun d h => by cases d <;> simp [okE, eqD] at h ⊢
      refine ⟨one, fun ds => ?_⟩
      induction ds with
      | nil => intro _; simp [eqDs]
      | cons d ds ih =>
        intro h
        simp only [okEs, Bool.and_eq_true] at h
        simp only [eqDs, one d h.1, ih h.2, Bool.and_self]
    | succ n ihn =>
      have one : ∀ d, okE (n + 1) d = true → eqD d d = true := fun d h => by
        cases d with
        | t xs => simp only [okE] at h; simp only [eqD]; exact ihn.2 xs h
        | l xs => simp only [okE] at h; simp only [eqD]; exact ihn.2 xs h
        | d ks xs => simp [okE] at h
        | x c ks xs => simp [okE] at h
        | o c ks xs => simp [okE] at h
        | n => simp [eqD]
        | b x => simp [eqD]
        | i x => simp [eqD]
        | s x => simp [eqD]
      refine ⟨one, fun ds => ?_⟩
      induction ds with
      | nil => intro _; simp [eqDs]
      | cons d ds ih =>
        intro h
        simp only [okEs, Bool.and_eq_true] at h
        simp only [eqDs, one d h.1, ih h.2, Bool.and_self]
  exact (both n).1 d h
private theorem neO_same {d : D} (h : okE 60 d = true) : neO d d = some (.sh (.b false)) := by
  unfold neO
  rw [h, sameD_refl 60 d h]; rfl
private theorem okE_pr {n : Nat} (p : Int × Int) : okE (n + 1) (prD p) = true := by simp [prD, okE, okEs]
private theorem okE_map {α : Type} {enc : α → D} {n : Nat} (h : ∀ x, okE n (enc x) = true) (xs : List α) : okE (n + 1) (.l (xs.map enc)) = true := by
  rw [okE]
  exact okEs_all fun d hd => by obtain ⟨x, _, rfl⟩ := List.mem_map.mp hd; exact h x
private theorem okE_stand (st : List (Int × Int)) : okE 60 (.l (st.map prD)) = true := okE_map (n := 59) (okE_pr (n := 58)) st
private theorem neO_stand {st : List (Int × Int)} : neO (.l (st.map prD)) (.l (st.map prD)) = some (.sh (.b false)) := neO_same (okE_stand st)
private theorem ixA_map {α : Type} {enc : α → D} {xs : List α} {k : Int} {x : α} (h0 : 0 ≤ k) (h : xs[k.toNat]? = some x) : ixA (.l (xs.map enc)) (.i k) = some (.sh (enc x)) := by
  have e : atI (xs.map enc) k = some (enc x) := by
    have := atI_nat (xs := xs.map enc) (j := k.toNat) (v := enc x) (by rw [List.getElem?_map, h]; rfl)
    rw [show ((k.toNat : Nat) : Int) = k by omega] at this
    exact this
  show (atI _ k).map Sl.sh = _
  rw [e]; rfl
private theorem ixA_last {α : Type} {enc : α → D} {xs : List α} {x : α} (h : xs.getLast? = some x) : ixA (.l (xs.map enc)) (.i (-1)) = some (.sh (enc x)) := by
  have hne : xs ≠ [] := by intro z; rw [z] at h; cases h
  have hl : 0 < xs.length := List.length_pos_iff.mpr hne
  have e : atI (xs.map enc) (-1) = some (enc x) := by
    unfold atI ixN
    rw [if_neg (by decide), if_pos (by rw [List.length_map]; omega)]
    simp only [Option.bind_some, List.length_map]
    rw [show ((-1 : Int) + (xs.length : Int)).toNat = xs.length - 1 by omega, List.getElem?_map, ← List.getLast?_eq_getElem?, h]; rfl
  show (atI _ (-1)).map Sl.sh = _
  rw [e]; rfl
private theorem cut_init {xs : List D} : cutD xs none (some (-1)) = xs.dropLast := by
  unfold cutD
  have e1 : HT.sIx xs.length 0 none = 0 := rfl
  have e2 : HT.sIx xs.length xs.length (some (-1)) = xs.length - 1 := by
    unfold HT.sIx
    simp only
    split <;> omega
  rw [e1, e2, List.drop_zero, Nat.sub_zero, List.dropLast_eq_take]
private theorem cut_to {xs : List D} {k : Int} (h0 : 0 ≤ k) : cutD xs none (some k) = xs.take k.toNat := by
  unfold cutD
  have e1 : HT.sIx xs.length 0 none = 0 := rfl
  have e2 : HT.sIx xs.length xs.length (some k) = min k.toNat xs.length := by
    unfold HT.sIx
    simp only
    split <;> omega
  rw [e1, e2, List.drop_zero, Nat.sub_zero]
  by_cases c : k.toNat ≤ xs.length
  · rw [Nat.min_eq_left c]
  · rw [Nat.min_eq_right (by omega), List.take_of_length_le (Nat.le_refl _), List.take_of_length_le (by omega)]
private theorem dropLast_map' {α : Type} {enc : α → D} {xs : List α} : (xs.map enc).dropLast = xs.dropLast.map enc := by rw [List.dropLast_eq_take, List.dropLast_eq_take, List.length_map, List.map_take]
private theorem take_map' {α : Type} {enc : α → D} {xs : List α} {k : Nat} : (xs.map enc).take k = (xs.take k).map enc := by rw [List.map_take]
private theorem log62 {j : Int} (h : -4611686018427387904 < j ∧ j < 4611686018427387904) : j.natAbs.log2 < 62 := log2_of (n := 62) (by omega) (by decide) (by decide)
private theorem ite_rng {α : Type} {j : Int} {a b : α} (h : -4611686018427387904 < j ∧ j < 4611686018427387904) : (if j.natAbs.log2 < 62 then a else b) = a := if_pos (log62 h)
private theorem ite_lt {α : Type} {m n : Nat} {a b : α} (h : m < n) : (if m < n then a else b) = a := if_pos h
private theorem zipDs_map {α β : Type} {e1 : α → D} {e2 : β → D} : ∀ {xs : List α} {ys : List β}, zipDs (xs.map e1) (ys.map e2) = (xs.zip ys).map fun p => D.t [e1 p.1, e2 p.2]
  | [], _ => by simp [zipDs]
  | _ :: _, [] => by simp [zipDs]
  | x :: xs, y :: ys => by simp only [List.map_cons, zipDs, List.zip_cons_cons]; rw [zipDs_map]

private theorem forG_nil {h : D → List Sl → Option (List Sl)} {g : List Sl → Option Out} {ρ : List Sl} : forG h g [] ρ = some (.nx ρ) := rfl
private theorem forG_step {h : D → List Sl → Option (List Sl)} {g : List Sl → Option Out} {d : D} {ds : List D} {ρ ρ1 ρ2 : List Sl} (e1 : h d ρ = some ρ1) (e2 : g ρ1 = some (.nx ρ2)) : forG h g (d :: ds) ρ = forG h g ds ρ2 := by
  rw [forG, e1]
  show (match g ρ1 with | some (.nx ρ2) => forG h g ds ρ2 | some (.ct ρ2) => forG h g ds ρ2 | some (.bk ρ2) => some (.nx ρ2) | some (.rt r) => some (.rt r) | some (.ex x ρ2) => some (.ex x ρ2) | none => none) = _
  rw [e2]
private theorem forG_inv {α : Type} {enc : α → D} {h : D → List Sl → Option (List Sl)} {g : List Sl → Option Out} {xs : List α} {ρ : List Sl} (P : Nat → List Sl → Prop) (h0 : P 0 ρ)
    (hs : ∀ (i : Nat) (x : α) (ρ : List Sl), xs[i]? = some x → P i ρ → ∃ ρ1 ρ2, h (enc x) ρ = some ρ1 ∧ g ρ1 = some (.nx ρ2) ∧ P (i + 1) ρ2) : ∃ ρ', forG h g (xs.map enc) ρ = some (.nx ρ') ∧ P xs.length ρ' := by
  have := forG_nx (h := h) (g := g) (items := xs.map enc) (ρ := ρ) P h0 fun i d ρ hi hp => by
    rw [List.getElem?_map] at hi
    obtain ⟨x, hx, rfl⟩ := Option.map_eq_some_iff.mp hi
    obtain ⟨ρ1, ρ2, e1, e2, p⟩ := hs i x ρ hx hp
    exact ⟨ρ1, ρ2, e1, .inl e2, p⟩
  rwa [List.length_map] at this
private theorem compG_map {α : Type} {enc F : α → D} {h : D → List Sl → Option (List Sl)} {f : List Sl → Option Sl} (P : List Sl → Prop) : ∀ {xs : List α} {ρ : List Sl}, P ρ →
    (∀ x ∈ xs, ∀ ρ, P ρ → ∃ ρ1 r, h (enc x) ρ = some ρ1 ∧ P ρ1 ∧ f ρ1 = some r ∧ r.toD = F x) → compG h yesT f (xs.map enc) ρ = some (xs.map F)
  | [], _, _, _ => rfl
  | x :: xs, ρ, hp, hs => by
    obtain ⟨ρ1, r, e1, p1, e2, e3⟩ := hs x List.mem_cons_self ρ hp
    have ih := compG_map (f := f) (F := F) (enc := enc) P p1 fun y hy => hs y (List.mem_cons_of_mem _ hy)
    rw [List.map_cons, List.map_cons]
    unfold compG
    rw [e1]
    simp only [yesT, e2, ih, Option.map_some, e3]
private theorem compG_ex {α β : Type} {enc : α → D} {out : β → D} {R : α → β → Prop} {h : D → List Sl → Option (List Sl)} {f : List Sl → Option Sl} (P : List Sl → Prop) : ∀ {xs : List α} {ρ : List Sl}, P ρ →
    (∀ x ∈ xs, ∀ ρ, P ρ → ∃ ρ1 y r, h (enc x) ρ = some ρ1 ∧ P ρ1 ∧ f ρ1 = some r ∧ r.toD = out y ∧ R x y) → ∃ ys : List β, compG h yesT f (xs.map enc) ρ = some (ys.map out) ∧ ys.length = xs.length ∧ ∀ (i : Nat) (x : α) (y : β), xs[i]? = some x → ys[i]? = some y → R x y
  | [], _, _, _ => ⟨[], rfl, rfl, fun i x y h => by simp at h⟩
  | x :: xs, ρ, hp, hs => by
    obtain ⟨ρ1, y, r, e1, p1, e2, e3, q⟩ := hs x List.mem_cons_self ρ hp
    obtain ⟨ys, ih, hl, hr⟩ := compG_ex (f := f) (out := out) (R := R) (enc := enc) P p1 fun y hy => hs y (List.mem_cons_of_mem _ hy)
    refine ⟨y :: ys, ?_, by simp [hl], fun i a b ha hb => ?_⟩
    · rw [List.map_cons, List.map_cons]
      unfold compG
      rw [e1]
      simp only [yesT, e2, ih, Option.map_some, e3]
    · cases i with
      | zero => simp at ha hb; subst ha; subst hb; exact q
      | succ i => exact hr i a b (by simpa using ha) (by simpa using hb)
private theorem compG_exR {β : Type} {out : β → D} {R : Nat → β → Prop} {h : D → List Sl → Option (List Sl)} {f : List Sl → Option Sl} {n : Nat} {ρ : List Sl} (P : List Sl → Prop) (h0 : P ρ)
    (hs : ∀ i, i < n → ∀ ρ, P ρ → ∃ ρ1 y r, h (.i (i : Nat)) ρ = some ρ1 ∧ P ρ1 ∧ f ρ1 = some r ∧ r.toD = out y ∧ R i y) :
    ∃ ys : List β, compG h yesT f ((List.range n).map fun k => D.i (0 + (k : Nat))) ρ = some (ys.map out) ∧ ys.length = n ∧ ∀ (i : Nat) (y : β), ys[i]? = some y → R i y := by
  obtain ⟨ys, e, hl, hr⟩ := compG_ex (enc := fun k : Nat => D.i (0 + (k : Nat))) (out := out) (R := R) (h := h) (f := f) P (xs := List.range n) h0 fun x hx ρ hp => by
    rw [Int.zero_add]
    exact hs x (List.mem_range.mp hx) ρ hp
  rw [List.length_range] at hl
  refine ⟨ys, e, hl, fun i y hy => hr i i y ?_ hy⟩
  have : i < ys.length := (List.getElem?_eq_some_iff.mp hy).1
  rw [List.getElem?_range (by omega)]
private theorem enum_map {α : Type} {e : α → D} {xs : List α} : ((xs.map e).mapIdx fun i d => D.t [.i (i : Nat), d]) = xs.zipIdx.map fun p => D.t [.i (p.2 : Nat), e p.1] := by
  apply List.ext_getElem?
  intro i
  rw [List.getElem?_mapIdx, List.getElem?_map, List.getElem?_map, List.getElem?_zipIdx]
  cases xs[i]? <;> simp
private theorem range_last {f : Nat → Int} {n : Nat} : ((List.range (n + 1)).map f).getLast? = some (f n) := by
  rw [List.range_succ, List.map_append]; simp
private theorem prD_mk {a b : Int} : prD (a, b) = .t [.i a, .i b] := rfl
private theorem layD_mk {u w l b : Int} : Lay.d ⟨u, w, l, b⟩ = .t [.i u, .i w, .i l, .i b] := rfl
private theorem ixA_d0 {L : Lay} : ixA L.d (.i 0) = some (.sh (.i L.u)) := rfl
private theorem ixA_d1 {L : Lay} : ixA L.d (.i 1) = some (.sh (.i L.w)) := rfl
private theorem ixA_d2 {L : Lay} : ixA L.d (.i 2) = some (.sh (.i L.l)) := rfl
private theorem ixA_d3 {L : Lay} : ixA L.d (.i 3) = some (.sh (.i L.b)) := rfl
private theorem ixA_p0 {p : Int × Int} : ixA (prD p) (.i 0) = some (.sh (.i p.1)) := rfl
private theorem ixA_p1 {p : Int × Int} : ixA (prD p) (.i 1) = some (.sh (.i p.2)) := rfl
private theorem tupG_t {n : Nat} {hs : List D → List Sl → Option (List Sl)} {ds : List D} {ρ : List Sl} : tupG n hs (.t ds) ρ = if ds.length = n then hs ds ρ else none := rfl
private theorem tupG_d {hs : List D → List Sl → Option (List Sl)} {L : Lay} {ρ : List Sl} : tupG 4 hs L.d ρ = hs [.i L.u, .i L.w, .i L.l, .i L.b] ρ := rfl
private theorem tupG_p {hs : List D → List Sl → Option (List Sl)} {p : Int × Int} {ρ : List Sl} : tupG 2 hs (prD p) ρ = hs [.i p.1, .i p.2] ρ := rfl
private theorem tyD_lay {L : Lay} : tyD L.d = "tuple" := rfl
private theorem tyD_pr {p : Int × Int} : tyD (prD p) = "tuple" := rfl
private theorem eqO_pt {p : Int × Int} {a b : Int} : eqO (prD p) (.t [.i a, .i b]) = some (.sh (.b (p.1 == a && p.2 == b))) := eqO_t2
private theorem eqO_b {a b : Bool} : eqO (.b a) (.b b) = some (.sh (.b (a == b))) := rfl
private theorem neO_b {a b : Bool} : neO (.b a) (.b b) = some (.sh (.b (!(a == b)))) := rfl
private theorem isXD_n : isXD .n = false := rfl
private theorem isXD_i {x : Int} : isXD (.i x) = false := rfl
private theorem isXD_b {x : Bool} : isXD (.b x) = false := rfl
private theorem isXD_s {x : Str} : isXD (.s x) = false := rfl
private theorem isXD_t {x : List D} : isXD (.t x) = false := rfl
private theorem isXD_l {x : List D} : isXD (.l x) = false := rfl
private theorem isXD_d {ks : List Key} {ds : List D} : isXD (.d ks ds) = false := rfl
private theorem isXD_lay {L : Lay} : isXD L.d = false := rfl
private theorem isXD_pr {p : Int × Int} : isXD (prD p) = false := rfl
private theorem isxD_x {tb : List (Str × Bool)} {c : Str} {ks : List Str} {ds : List D} : isxD tb (.x c ks ds) = tb.lookup c := rfl
private theorem isxD_n {tb : List (Str × Bool)} : isxD tb .n = some false := rfl
private theorem tbl_same {c : Str} {b : Bool} {r : List (Str × Bool)} : List.lookup c ((c, b) :: r) = some b := by rw [List.lookup_cons, beq_self_eq_true]
private theorem slD_l {xs : List D} {lo hi : Option Int} : slD (.l xs) lo hi = some (.ac (cutD xs lo hi)) := rfl
private theorem neL_00 : neL (.l []) (.l []) = some (.sh (.b false)) := rfl
end L3
namespace L3
end L3

namespace Gen
open PySem PySem.Spec PyProof.Rows L2 L3
noncomputable def c_WORTH : D := (.i 1)
noncomputable def c_UPPER : D := (.i 0)
noncomputable def c_LOWER : D := (.i 2)
noncomputable def c_BASE : D := (.i 3)
noncomputable def c_BOTTOM : D := (.i 1)
noncomputable def c_TOP : D := (.i 0)
noncomputable def g__law_cell : List Sl → Option Out := (seqG (ifG (tstF (opF ltD (rdF 1) (callF lenB (consF (rdF 0) nilF)))) (retG (opF ixA (rdF 0) (rdF 1))) skipG) (seqG (setG 2 (opF addI (opF mulD (rdF 1) (cF (.i 48271))) (cF (.i 11)))) (seqG (ifG (tstF (opF gtD (callF lenB (consF (rdF 0) nilF)) (cF (.i 0)))) (setG 2 (opF addI (rdF 2) (opF mulD (opF modD (opF ixA (rdF 0) (opF modD (opF mulD (rdF 1) (cF (.i 7))) (callF lenB (consF (rdF 0) nilF)))) (cF (.i 2147483647))) (cF (.i 69621))))) skipG) (retG (opF modD (opF mulD (rdF 2) (rdF 2)) (cF (.i 2147483629)))))))
noncomputable def f__law_cell : List D → Option Sl := fnF 2 3 g__law_cell
noncomputable def x__law_cell : List D → Option Ex := fnX 2 3 g__law_cell
noncomputable def g__law_plain : List Sl → Option Out := (seqG (setG 2 (callF minB (consF (opF ixA (rdF 0) (cF (.i 0))) (consF (opF fdivD (rdF 1) (opF ixA (rdF 0) (cF (.i 1)))) nilF)))) (retG (tupF (consF (rdF 2) (consF (opF subD (rdF 1) (opF mulD (rdF 2) (opF ixA (rdF 0) (cF (.i 1))))) nilF)))))
noncomputable def f__law_plain : List D → Option Sl := fnF 2 3 g__law_plain
noncomputable def x__law_plain : List D → Option Ex := fnX 2 3 g__law_plain
noncomputable def b__law_digits_1 : List Sl → Option Out := (seqG (appG 2 (opF modD (rdF 1) (opF ixA (rdF 3) (cF (.i 3))))) (setG 1 (opF fdivD (rdF 1) (opF ixA (rdF 3) (cF (.i 3))))))
noncomputable def g__law_digits : List Sl → Option Out := (seqG (setG 2 (lstF nilF)) (seqG (forS (itemsF (sliceF slD (rdF 0) noF (optF (negF (cF (.i 1)))))) (nameG 3) b__law_digits_1) (retG (opF addL (rdF 2) (lstF (consF (rdF 1) nilF))))))
noncomputable def f__law_digits : List D → Option Sl := fnF 2 4 g__law_digits
noncomputable def x__law_digits : List D → Option Ex := fnX 2 4 g__law_digits
noncomputable def e__law_tidy_1 : List Sl → Option Sl := (callF f__law_plain (consF (rdF 1) (consF (opF ixA (rdF 2) (rdF 0)) nilF)))
noncomputable def g__law_tidy : List Sl → Option Out := (seqG (setG 2 (callF f__law_digits (consF (rdF 0) (consF (rdF 1) nilF)))) (seqG (ifG (tstF (opF gtD (opF ixA (rdF 2) (negF (cF (.i 1)))) (opF addI (opF mulD (opF ixA (opF ixA (rdF 0) (negF (cF (.i 1)))) (cF (.i 0))) (opF ixA (opF ixA (rdF 0) (negF (cF (.i 1)))) (cF (.i 1)))) (opF ixA (opF ixA (rdF 0) (negF (cF (.i 1)))) (cF (.i 2)))))) (retG (cF .n)) skipG) (retG (lcF (enumF (consF (rdF 0) nilF)) [none, none, some 2] (tupG 2 (consG (nameG 0) (consG (nameG 1) nilG))) yesT e__law_tidy_1))))
noncomputable def f__law_tidy : List D → Option Sl := fnF 2 3 g__law_tidy
noncomputable def x__law_tidy : List D → Option Ex := fnX 2 3 g__law_tidy
noncomputable def g_plain_of : List Sl → Option Out := (seqG (setG 2 (callF minB (consF (opF ixA (rdF 0) (cF c_UPPER)) (consF (opF fdivD (rdF 1) (opF ixA (rdF 0) (cF c_WORTH))) nilF)))) (retG (tupF (consF (rdF 2) (consF (opF subD (rdF 1) (opF mulD (rdF 2) (opF ixA (rdF 0) (cF c_WORTH)))) nilF)))))
noncomputable def f_plain_of : List D → Option Sl := fnF 2 3 g_plain_of
noncomputable def x_plain_of : List D → Option Ex := fnX 2 3 g_plain_of
noncomputable def g_full_worth : List Sl → Option Out := (retG (opF addI (opF mulD (opF ixA (rdF 0) (cF c_UPPER)) (opF ixA (rdF 0) (cF c_WORTH))) (opF ixA (rdF 0) (cF c_LOWER))))
noncomputable def f_full_worth : List D → Option Sl := fnF 1 1 g_full_worth
noncomputable def x_full_worth : List D → Option Ex := fnX 1 1 g_full_worth
noncomputable def g_most_tidy : List Sl → Option Out := (seqG (ifG (tstF (opF eqO (rdF 1) (opF subD (callF lenB (consF (rdF 0) nilF)) (cF (.i 1))))) (retG (callF f_full_worth (consF (opF ixA (rdF 0) (rdF 1)) nilF))) skipG) (retG (opF subD (opF ixA (opF ixA (rdF 0) (rdF 1)) (cF c_BASE)) (cF (.i 1)))))
noncomputable def f_most_tidy : List D → Option Sl := fnF 2 2 g_most_tidy
noncomputable def x_most_tidy : List D → Option Ex := fnX 2 2 g_most_tidy
noncomputable def b_digits_of_1 : List Sl → Option Out := (seqG (appG 2 (opF modD (rdF 3) (opF ixA (rdF 4) (cF c_BASE)))) (setG 3 (opF fdivD (rdF 3) (opF ixA (rdF 4) (cF c_BASE)))))
noncomputable def g_digits_of : List Sl → Option Out := (seqG (setG 2 (lstF nilF)) (seqG (setG 3 (rdF 1)) (seqG (forS (itemsF (sliceF slD (rdF 0) noF (optF (negF (cF (.i 1)))))) (nameG 4) b_digits_of_1) (seqG (appG 2 (rdF 3)) (retV 2)))))
noncomputable def f_digits_of : List D → Option Sl := fnF 2 5 g_digits_of
noncomputable def x_digits_of : List D → Option Ex := fnX 2 5 g_digits_of
noncomputable def e_tidy_of_1 : List Sl → Option Sl := (callF f_plain_of (consF (rdF 0) (consF (rdF 1) nilF)))
noncomputable def g_tidy_of : List Sl → Option Out := (seqG (setG 2 (callF f_digits_of (consF (rdF 0) (consF (rdF 1) nilF)))) (seqG (setG 3 (opF subD (callF lenB (consF (rdF 0) nilF)) (cF (.i 1)))) (seqG (ifG (tstF (opF gtD (opF ixA (rdF 2) (rdF 3)) (callF f_most_tidy (consF (rdF 0) (consF (rdF 3) nilF))))) (raiseI "TooGreat" ["rod"] (consF (rdF 3) nilF)) skipG) (retG (lcF (zipF (consF (rdF 0) (consF (rdF 2) nilF))) [none, none] (tupG 2 (consG (nameG 0) (consG (nameG 1) nilG))) yesT e_tidy_of_1)))))
noncomputable def f_tidy_of : List D → Option Sl := fnF 2 4 g_tidy_of
noncomputable def x_tidy_of : List D → Option Ex := fnX 2 4 g_tidy_of
noncomputable def b_greatest_divisor_1 : List Sl → Option Out := (seqG (setG 2 (opF modD (rdF 0) (rdF 1))) (seqG (setG 0 (rdF 1)) (setG 1 (rdF 2))))
noncomputable def g_greatest_divisor : List Sl → Option Out := (seqG (whileS (tstF (opF neO (rdF 1) (cF (.i 0)))) b_greatest_divisor_1) (retV 0))
noncomputable def f_greatest_divisor : List D → Option Sl := fnF 2 3 g_greatest_divisor
noncomputable def x_greatest_divisor : List D → Option Ex := fnX 2 3 g_greatest_divisor
noncomputable def g_lowest_terms : List Sl → Option Out := (seqG (setG 2 (callF f_greatest_divisor (consF (rdF 0) (consF (rdF 1) nilF)))) (retG (tupF (consF (opF fdivD (rdF 0) (rdF 2)) (consF (opF fdivD (rdF 1) (rdF 2)) nilF)))))
noncomputable def f_lowest_terms : List D → Option Sl := fnF 2 3 g_lowest_terms
noncomputable def x_lowest_terms : List D → Option Ex := fnX 2 3 g_lowest_terms
noncomputable def b_place_of_1 : List Sl → Option Out := (setG 2 (opF mulD (rdF 2) (opF ixA (rdF 3) (cF c_BASE))))
noncomputable def g_place_of : List Sl → Option Out := (seqG (setG 2 (cF (.i 1))) (seqG (forS (itemsF (sliceF slD (rdF 0) noF (optF (rdF 1)))) (nameG 3) b_place_of_1) (retV 2)))
noncomputable def f_place_of : List D → Option Sl := fnF 2 4 g_place_of
noncomputable def x_place_of : List D → Option Ex := fnX 2 4 g_place_of
noncomputable def g_rest_above : List Sl → Option Out := (seqG (setG 4 (callF f_place_of (consF (rdF 0) (consF (rdF 1) nilF)))) (retG (callF f_lowest_terms (consF (opF subD (opF mulD (opF ixA (rdF 2) (cF c_TOP)) (rdF 4)) (opF mulD (rdF 3) (opF ixA (rdF 2) (cF c_BOTTOM)))) (consF (opF mulD (opF ixA (rdF 2) (cF c_BOTTOM)) (rdF 4)) nilF)))))
noncomputable def f_rest_above : List D → Option Sl := fnF 4 5 g_rest_above
noncomputable def x_rest_above : List D → Option Ex := fnX 4 5 g_rest_above
noncomputable def g_number_below : List Sl → Option Out := (retG (opF fdivD (opF mulD (opF ixA (rdF 2) (cF c_TOP)) (callF f_place_of (consF (rdF 0) (consF (rdF 1) nilF)))) (opF ixA (rdF 2) (cF c_BOTTOM))))
noncomputable def f_number_below : List D → Option Sl := fnF 3 3 g_number_below
noncomputable def x_number_below : List D → Option Ex := fnX 3 3 g_number_below
noncomputable def g_part_set : List Sl → Option Out := (seqG (setG 3 (callF f_number_below (consF (rdF 0) (consF (rdF 1) (consF (rdF 2) nilF))))) (seqG (setG 4 (callF f_rest_above (consF (rdF 0) (consF (rdF 1) (consF (rdF 2) (consF (rdF 3) nilF)))))) (seqG (ifG (tstF (opF eqO (rdF 4) (tupF (consF (cF (.i 0)) (consF (cF (.i 1)) nilF))))) (orO (retG (callF f_tidy_of (consF (rdF 0) (consF (rdF 3) nilF)))) (evX (callX x_tidy_of (consF (rdF 0) (consF (rdF 3) nilF))))) skipG) (seqG (orO (exprG (callF f_tidy_of (consF (rdF 0) (consF (opF addI (rdF 3) (cF (.i 1))) nilF)))) (evX (callX x_tidy_of (consF (rdF 0) (consF (opF addI (rdF 3) (cF (.i 1))) nilF))))) (raiseP "Between" (consF (cF (.s "no standing bears just this fraction")) nilF))))))
noncomputable def f_part_set : List D → Option Sl := fnF 3 5 g_part_set
noncomputable def x_part_set : List D → Option Ex := fnX 3 5 g_part_set
noncomputable def g__law_refused : List Sl → Option Out := (seqG (setG 1 (lstF (consF (isxF [("TooGreat", false), ("Between", false)] (rdF 0)) (consF (isxF [("TooGreat", false), ("Between", false)] (rdF 0)) (consF (isxF [("TooGreat", false), ("Between", false)] (rdF 0)) (consF (isxF [("TooGreat", false), ("Between", false)] (rdF 0)) nilF)))))) (seqG (setG 1 (opF addL (rdF 1) (lstF (consF (isxF [("TooGreat", false), ("Between", false)] (rdF 0)) (consF (isxF [("TooGreat", false), ("Between", false)] (rdF 0)) (consF (isxF [("TooGreat", false), ("Between", false)] (rdF 0)) (consF (isxF [("TooGreat", false), ("Between", false)] (rdF 0)) nilF))))))) (seqG (setG 2 (lstF (consF (isxF [("TooGreat", true), ("Between", false)] (rdF 0)) (consF (isxF [("TooGreat", false), ("Between", false)] (rdF 0)) (consF (isxF [("TooGreat", false), ("Between", true)] (rdF 0)) nilF))))) (seqG (ifG (orT (tstF (opF inB (cF (.b true)) (rdF 1))) (orT (notT (truF (isxF [("TooGreat", true), ("Between", true)] (rdF 0)))) (tstF (opF neO (mlF cntB (rdF 2) (consF (cF (.b true)) nilF)) (cF (.i 1)))))) (retG (tupF (consF (cF (.s "other")) (consF (cF .n) nilF)))) skipG) (seqG (ifG (truF (opF ixA (rdF 2) (cF (.i 0)))) (retG (tupF (consF (cF (.s "great")) (consF (atF ["TooGreat"] "rod" (rdF 0)) nilF)))) skipG) (retG (tupF (consF (opF ixA (lstF (consF (cF (.s "")) (consF (cF (.s "below")) (consF (cF (.s "between")) nilF)))) (mlF idxB (rdF 2) (consF (cF (.b true)) nilF))) (consF (cF .n) nilF)))))))))
noncomputable def f__law_refused : List D → Option Sl := fnF 1 3 g__law_refused
noncomputable def x__law_refused : List D → Option Ex := fnX 1 3 g__law_refused
noncomputable def b__law_told_1 : List Sl → Option Out := (orO (setG 3 (callF f_part_set (consF (rdF 0) (consF (rdF 1) (consF (rdF 2) nilF))))) (evX (callX x_part_set (consF (rdF 0) (consF (rdF 1) (consF (rdF 2) nilF))))))
noncomputable def g__law_told : List Sl → Option Out := (seqG (setG 3 (cF .n)) (seqG (setG 4 (tupF (consF (cF (.s "")) (consF (cF .n) nilF)))) (seqG (tryG b__law_told_1 [⟨[("TooGreat", true), ("Between", true)], (some 5), (setG 4 (callF f__law_refused (consF (rdF 5) nilF)))⟩]) (retG (tupF (consF (rdF 3) (consF (rdF 4) nilF)))))))
noncomputable def f__law_told : List D → Option Sl := fnF 3 6 g__law_told
noncomputable def x__law_told : List D → Option Ex := fnX 3 6 g__law_told
noncomputable def b__law_divisor_1 : List Sl → Option Out := (parG 0 1 (consF (rdF 1) (consF (opF modD (rdF 0) (rdF 1)) nilF)))
noncomputable def g__law_divisor : List Sl → Option Out := (seqG (whileS (tstF (opF neO (rdF 1) (cF (.i 0)))) b__law_divisor_1) (retV 0))
noncomputable def f__law_divisor : List D → Option Sl := fnF 2 2 g__law_divisor
noncomputable def x__law_divisor : List D → Option Ex := fnX 2 2 g__law_divisor
noncomputable def g__law_part : List Sl → Option Out := (seqG (setG 3 (opF ixA (lstF (consF (opF modD (opF mulD (rdF 0) (cF (.i 982451653))) (opF addI (rdF 1) (cF (.i 1)))) (consF (rdF 1) (consF (opF modD (opF fdivD (rdF 0) (cF (.i 8))) (opF addI (rdF 1) (cF (.i 1)))) (consF (opF addI (rdF 1) (cF (.i 1))) nilF))))) (opF modD (rdF 0) (cF (.i 4))))) (seqG (setG 4 (opF addI (cF (.i 1)) (opF modD (opF fdivD (rdF 0) (cF (.i 4))) (cF (.i 12))))) (seqG (setG 5 (opF addI (opF mulD (rdF 3) (rdF 4)) (opF modD (opF fdivD (rdF 0) (cF (.i 48))) (rdF 4)))) (seqG (ifG (tstF (opF eqO (opF modD (opF fdivD (rdF 0) (cF (.i 576))) (cF (.i 2))) (cF (.i 0)))) (setG 5 (opF mulD (rdF 3) (rdF 4))) skipG) (seqG (setG 6 (callF f__law_divisor (consF (rdF 5) (consF (opF mulD (rdF 4) (rdF 2)) nilF)))) (retG (tupF (consF (opF fdivD (rdF 5) (rdF 6)) (consF (opF fdivD (opF mulD (rdF 4) (rdF 2)) (rdF 6)) nilF)))))))))
noncomputable def f__law_part : List D → Option Sl := fnF 3 7 g__law_part
noncomputable def x__law_part : List D → Option Ex := fnX 3 7 g__law_part
noncomputable def b__law_most_1 : List Sl → Option Out := (setG 1 (opF mulD (rdF 1) (opF ixA (rdF 2) (cF (.i 3)))))
noncomputable def g__law_most : List Sl → Option Out := (seqG (setG 1 (cF (.i 1))) (seqG (forS (itemsF (sliceF slD (rdF 0) noF (optF (negF (cF (.i 1)))))) (nameG 2) b__law_most_1) (retG (opF subD (opF mulD (opF addI (opF addI (opF mulD (opF ixA (opF ixA (rdF 0) (negF (cF (.i 1)))) (cF (.i 0))) (opF ixA (opF ixA (rdF 0) (negF (cF (.i 1)))) (cF (.i 1)))) (opF ixA (opF ixA (rdF 0) (negF (cF (.i 1)))) (cF (.i 2)))) (cF (.i 1))) (rdF 1)) (cF (.i 1))))))
noncomputable def f__law_most : List D → Option Sl := fnF 1 3 g__law_most
noncomputable def x__law_most : List D → Option Ex := fnX 1 3 g__law_most
noncomputable def g__law_layout : List Sl → Option Out := (seqG (setG 0 (opF modD (rdF 0) (opF powD (cF (.i 10)) (cF (.i 40))))) (seqG (setG 1 (opF ixA (lstF (consF (cF (.i 0)) (consF (cF (.i 1)) (consF (cF (.i 2)) (consF (opF addI (cF (.i 1)) (opF modD (opF fdivD (rdF 0) (cF (.i 4))) (cF (.i 6)))) nilF))))) (opF modD (rdF 0) (cF (.i 4))))) (seqG (ifG (tstF (opF eqO (rdF 1) (cF (.i 0)))) (seqG (setG 2 (opF addI (cF (.i 2)) (opF modD (opF fdivD (rdF 0) (cF (.i 24))) (cF (.i 24))))) (retG (tupF (consF (cF (.i 0)) (consF (cF (.i 1)) (consF (callF minB (consF (cF (.i 24)) (consF (opF addI (opF subD (rdF 2) (cF (.i 1))) (opF modD (opF fdivD (rdF 0) (cF (.i 576))) (cF (.i 4)))) nilF))) (consF (rdF 2) nilF))))))) skipG) (seqG (setG 3 (opF ixA (lstF (consF (cF (.i 5)) (consF (opF addI (cF (.i 1)) (opF modD (opF fdivD (rdF 0) (cF (.i 24))) (cF (.i 20)))) nilF))) (opF modD (opF fdivD (rdF 0) (cF (.i 480))) (cF (.i 2))))) (seqG (setG 4 (opF addI (opF subD (rdF 3) (cF (.i 1))) (opF modD (opF fdivD (rdF 0) (cF (.i 960))) (cF (.i 5))))) (seqG (setG 5 (callF minB (consF (cF (.i 25)) (consF (opF addI (opF addI (opF mulD (rdF 1) (rdF 3)) (rdF 4)) (cF (.i 1))) nilF)))) (retG (tupF (consF (rdF 1) (consF (rdF 3) (consF (rdF 4) (consF (opF ixA (lstF (consF (rdF 5) (consF (opF addI (cF (.i 2)) (opF modD (opF fdivD (rdF 0) (cF (.i 4800))) (opF subD (rdF 5) (cF (.i 1))))) nilF))) (opF modD (opF fdivD (rdF 0) (cF (.i 9600))) (cF (.i 2)))) nilF))))))))))))
noncomputable def f__law_layout : List D → Option Sl := fnF 1 6 g__law_layout
noncomputable def x__law_layout : List D → Option Ex := fnX 1 6 g__law_layout
noncomputable def e__law_frame_1 : List Sl → Option Sl := (callF f__law_layout (consF (callF f__law_cell (consF (rdF 1) (consF (opF addI (opF addI (rdF 2) (cF (.i 1))) (rdF 0)) nilF))) nilF))
noncomputable def g__law_frame : List Sl → Option Out := (retG (lcF (rng1F (consF (opF addI (cF (.i 1)) (opF modD (callF f__law_cell (consF (rdF 0) (consF (rdF 1) nilF))) (rdF 2))) nilF)) [none, some 0, some 1] (nameG 0) yesT e__law_frame_1))
noncomputable def f__law_frame : List D → Option Sl := fnF 3 3 g__law_frame
noncomputable def x__law_frame : List D → Option Ex := fnX 3 3 g__law_frame
noncomputable def b_law_1 : List Sl → Option Out := (seqG (frzG 3 (setG 6 (opF modD (opF fdivD (rdF 5) (cF (.i 1152))) (callF lenB (consF (rdF 3) nilF))))) (seqG (asgG (tupG 2 (consG (nameG 7) (consG (nameG 8) nilG))) (callF f__law_part (consF (rdF 5) (consF (rdF 2) (consF (opF ixA (rdF 3) (rdF 6)) nilF))))) (seqG (asgG (tupG 2 (consG (nameG 9) (consG (nameG 10) nilG))) (callF f__law_told (consF (rdF 1) (consF (rdF 6) (consF (tupF (consF (rdF 7) (consF (rdF 8) nilF))) nilF))))) (ifG (tstF (opF gtD (opF mulD (rdF 7) (opF ixA (rdF 3) (rdF 6))) (opF mulD (rdF 2) (rdF 8)))) (ifG (orT (tstF (opF neO (rdF 10) (tupF (consF (cF (.s "great")) (consF (opF subD (callF lenB (consF (rdF 1) nilF)) (cF (.i 1))) nilF))))) (truF (isiF "bool" (opF ixA (rdF 10) (cF (.i 1)))))) (retG (cF (.b false))) skipG) (ifG (tstF (opF neO (opF modD (opF mulD (rdF 7) (opF ixA (rdF 3) (rdF 6))) (rdF 8)) (cF (.i 0)))) (ifG (tstF (opF neO (rdF 10) (tupF (consF (cF (.s "between")) (consF (cF .n) nilF))))) (retG (cF (.b false))) skipG) (ifG (orT (tstF (opF neO (rdF 10) (tupF (consF (cF (.s "")) (consF (cF .n) nilF))))) (tstF (opF neO (rdF 9) (callF f__law_tidy (consF (rdF 1) (consF (opF fdivD (opF mulD (rdF 7) (opF ixA (rdF 3) (rdF 6))) (rdF 8)) nilF)))))) (retG (cF (.b false))) skipG))))))
noncomputable def b_law_2 : List Sl → Option Out := (appG 3 (opF mulD (opF ixA (rdF 3) (negF (cF (.i 1)))) (opF ixA (rdF 4) (cF (.i 3)))))
noncomputable def g_law : List Sl → Option Out := (seqG (setG 1 (callF f__law_frame (consF (rdF 0) (consF (cF (.i 0)) (consF (cF (.i 20)) nilF))))) (seqG (setG 2 (callF f__law_most (consF (rdF 1) nilF))) (seqG (setG 3 (lstF (consF (cF (.i 1)) nilF))) (seqG (frzG 1 (forS (itemsF (rdF 1)) (nameG 4) b_law_2)) (seqG (forS (itemsF (opF addL (lstF (consF (callF f__law_cell (consF (rdF 0) (consF (cF (.i 22)) nilF))) nilF)) (sliceF slD (rdF 0) (optF (cF (.i 23))) (optF (cF (.i 83)))))) (nameG 5) b_law_1) (retG (cF (.b true))))))))
noncomputable def f_law : List D → Option Sl := fnF 1 11 g_law
noncomputable def x_law : List D → Option Ex := fnX 1 11 g_law
end Gen
open PySem L2 L3
local macro_rules | `(tactic| walk_at "ev") => do
  let ids := ("fnF seqG setG evS retG retV ifG asgG exprG appG forS opF callF consF nilF tupF lstF rdF cF tstF truF truD orT notT negF isiF isXD_n isXD_i isXD_b isXD_s isXD_t isXD_l isXD_d isXD_lay isXD_pr isxD_x isxD_n isxF atF frzG mlF cntB idxB neL_00 List.isEmpty_nil orO parG keyD evX callX raiseI raiseP fnX tryG clsG noEx unO tbl_same whileS nameG tupG_t tupG_d tupG_p consG nilG skipG itemsF seqD sliceF slD_l optF noF rng1F enumF zipF lcF innerS yesT er_sh er_un er_ac er_ad vw_sh vw_un vw_ac vw_ad toD_sh toD_ac toD_ad Sl.flat Option.bind_some Option.bind_none Option.map_none Option.map_some Option.getD_some List.map_cons List.map_nil List.getElem?_cons_zero List.getElem?_cons_succ List.set_cons_zero List.set_cons_succ List.length_cons List.length_nil List.nil_append List.cons_append List.replicate_succ List.replicate_zero addI_i subD_i mulD_r mulD_l mulD_i fdivD_s fdivD_i modD_i powD_i ltD_i gtD_i eqO_i neO_i ixA_t4_0 ixA_t4_1 ixA_t4_2 ixA_t4_3 ixA_t2_0 ixA_t2_1 ixA_l2i ixA_ints eqO_t2 List.length_map List.length_range List.length_replicate List.length_append List.length_zipIdx minB_i lenB_l lenB_t tyD_i tyD_b tyD_t tyD_l sub_ii sub_ib sub_bi sub_bb sub_tt sub_ll prD_mk layD_mk ixA_d0 ixA_d1 ixA_d2 ixA_d3 ixA_p0 ixA_p1 tyD_lay tyD_pr eqO_pt neO_stand cut_init cut_to dropLast_map' take_map' ite_rng true_and ite_lt zipDs_map enum_map eqO_b neO_b Nat.reduceAdd Nat.reduceSub Nat.reduceLeDiff Nat.reduceEqDiff Nat.zero_add if_true if_false Bool.not_true Bool.not_false Bool.and_true Bool.true_and Bool.and_false Bool.false_and Bool.or_true Bool.true_or Bool.or_false Bool.false_or Bool.false_eq_true beq_self_eq_true".splitOn " ").toArray.map fun s => Lean.mkIdent s.toName
  `(tactic| simp (disch := first | assumption | decide | omega) only [↓reduceIte, $[$ids:ident],*])
local macro_rules | `(tactic| walk_at "ev*") => do
  let ids := ("fnF seqG setG evS retG retV ifG asgG exprG appG forS opF callF consF nilF tupF lstF rdF cF tstF truF truD orT notT negF isiF isXD_n isXD_i isXD_b isXD_s isXD_t isXD_l isXD_d isXD_lay isXD_pr isxD_x isxD_n isxF atF frzG mlF cntB idxB neL_00 List.isEmpty_nil orO parG keyD evX callX raiseI raiseP fnX tryG clsG noEx unO tbl_same whileS nameG tupG_t tupG_d tupG_p consG nilG skipG itemsF seqD sliceF slD_l optF noF rng1F enumF zipF lcF innerS yesT er_sh er_un er_ac er_ad vw_sh vw_un vw_ac vw_ad toD_sh toD_ac toD_ad Sl.flat Option.bind_some Option.bind_none Option.map_none Option.map_some Option.getD_some List.map_cons List.map_nil List.getElem?_cons_zero List.getElem?_cons_succ List.set_cons_zero List.set_cons_succ List.length_cons List.length_nil List.nil_append List.cons_append List.replicate_succ List.replicate_zero addI_i subD_i mulD_r mulD_l mulD_i fdivD_s fdivD_i modD_i powD_i ltD_i gtD_i eqO_i neO_i ixA_t4_0 ixA_t4_1 ixA_t4_2 ixA_t4_3 ixA_t2_0 ixA_t2_1 ixA_l2i ixA_ints eqO_t2 List.length_map List.length_range List.length_replicate List.length_append List.length_zipIdx minB_i lenB_l lenB_t tyD_i tyD_b tyD_t tyD_l sub_ii sub_ib sub_bi sub_bb sub_tt sub_ll prD_mk layD_mk ixA_d0 ixA_d1 ixA_d2 ixA_d3 ixA_p0 ixA_p1 tyD_lay tyD_pr eqO_pt neO_stand cut_init cut_to dropLast_map' take_map' ite_rng true_and ite_lt zipDs_map enum_map eqO_b neO_b Nat.reduceAdd Nat.reduceSub Nat.reduceLeDiff Nat.reduceEqDiff Nat.zero_add if_true if_false Bool.not_true Bool.not_false Bool.and_true Bool.true_and Bool.and_false Bool.false_and Bool.or_true Bool.true_or Bool.or_false Bool.false_or Bool.false_eq_true beq_self_eq_true".splitOn " ").toArray.map fun s => Lean.mkIdent s.toName
  `(tactic| simp (disch := first | assumption | decide | omega) only [*, ↓reduceIte, $[$ids:ident],*])
namespace Gen
open PySem L2 L3
structure LayOk (L : Lay) : Prop where
  u0 : 0 ≤ L.u
  u6 : L.u ≤ 6
  w1 : 1 ≤ L.w
  w20 : L.w ≤ 20
  l0 : 0 ≤ L.l
  l24 : L.l ≤ 24
  b2 : 2 ≤ L.b
  b25 : L.b ≤ 25
  full : L.b ≤ L.u * L.w + L.l + 1
  flat : L.u = 0 → L.w = 1
  low : 0 < L.u → L.w ≤ L.l + 1
private theorem LayOk.uw {L : Lay} (h : LayOk L) : 0 ≤ L.u * L.w ∧ L.u * L.w ≤ 120 := by
  have u0 := h.u0
  have u6 := h.u6
  have w1 := h.w1
  have w20 := h.w20
  refine ⟨Int.mul_nonneg u0 (by omega), ?_⟩
  have := Int.mul_le_mul u6 w20 (by omega) (by omega)
  omega
end Gen
namespace Gen
open PySem L2 L3
private theorem cell_ex (ns : List Int) {k : Int} (h0 : 0 ≤ k) (h1 : k ≤ 10000) : ∃ c, f__law_cell [.l (ns.map D.i), .i k] = some (.sh (.i c)) := by
  by_cases hk : k < (ns.length : Int)
  · have hd : decide (k < (ns.length : Int)) = true := decide_eq_true hk
    have ix : ixA (.l (ns.map D.i)) (.i k) = some (.sh (.i (ns.getD k.toNat 0))) := ixA_ints h0 hk
    refine ⟨ns.getD k.toNat 0, ?_⟩
    simp only [f__law_cell, g__law_cell]
    clear hk h0 h1
    walk_at "ev*"
  · have hd : decide (k < (ns.length : Int)) = false := decide_eq_false hk
    by_cases hn : 0 < ns.length
    · have hp : decide ((0 : Int) < (ns.length : Int)) = true := decide_eq_true (by omega)
      have m0 := Int.emod_nonneg (k * 7) (show (ns.length : Int) ≠ 0 by omega)
      have m1 := Int.emod_lt_of_pos (k * 7) (show (0 : Int) < (ns.length : Int) by omega)
      have q0 := Int.emod_nonneg (ns.getD (k * 7 % (ns.length : Int)).toNat 0) (show (2147483647 : Int) ≠ 0 by decide)
      have q1 := Int.emod_lt_of_pos (ns.getD (k * 7 % (ns.length : Int)).toNat 0) (show (0 : Int) < 2147483647 by decide)
      have ix : ixA (.l (ns.map D.i)) (.i (k * 7 % (ns.length : Int))) = some (.sh (.i (ns.getD (k * 7 % (ns.length : Int)).toNat 0))) := ixA_ints m0 m1
      generalize ns.getD (k * 7 % (ns.length : Int)).toNat 0 = q at *
      clear m0 m1
      generalize hq : q % 2147483647 = r at *
      refine ⟨(k * 48271 + 11 + r * 69621) * (k * 48271 + 11 + r * 69621) % 2147483629, ?_⟩
      simp only [f__law_cell, g__law_cell]
      clear hk
      walk_at "ev*"
    · have hp : decide ((0 : Int) < (ns.length : Int)) = false := decide_eq_false (by omega)
      refine ⟨(k * 48271 + 11) * (k * 48271 + 11) % 2147483629, ?_⟩
      simp only [f__law_cell, g__law_cell]
      clear hk
      walk_at "ev*"
private theorem pow40 : opF powD (cF (.i 10)) (cF (.i 40)) = cF (.i 10000000000000000000000000000000000000000) := by
  funext ρ
  simp only [opF, cF, Option.bind_some, er_sh, vw_sh, toD_sh]
  rw [powD_i (by omega) (by decide)]
  rfl
private theorem ixA_l4i {a b c d k : Int} (h : 0 ≤ k ∧ k < 4) : ixA (.l [.i a, .i b, .i c, .i d]) (.i k) = some (.sh (.i (if k = 0 then a else if k = 1 then b else if k = 2 then c else d))) := by
  have : k = 0 ∨ k = 1 ∨ k = 2 ∨ k = 3 := by omega
  rcases this with rfl | rfl | rfl | rfl <;> rfl
private theorem lay_hiC {u w v m B : Int} (u1 : 1 ≤ u ∧ u ≤ 6) (w1 : 1 ≤ w ∧ w ≤ 20) (v0 : 0 ≤ v ∧ v < 5) (b0 : 2 ≤ B ∧ B ≤ m) (hm : m ≤ 25 ∧ m ≤ u * w + (w - 1 + v) + 1) : LayOk ⟨u, w, w - 1 + v, B⟩ := by
  have a : 0 ≤ w - 1 + v ∧ w - 1 + v ≤ 24 ∧ w ≤ w - 1 + v + 1 := by
    clear hm b0 u1
    omega
  obtain ⟨a1, a2, a3⟩ := a
  exact ⟨Int.le_trans (by decide) u1.1, u1.2, w1.1, w1.2, a1, a2, b0.1, Int.le_trans b0.2 hm.1, Int.le_trans b0.2 hm.2, fun e => absurd (show u = 0 from e) (Int.ne_of_gt (Int.lt_of_lt_of_le (by decide) u1.1)), fun _ => a3⟩
private theorem lay_loC {x y l : Int} (x0 : 0 ≤ x ∧ x < 24) (y0 : 0 ≤ y) (hl : (if 2 + x - 1 + y < 24 then 2 + x - 1 + y else 24) = l) : LayOk ⟨0, 1, l, 2 + x⟩ := by
  have a : 0 ≤ l ∧ l ≤ 24 ∧ 2 + x ≤ 0 * 1 + l + 1 ∧ 2 ≤ 2 + x ∧ 2 + x ≤ 25 := by
    subst hl
    split <;> omega
  obtain ⟨a1, a2, a3, a4, a5⟩ := a
  exact ⟨Int.le_refl _, (by decide : (0 : Int) ≤ 6), Int.le_refl _, (by decide : (1 : Int) ≤ 20), a1, a2, a4, a5, a3, fun _ => rfl, fun e => absurd e (Int.lt_irrefl 0)⟩
private theorem lay_runC0 {c0 c u : Int} (hc : c0 % 10000000000000000000000000000000000000000 = c) (hu : (if c % 4 = 0 then 0 else if c % 4 = 1 then 1 else if c % 4 = 2 then 2 else 1 + c / 4 % 6) = u) (hb : (u == 0) = true) :
    f__law_layout [.i c0] = some (.sh (Lay.d ⟨0, 1, if 2 + c / 24 % 24 - 1 + c / 576 % 4 < 24 then 2 + c / 24 % 24 - 1 + c / 576 % 4 else 24, 2 + c / 24 % 24⟩)) := by
  have l4 := @ixA_l4i
  have h4 : 0 ≤ c % 4 ∧ c % 4 < 4 := ⟨Int.emod_nonneg _ (by decide), Int.emod_lt_of_pos _ (by decide)⟩
  have h2 : ∀ x : Int, x % 2 = 0 ∨ x % 2 = 1 := Int.emod_two_eq
  have h5 := h2 (c / 480)
  have h6 := h2 (c / 9600)
  clear h2
  simp only [f__law_layout, g__law_layout, pow40]
  walk_at "ev*"
private theorem lay_runC {c0 c u w m : Int} (hc : c0 % 10000000000000000000000000000000000000000 = c) (hu : (if c % 4 = 0 then 0 else if c % 4 = 1 then 1 else if c % 4 = 2 then 2 else 1 + c / 4 % 6) = u) (hb : (u == 0) = false) (hw : (if c / 480 % 2 = 0 then 5 else 1 + c / 24 % 20) = w) (wl : -18446744073709551616 < w ∧ w < 18446744073709551616)
    (hm : (if u * w + (w - 1 + c / 960 % 5) + 1 < 25 then u * w + (w - 1 + c / 960 % 5) + 1 else 25) = m) (m1 : 0 < m - 1) :
    f__law_layout [.i c0] = some (.sh (Lay.d ⟨u, w, w - 1 + c / 960 % 5, if c / 9600 % 2 = 0 then m else 2 + c / 4800 % (m - 1)⟩)) := by
  have l4 := @ixA_l4i
  have h4 : 0 ≤ c % 4 ∧ c % 4 < 4 := ⟨Int.emod_nonneg _ (by decide), Int.emod_lt_of_pos _ (by decide)⟩
  have h2 : ∀ x : Int, x % 2 = 0 ∨ x % 2 = 1 := Int.emod_two_eq
  have h5 := h2 (c / 480)
  have h6 := h2 (c / 9600)
  clear h2
  simp only [f__law_layout, g__law_layout, pow40]
  walk_at "ev*"
private theorem layout_ex (c0 : Int) : ∃ L : Lay, f__law_layout [.i c0] = some (.sh L.d) ∧ LayOk L := by
  obtain ⟨c, hc⟩ : ∃ c, c0 % 10000000000000000000000000000000000000000 = c := ⟨_, rfl⟩
  obtain ⟨u, hu⟩ : ∃ u, (if c % 4 = 0 then 0 else if c % 4 = 1 then 1 else if c % 4 = 2 then 2 else 1 + c / 4 % 6) = u := ⟨_, rfl⟩
  have u6 : 0 ≤ u ∧ u ≤ 6 := by
    subst hu
    clear hc
    split
    · exact ⟨by decide, by decide⟩
    · split
      · exact ⟨by decide, by decide⟩
      · split
        · exact ⟨by decide, by decide⟩
        · exact ⟨Int.add_nonneg (by decide) (Int.emod_nonneg _ (by decide)), Int.add_le_add_left (Int.le_of_lt_add_one (Int.emod_lt_of_pos _ (by decide)) : c / 4 % 6 ≤ 5) 1⟩
  cases hb : (u == 0) with
  | true => exact ⟨_, lay_runC0 hc hu hb, lay_loC ⟨Int.emod_nonneg _ (by decide), Int.emod_lt_of_pos _ (by decide)⟩ (Int.emod_nonneg _ (by decide)) rfl⟩
  | false =>
    have u1 : 1 ≤ u := Int.add_one_le_of_lt (Int.lt_iff_le_and_ne.mpr ⟨u6.1, Ne.symm (beq_eq_false_iff_ne.mp hb)⟩)
    obtain ⟨w, hw⟩ : ∃ w, (if c / 480 % 2 = 0 then 5 else 1 + c / 24 % 20) = w := ⟨_, rfl⟩
    have w1 : 1 ≤ w ∧ w ≤ 20 := by
      subst hw
      split
      · exact ⟨by decide, by decide⟩
      · exact ⟨Int.le_add_of_nonneg_right (Int.emod_nonneg _ (by decide)), Int.add_le_add_left (Int.le_of_lt_add_one (Int.emod_lt_of_pos _ (by decide)) : c / 24 % 20 ≤ 19) 1⟩
    have v0 : 0 ≤ c / 960 % 5 ∧ c / 960 % 5 < 5 := ⟨Int.emod_nonneg _ (by decide), Int.emod_lt_of_pos _ (by decide)⟩
    obtain ⟨m, hm⟩ : ∃ m, (if u * w + (w - 1 + c / 960 % 5) + 1 < 25 then u * w + (w - 1 + c / 960 % 5) + 1 else 25) = m := ⟨_, rfl⟩
    have uw : 1 * 1 ≤ u * w := Int.mul_le_mul u1 w1.1 (by decide) (Int.le_trans (by decide) u1)
    have m2 : 2 ≤ m ∧ m ≤ 25 ∧ m ≤ u * w + (w - 1 + c / 960 % 5) + 1 := by
      subst hm
      clear hc hu hb hw u6 u1
      generalize u * w = z at *
      generalize c / 960 % 5 = v at *
      split <;> omega
    have m1 : 0 < m - 1 := Int.sub_pos_of_lt (Int.lt_of_lt_of_le (by decide) m2.1)
    refine ⟨_, lay_runC hc hu hb hw ⟨Int.lt_of_lt_of_le (by decide) w1.1, Int.lt_of_le_of_lt w1.2 (by decide)⟩ hm m1, lay_hiC ⟨u1, u6.2⟩ w1 v0 ?_ m2.2⟩
    split
    · exact ⟨m2.1, Int.le_refl _⟩
    · have q0 := Int.emod_nonneg (c / 4800) (Int.ne_of_gt m1)
      have q1 := Int.emod_lt_of_pos (c / 4800) m1
      clear hc hu hb hw hm u6 u1 w1 v0 uw
      omega
end Gen
namespace Gen
open PySem L2 L3
noncomputable def FrOk (fr : List Lay) : Prop := ∀ L ∈ fr, LayOk L
private theorem frame_ex (ns : List Int) {a m : Int} (a0 : 0 ≤ a) (a1 : a ≤ 5000) (h0 : 1 ≤ m) (h1 : m ≤ 100) : ∃ fr : List Lay, f__law_frame [.l (ns.map D.i), .i a, .i m] = some (.ac (fr.map Lay.d)) ∧ FrOk fr ∧ 1 ≤ fr.length ∧ (fr.length : Int) ≤ m := by
  obtain ⟨c, hc⟩ := cell_ex ns (k := a) (by omega) (by omega)
  have m00 : 0 < m := Int.lt_of_lt_of_le (by decide) h0
  have m0 := Int.emod_nonneg c (Int.ne_of_gt m00)
  have m1 := Int.emod_lt_of_pos c m00
  obtain ⟨fr, e, hl, hr⟩ := compG_exR (out := Lay.d) (R := fun _ L => LayOk L) (h := nameG 0) (f := e__law_frame_1) (n := (1 + c % m).toNat) (ρ := [.un, .sh (.l (ns.map D.i)), .sh (.i a)]) (fun ρ => ∃ x, ρ = [x, .sh (.l (ns.map D.i)), .sh (.i a)]) ⟨_, rfl⟩ fun i hi ρ zq9 => by
    obtain ⟨x, hx⟩ := zq9
    subst hx
    obtain ⟨c', hc'⟩ := cell_ex ns (k := a + 1 + (i : Int)) (Int.add_nonneg (Int.add_nonneg a0 (by decide)) (Int.natCast_nonneg i)) (by clear hc; omega)
    obtain ⟨L, hL, ok⟩ := layout_ex c'
    refine ⟨_, L, .sh L.d, rfl, ⟨_, rfl⟩, ?_, rfl, ok⟩
    simp only [e__law_frame_1]
    clear hc m0 m1
    walk_at "ev*"
  have hh : 1 ≤ fr.length ∧ (fr.length : Int) ≤ m := by
    rw [hl]
    clear hr e hc a0 a1 h1 m00
    omega
  refine ⟨fr, ?_, fun L hL => ?_, hh⟩
  · simp only [f__law_frame, g__law_frame]
    clear hr hh h0 a0 a1
    walk_at "ev*"
  · obtain ⟨i, hi, rfl⟩ := List.getElem_of_mem hL
    exact hr i _ (List.getElem?_eq_getElem hi)
end Gen
namespace Gen
open PySem L2 L3
private theorem FrOk.sub {fr gr : List Lay} (h : FrOk fr) (s : ∀ L ∈ gr, L ∈ fr) : FrOk gr := fun L hL => h L (s L hL)
private theorem FrOk.dropLast {fr : List Lay} (h : FrOk fr) : FrOk fr.dropLast := h.sub fun L hL => List.dropLast_subset fr hL
private theorem FrOk.take {fr : List Lay} (h : FrOk fr) (k : Nat) : FrOk (fr.take k) := h.sub fun L hL => List.mem_of_mem_take hL
noncomputable def plc : List Lay → Int
  | [] => 1
  | L :: r => L.b * plc r
private theorem plc_succ : ∀ (fr : List Lay) (i : Nat) (L : Lay), fr[i]? = some L → plc (fr.take (i + 1)) = plc (fr.take i) * L.b
  | [], _, _, h => by simp at h
  | K :: r, 0, L, h => by simp at h; subst h; simp [plc]
  | K :: r, i + 1, L, h => by
    have := plc_succ r i L (by simpa using h)
    simp only [List.take_succ_cons, plc, this, Int.mul_assoc]
private theorem plc_pos : ∀ (fr : List Lay), FrOk fr → 1 ≤ plc fr
  | [], _ => Int.le_refl _
  | L :: r, ok => by
    have b2 := (ok L List.mem_cons_self).b2
    have := plc_pos r fun K hK => ok K (List.mem_cons_of_mem _ hK)
    have : 1 * 1 ≤ L.b * plc r := Int.mul_le_mul (by omega) this (by omega) (by omega)
    simpa [plc] using this
private theorem plc_le : ∀ (fr : List Lay), FrOk fr → plc fr ≤ 25 ^ fr.length
  | [], _ => Int.le_refl _
  | L :: r, ok => by
    have b2 := (ok L List.mem_cons_self).b2
    have b25 := (ok L List.mem_cons_self).b25
    have h1 := plc_le r fun K hK => ok K (List.mem_cons_of_mem _ hK)
    have h0 := plc_pos r fun K hK => ok K (List.mem_cons_of_mem _ hK)
    have : L.b * plc r ≤ 25 * 25 ^ r.length := Int.mul_le_mul b25 h1 (by omega) (by omega)
    show L.b * plc r ≤ 25 ^ (r.length + 1)
    rw [Int.pow_succ, Int.mul_comm (25 ^ r.length) 25]
    exact this
private theorem plc_bound {fr : List Lay} (ok : FrOk fr) (hl : fr.length ≤ 20) : plc fr ≤ 9094947017729282379150390625 := by
  refine Int.le_trans (plc_le fr ok) ?_
  have e : ∀ n : Nat, (25 : Int) ^ n = ((25 ^ n : Nat) : Int) := fun n => by simp
  have h1 : 25 ^ fr.length ≤ 25 ^ 20 := Nat.pow_le_pow_right (by decide) hl
  have h2 : (25 : Nat) ^ 20 = 9094947017729282379150390625 := by decide +kernel
  rw [e]
  omega
end Gen
namespace Gen
open PySem L2 L3
end Gen
namespace Gen
open PySem L2 L3
noncomputable def plainOf (L : Lay) (n : Int) : Int × Int := (if n / L.w < L.u then n / L.w else L.u, n - (if n / L.w < L.u then n / L.w else L.u) * L.w)
noncomputable def fullOf (L : Lay) : Int := L.u * L.w + L.l
private theorem plain_of_eq {L : Lay} (ok : LayOk L) (n : Int) : f_plain_of [L.d, .i n] = some (.sh (prD (plainOf L n))) := by
  have w1 := ok.w1
  have w20 := ok.w20
  have u0 := ok.u0
  have u6 := ok.u6
  simp only [f_plain_of, g_plain_of, c_UPPER, c_WORTH, plainOf]
  walk_at "ev"
end Gen
namespace Gen
open PySem L2 L3
private theorem full_worth_eq {L : Lay} (ok : LayOk L) : f_full_worth [L.d] = some (.sh (.i (fullOf L))) := by
  have u0 := ok.u0
  have u6 := ok.u6
  simp only [f_full_worth, g_full_worth, c_UPPER, c_WORTH, c_LOWER, fullOf]
  walk_at "ev"
private theorem most_tidy_eq {fr : List Lay} (ok : FrOk fr) {i : Nat} {L : Lay} (hL : fr[i]? = some L) : f_most_tidy [.l (fr.map Lay.d), .i (i : Nat)] = some (.sh (.i (if i + 1 = fr.length then fullOf L else L.b - 1))) := by
  have hi : i < fr.length := (List.getElem?_eq_some_iff.mp hL).1
  have ix : ixA (.l (fr.map Lay.d)) (.i (i : Nat)) = some (.sh L.d) := ixA_map (by omega) (by simpa using hL)
  have fw := full_worth_eq (ok L (List.mem_of_getElem? hL))
  simp only [f_most_tidy, g_most_tidy, c_BASE]
  clear ok hL
  by_cases c : i + 1 = fr.length
  · have hb : ((i : Int) == (fr.length : Int) - 1) = true := beq_iff_eq.mpr (by omega)
    rw [if_pos c]
    clear c hi
    walk_at "ev*"
  · have hb : ((i : Int) == (fr.length : Int) - 1) = false := beq_eq_false_iff_ne.mpr (by omega)
    rw [if_neg c]
    clear c hi
    walk_at "ev*"
end Gen
namespace Gen
open PySem L2 L3
noncomputable def digs : List Lay → Int → List Int
  | [], _ => []
  | L :: r, n => n % L.b :: digs r (n / L.b)
noncomputable def left : List Lay → Int → Int
  | [], n => n
  | L :: r, n => left r (n / L.b)
private theorem digits_loop {s0 s1 : Sl} : ∀ (bs : List Lay) (acc : List Int) (n : Int) (x4 : Sl), FrOk bs → acc.length + bs.length ≤ 1000 →
    ∃ y4, forG (nameG 4) b_digits_of_1 (bs.map Lay.d) [s0, s1, .ac (acc.map D.i), .sh (.i n), x4] = some (.nx [s0, s1, .ac ((acc ++ digs bs n).map D.i), .sh (.i (left bs n)), y4])
  | [], acc, n, x4, _, _ => ⟨x4, by rw [List.map_nil, forG_nil]; simp [digs, left]⟩
  | L :: bs, acc, n, x4, hb, hl => by
    have ok := hb L List.mem_cons_self
    have b2 := ok.b2
    have b25 := ok.b25
    simp only [List.length_cons] at hl
    obtain ⟨y4, ih⟩ := digits_loop (s0 := s0) (s1 := s1) bs (acc ++ [n % L.b]) (n / L.b) (.sh L.d) (fun K hK => hb K (List.mem_cons_of_mem _ hK)) (by simp; omega)
    refine ⟨y4, ?_⟩
    have st : b_digits_of_1 [s0, s1, .ac (acc.map D.i), .sh (.i n), .sh L.d] = some (.nx [s0, s1, .ac ((acc ++ [n % L.b]).map D.i), .sh (.i (n / L.b)), .sh L.d]) := by
      simp only [b_digits_of_1, c_BASE]
      clear ih hb ok
      rw [List.map_append]
      walk_at "ev"
    rw [List.map_cons, forG_step (ρ1 := [s0, s1, .ac (acc.map D.i), .sh (.i n), .sh L.d]) rfl st, ih]
    simp [digs, left]
noncomputable def digitsOf (fr : List Lay) (n : Int) : List Int := digs fr.dropLast n ++ [left fr.dropLast n]
private theorem digs_length : ∀ (fr : List Lay) (n : Int), (digs fr n).length = fr.length
  | [], _ => rfl
  | _ :: r, n => by simp [digs, digs_length r]
private theorem digitsOf_length {fr : List Lay} {n : Int} (h : 1 ≤ fr.length) : (digitsOf fr n).length = fr.length := by
  unfold digitsOf
  rw [List.length_append, digs_length, List.length_dropLast]
  simp; omega
private theorem digits_of_eq {fr : List Lay} (h : FrOk fr) (hl : fr.length ≤ 100) (n : Int) : f_digits_of [.l (fr.map Lay.d), .i n] = some (.ac ((digitsOf fr n).map D.i)) := by
  obtain ⟨y4, lp⟩ := digits_loop (s0 := .sh (.l (fr.map Lay.d))) (s1 := .sh (.i n)) fr.dropLast [] n .un h.dropLast (by rw [List.length_dropLast]; simp; omega)
  rw [List.map_nil, List.nil_append] at lp
  simp only [f_digits_of, g_digits_of, digitsOf]
  have hd : (digs fr.dropLast n).length < 10000000 := by rw [digs_length, List.length_dropLast]; omega
  rw [List.map_append]
  walk_at "ev*"
private theorem digit_last {fr : List Lay} {n : Int} {i : Nat} (hi : i + 1 = fr.length) : (digitsOf fr n)[i]? = some (left (fr.take i) n) := by
  unfold digitsOf
  rw [List.getElem?_append_right (by rw [digs_length, List.length_dropLast]; omega), digs_length, List.length_dropLast, show i - (fr.length - 1) = 0 by omega, List.dropLast_eq_take, show fr.length - 1 = i by omega]; rfl
end Gen
namespace Gen
open PySem L2 L3
private theorem place_loop {s0 s1 : Sl} : ∀ (gr : List Lay) (p : Int) (x3 : Sl), FrOk gr → ∃ y3, forG (nameG 3) b_place_of_1 (gr.map Lay.d) [s0, s1, .sh (.i p), x3] = some (.nx [s0, s1, .sh (.i (p * plc gr)), y3])
  | [], p, x3, _ => ⟨x3, by rw [List.map_nil, forG_nil, plc, Int.mul_one]⟩
  | L :: gr, p, x3, ok => by
    have b2 := (ok L List.mem_cons_self).b2
    have b25 := (ok L List.mem_cons_self).b25
    obtain ⟨y3, ih⟩ := place_loop (s0 := s0) (s1 := s1) gr (p * L.b) (.sh L.d) fun K hK => ok K (List.mem_cons_of_mem _ hK)
    refine ⟨y3, ?_⟩
    rw [List.map_cons, forG_step (ρ1 := [s0, s1, .sh (.i p), .sh L.d]) (ρ2 := [s0, s1, .sh (.i (p * L.b)), .sh L.d]) rfl (by
      simp only [b_place_of_1, c_BASE]
      clear ih ok
      walk_at "ev"), ih, plc, Int.mul_assoc]
private theorem place_of_eq {fr : List Lay} (ok : FrOk fr) (i : Nat) : f_place_of [.l (fr.map Lay.d), .i (i : Nat)] = some (.sh (.i (plc (fr.take i)))) := by
  obtain ⟨y3, lp⟩ := place_loop (s0 := .sh (.l (fr.map Lay.d))) (s1 := .sh (.i (i : Nat))) (fr.take i) 1 .un (ok.take i)
  rw [Int.one_mul] at lp
  have ht : ((i : Nat) : Int).toNat = i := by omega
  simp only [f_place_of, g_place_of]
  clear ok
  walk_at "ev*"
end Gen
namespace Gen
open PySem L2 L3
private theorem left_div : ∀ (fr : List Lay) (n : Int), FrOk fr → left fr n = n / plc fr
  | [], n, _ => by simp [left, plc]
  | L :: r, n, ok => by
    have b2 := (ok L List.mem_cons_self).b2
    have := left_div r (n / L.b) fun K hK => ok K (List.mem_cons_of_mem _ hK)
    rw [left, this, plc, Int.ediv_ediv_of_nonneg (by omega)]
noncomputable def tidyL (fr : List Lay) (n : Int) : List (Int × Int) := (fr.zip (digitsOf fr n)).map fun p => plainOf p.1 p.2
structure Last (fr : List Lay) (L : Lay) : Prop where
  get : fr[fr.length - 1]? = some L
  pos : 1 ≤ fr.length
private theorem Last.ex {fr : List Lay} (h : 1 ≤ fr.length) : ∃ L, Last fr L := ⟨_, List.getElem?_eq_getElem (by omega), h⟩
noncomputable def gre (fr : List Lay) (L : Lay) : Int := plc fr.dropLast * (fullOf L + 1) - 1
private theorem last_digit {fr : List Lay} {L : Lay} (l : Last fr L) (n : Int) : (digitsOf fr n)[fr.length - 1]? = some (left fr.dropLast n) := by
  have := digit_last (fr := fr) (n := n) (i := fr.length - 1) (by have := l.pos; omega)
  rw [List.dropLast_eq_take]; exact this
private theorem full_bound {L : Lay} (ok : LayOk L) : 0 ≤ fullOf L ∧ fullOf L ≤ 144 := by
  have := ok.uw
  have := ok.l0
  have := ok.l24
  unfold fullOf
  omega
private theorem gre_iff {fr : List Lay} {L : Lay} (ok : FrOk fr) {n : Int} : fullOf L < left fr.dropLast n ↔ gre fr L < n := by
  have p0 := plc_pos _ ok.dropLast
  rw [left_div _ _ ok.dropLast]
  unfold gre
  have := Int.le_ediv_iff_mul_le (a := fullOf L + 1) (b := n) (c := plc fr.dropLast) (by omega)
  rw [Int.mul_comm] at this
  omega
private theorem gre_bound {fr : List Lay} {L : Lay} (ok : FrOk fr) (l : Last fr L) (hl : fr.length ≤ 20) : 0 ≤ gre fr L ∧ gre fr L ≤ 1350000000000000000000000000000 := by
  have p0 := plc_pos _ ok.dropLast
  have p1 := plc_bound ok.dropLast (by rw [List.length_dropLast]; omega)
  have fb := full_bound (ok L (List.mem_of_getElem? l.get))
  have a := Int.mul_le_mul p0 (show 1 ≤ fullOf L + 1 by omega) (by decide) (by omega)
  have b := Int.mul_le_mul p1 (show fullOf L + 1 ≤ 145 by omega) (by omega) (by decide)
  unfold gre
  omega
private theorem tidy_comp {fr : List Lay} (ok : FrOk fr) (n : Int) : compG (tupG 2 (consG (nameG 0) (consG (nameG 1) nilG))) yesT e_tidy_of_1 ((fr.zip (digitsOf fr n)).map fun p => D.t [Lay.d p.1, D.i p.2]) [.un, .un] = some ((tidyL fr n).map prD) := by
  have cm := compG_map (enc := fun p : Lay × Int => D.t [Lay.d p.1, D.i p.2]) (F := fun p => prD (plainOf p.1 p.2)) (h := tupG 2 (consG (nameG 0) (consG (nameG 1) nilG))) (f := e_tidy_of_1) (xs := fr.zip (digitsOf fr n)) (ρ := [.un, .un]) (fun ρ => ∃ x y, ρ = [x, y]) ⟨_, _, rfl⟩ fun q hq ρ zq9 => by
    obtain ⟨x, y, e⟩ := zq9
    subst e
    obtain ⟨L, d⟩ := q
    have po := plain_of_eq (ok L (List.of_mem_zip hq).1) d
    refine ⟨_, .sh (prD (plainOf L d)), rfl, ⟨_, _, rfl⟩, ?_, rfl⟩
    simp only [e_tidy_of_1]
    clear ok hq
    walk_at "ev*"
  rw [cm, tidyL, List.map_map]; rfl
private theorem tidy_facts {fr : List Lay} {L : Lay} (ok : FrOk fr) (l : Last fr L) (n : Int) :
    ixA (.l ((digitsOf fr n).map D.i)) (.i ((fr.length : Int) - 1)) = some (.sh (.i (left fr.dropLast n))) ∧ f_most_tidy [.l (fr.map Lay.d), .i ((fr.length : Int) - 1)] = some (.sh (.i (fullOf L))) := by
  have h1 := l.pos
  refine ⟨ixA_map (by omega) (by rw [show ((fr.length : Int) - 1).toNat = fr.length - 1 by omega]; exact last_digit l n), ?_⟩
  have mt := most_tidy_eq ok l.get
  rw [if_pos (by omega), show ((fr.length - 1 : Nat) : Int) = (fr.length : Int) - 1 by omega] at mt
  exact mt
private theorem tidy_of_ok {fr : List Lay} {L : Lay} (ok : FrOk fr) (l : Last fr L) (hl : fr.length ≤ 20) {n : Int} (h : n ≤ gre fr L) : f_tidy_of [.l (fr.map Lay.d), .i n] = some (.ac ((tidyL fr n).map prD)) := by
  have h1 := l.pos
  have dg := digits_of_eq ok (by omega) n
  obtain ⟨t1, t2⟩ := tidy_facts ok l n
  have t3 : decide (fullOf L < left fr.dropLast n) = false := decide_eq_false (by rw [gre_iff ok]; omega)
  have cm := tidy_comp ok n
  have ln : (fr.zip (digitsOf fr n)).length < 10000000 := by rw [List.length_zip, digitsOf_length h1]; omega
  simp only [f_tidy_of, g_tidy_of]
  clear ok l h
  walk_at "ev*"
end Gen
namespace Gen
open PySem L2 L3
private theorem tidy_of_ex {fr : List Lay} {L : Lay} (ok : FrOk fr) (l : Last fr L) (hl : fr.length ≤ 20) {n : Int} (h : gre fr L < n) :
    f_tidy_of [.l (fr.map Lay.d), .i n] = none ∧ x_tidy_of [.l (fr.map Lay.d), .i n] = some ⟨"TooGreat", ["rod"], [.i ((fr.length : Int) - 1)]⟩ := by
  have h1 := l.pos
  have dg := digits_of_eq ok (by omega) n
  obtain ⟨t1, t2⟩ := tidy_facts ok l n
  have t3 : decide (fullOf L < left fr.dropLast n) = true := decide_eq_true (by rw [gre_iff ok]; omega)
  constructor
  · simp only [f_tidy_of, g_tidy_of]
    clear ok l h
    walk_at "ev*"
  · simp only [x_tidy_of, g_tidy_of]
    clear ok l h
    walk_at "ev*"
end Gen
namespace Gen
open PySem L2 L3
private theorem eu_step {a b n : Nat} (h : b ≤ a) (hb : 0 < b) (hn : a * b < 2 ^ (n + 1)) : a % b ≤ b ∧ b * (a % b) < 2 ^ n := by
  have r := Nat.mod_lt a hb
  refine ⟨Nat.le_of_lt r, ?_⟩
  have q : 1 ≤ a / b := Nat.div_pos h hb
  have e := Nat.div_add_mod a b
  have s : b + a % b ≤ a := by
    have : b * 1 ≤ b * (a / b) := Nat.mul_le_mul_left b q
    omega
  have t : (b + a % b) * b ≤ a * b := Nat.mul_le_mul_right b s
  have u : a % b * b ≤ b * b := Nat.mul_le_mul_right b (Nat.le_of_lt r)
  rw [Nat.add_mul] at t
  rw [Nat.mul_comm b (a % b)]
  rw [Nat.pow_succ] at hn
  omega
private theorem gcd_mod' (a b : Nat) : Nat.gcd b (a % b) = Nat.gcd a b := by rw [Nat.gcd_comm b, ← Nat.gcd_rec, Nat.gcd_comm]
private theorem eu_while {t : List Sl → Option Bool} {g : List Sl → Option Out} {st : Nat → Nat → Sl → List Sl} (t0 : ∀ a x, t (vw (st a 0 x)) = some false) (t1 : ∀ a b x, 0 < b → t (vw (st a b x)) = some true)
    (gs : ∀ a b x, 0 < b → ∃ y, g (st a b x) = some (.nx (st b (a % b) y))) : ∀ (n m a b : Nat) (x : Sl), b ≤ a → a * b < 2 ^ n → n < m → ∃ y, whileG t g m (st a b x) = some (.nx (st (Nat.gcd a b) 0 y))
  | n, 0, _, _, _, _, _, hm => absurd hm (Nat.not_lt_zero n)
  | n, m + 1, a, b, x, h, hn, hm => by
    by_cases hb : b = 0
    · subst hb
      refine ⟨x, ?_⟩
      unfold whileG
      rw [t0, Nat.gcd_zero_right]
    · have hb' : 0 < b := by omega
      cases n with
      | zero =>
        have : 1 * 1 ≤ a * b := Nat.mul_le_mul (by omega) hb'
        omega
      | succ n =>
        obtain ⟨s1, s2⟩ := eu_step h hb' hn
        obtain ⟨z, hz⟩ := gs a b x hb'
        obtain ⟨y, ih⟩ := eu_while t0 t1 gs n m b (a % b) z s1 s2 (by omega)
        refine ⟨y, ?_⟩
        unfold whileG
        rw [t1 a b x hb', hz]
        show whileG t g m _ = _
        rw [ih, gcd_mod']
private theorem eu_all {t : List Sl → Option Bool} {g : List Sl → Option Out} {st : Nat → Nat → Sl → List Sl} (t0 : ∀ a x, t (vw (st a 0 x)) = some false) (t1 : ∀ a b x, 0 < b → t (vw (st a b x)) = some true)
    (gs : ∀ a b x, 0 < b → ∃ y, g (st a b x) = some (.nx (st b (a % b) y))) {a b : Nat} {x : Sl} (ha : a < 2 ^ 400) (hb : b < 2 ^ 400) : ∃ y, whileG t g turns (st a b x) = some (.nx (st (Nat.gcd a b) 0 y)) := by
  have p : ∀ {c d : Nat}, c < 2 ^ 400 → d < 2 ^ 400 → c * d < 2 ^ 800 := fun {c d} hc hd => by
    rw [show (2 : Nat) ^ 800 = 2 ^ 400 * 2 ^ 400 from (Nat.pow_add 2 400 400)]
    exact Nat.mul_lt_mul'' hc hd
  by_cases h : b ≤ a
  · exact eu_while t0 t1 gs 800 turns a b x h (p ha hb) (Nat.lt_of_lt_of_le (by decide) (turns_ge (n := 900) (by decide)))
  · obtain ⟨m, hm⟩ : ∃ m, turns = m + 1 := ⟨turns - 1, by have := turns_ge (n := 900) (by decide); omega⟩
    have hm9 : 800 < m := by have := turns_ge (n := 900) (by decide); omega
    have hb0 : 0 < b := by omega
    obtain ⟨z, hz⟩ := gs a b x hb0
    rw [Nat.mod_eq_of_lt (by omega : a < b)] at hz
    obtain ⟨y, ih⟩ := eu_while t0 t1 gs 800 m b a z (by omega) (p hb ha) hm9
    refine ⟨y, ?_⟩
    rw [hm]
    unfold whileG
    rw [t1 a b x hb0, hz]
    show whileG t g m _ = _
    rw [ih, Nat.gcd_comm]
private theorem beq_zero_pos {b : Nat} (h : 0 < b) : ((b : Int) == 0) = false := beq_eq_false_iff_ne.mpr (by omega)
private theorem law_divisor_eq {a b : Nat} (ha : a < 2 ^ 400) (hb : b < 2 ^ 400) : f__law_divisor [.i (a : Nat), .i (b : Nat)] = some (.sh (.i (Nat.gcd a b : Nat))) := by
  obtain ⟨y, lp⟩ := eu_all (t := tstF (opF neO (rdF 1) (cF (.i 0)))) (g := b__law_divisor_1) (st := fun a b _ => [.sh (.i (a : Nat)), .sh (.i (b : Nat))]) (fun a x => rfl) (fun a b x h => by
    have hd := beq_zero_pos h
    clear h ha hb
    simp only [vw]
    walk_at "ev*") (fun a b x h => ⟨.un, by
    have hd : (0 : Int) < (b : Int) := by omega
    rw [Int.natCast_emod]
    simp only [b__law_divisor_1, parG]
    clear h ha hb
    walk_at "ev*"⟩) (x := .un) ha hb
  simp only [f__law_divisor, g__law_divisor]
  clear ha hb
  walk_at "ev*"
private theorem greatest_divisor_eq {a b : Nat} (ha : a < 2 ^ 400) (hb : b < 2 ^ 400) : f_greatest_divisor [.i (a : Nat), .i (b : Nat)] = some (.sh (.i (Nat.gcd a b : Nat))) := by
  obtain ⟨y, lp⟩ := eu_all (t := tstF (opF neO (rdF 1) (cF (.i 0)))) (g := b_greatest_divisor_1) (st := fun a b x => [.sh (.i (a : Nat)), .sh (.i (b : Nat)), x]) (fun a x => rfl) (fun a b x h => by
    have hd := beq_zero_pos h
    clear h ha hb
    simp only [vw]
    walk_at "ev*") (fun a b x h => ⟨.sh (.i ((a % b : Nat) : Int)), by
    have hd : (0 : Int) < (b : Int) := by omega
    rw [Int.natCast_emod]
    simp only [b_greatest_divisor_1]
    clear h ha hb
    walk_at "ev*"⟩) (x := .un) ha hb
  simp only [f_greatest_divisor, g_greatest_divisor]
  clear ha hb
  walk_at "ev*"
private theorem p400 {a : Int} (h : 0 ≤ a ∧ a < 1606938044258990275541962092341162602522202993782792835301376 * 1606938044258990275541962092341162602522202993782792835301376) : ∃ n : Nat, a = (n : Int) ∧ n < 2 ^ 400 := by
  refine ⟨a.toNat, by omega, ?_⟩
  have e : (2 : Nat) ^ 400 = 1606938044258990275541962092341162602522202993782792835301376 * 1606938044258990275541962092341162602522202993782792835301376 := by decide +kernel
  rw [e]
  omega
noncomputable def low (a b : Int) : Int × Int := (a / (Int.gcd a b : Nat), b / (Int.gcd a b : Nat))
private theorem fdiv4 {a : Int} {n : Nat} (h : 0 < n) (hn : n < 2 ^ 400) : fdivD (.i a) (.i (n : Nat)) = some (.sh (.i (a / (n : Nat)))) := fdivD_big (by omega) (by
  rw [Int.natAbs_natCast]
  exact Nat.lt_of_lt_of_le hn (Nat.pow_le_pow_right (by decide) (by decide)))
private theorem lowest_terms_eq {a b : Int} (ha : 0 ≤ a ∧ a < 1606938044258990275541962092341162602522202993782792835301376 * 1606938044258990275541962092341162602522202993782792835301376) (hb : 0 < b ∧ b < 1606938044258990275541962092341162602522202993782792835301376 * 1606938044258990275541962092341162602522202993782792835301376) : f_lowest_terms [.i a, .i b] = some (.sh (prD (low a b))) := by
  obtain ⟨m, rfl, hm⟩ := p400 (a := a) (by omega)
  obtain ⟨n, rfl, hn⟩ := p400 (a := b) (by omega)
  have gd := greatest_divisor_eq hm hn
  have g0 : 0 < Nat.gcd m n := Nat.gcd_pos_of_pos_right m (n := n) (by omega)
  have g1 : Nat.gcd m n < 2 ^ 400 := Nat.lt_of_le_of_lt (Nat.gcd_le_right m (n := n) (by omega)) hn
  have d1 := fdiv4 (a := (m : Int)) g0 g1
  have d2 := fdiv4 (a := (n : Int)) g0 g1
  simp only [f_lowest_terms, g_lowest_terms, low, prD_mk]
  rw [show Int.gcd (m : Int) (n : Int) = Nat.gcd m n from rfl]
  clear hm hn ha hb g0 g1
  walk_at "ev*"
private theorem low_spec {a b : Int} (ha : 0 ≤ a) (hb : 0 < b) : 0 ≤ (low a b).1 ∧ (low a b).1 ≤ a ∧ 1 ≤ (low a b).2 ∧ (low a b).2 ≤ b ∧ (low a b).1 * b = a * (low a b).2 ∧ Nat.gcd (low a b).1.toNat (low a b).2.toNat = 1 := by
  obtain ⟨m, rfl⟩ := Int.eq_ofNat_of_zero_le ha
  obtain ⟨n, rfl⟩ := Int.eq_ofNat_of_zero_le (Int.le_of_lt hb)
  have hn : 0 < n := by omega
  have g0 := Nat.gcd_pos_of_pos_right m hn
  obtain ⟨x, hx⟩ := Nat.gcd_dvd_left m n
  obtain ⟨y, hy⟩ := Nat.gcd_dvd_right m n
  have e1 : m / Nat.gcd m n = x := Nat.div_eq_of_eq_mul_right g0 hx
  have e2 : n / Nat.gcd m n = y := Nat.div_eq_of_eq_mul_right g0 hy
  have y0 : 0 < y := by
    rcases Nat.eq_zero_or_pos y with h | h
    · rw [h] at hy; omega
    · exact h
  have gc : Nat.gcd x y = 1 := by
    rw [← e1, ← e2, Nat.gcd_div (Nat.gcd_dvd_left m n) (Nat.gcd_dvd_right m n)]
    exact Nat.div_self g0
  have l1 : (low (m : Int) (n : Int)).1 = (x : Int) := by
    show (m : Int) / ((Nat.gcd m n : Nat) : Int) = _
    rw [← Int.natCast_ediv, e1]
  have l2 : (low (m : Int) (n : Int)).2 = (y : Int) := by
    show (n : Int) / ((Nat.gcd m n : Nat) : Int) = _
    rw [← Int.natCast_ediv, e2]
  rw [l1, l2]
  have lx : x ≤ m := by rw [← e1]; exact Nat.div_le_self _ _
  have ly : y ≤ n := by rw [← e2]; exact Nat.div_le_self _ _
  refine ⟨by omega, by omega, by omega, by omega, ?_, by simpa using gc⟩
  have : x * n = m * y := by
    generalize Nat.gcd m n = g at *
    subst hx; subst hy
    rw [Nat.mul_comm g x, Nat.mul_assoc]
  exact_mod_cast this
private theorem low_zero {b : Int} (hb : 0 < b) : low 0 b = (0, 1) := by
  obtain ⟨n, rfl⟩ := Int.eq_ofNat_of_zero_le (Int.le_of_lt hb)
  unfold low
  rw [show Int.gcd 0 (n : Int) = n by simp]
  rw [Int.zero_ediv, Int.ediv_self (by omega)]
end Gen
namespace Gen
open PySem L2 L3
private theorem law_plain_eq {L : Lay} (ok : LayOk L) (n : Int) : f__law_plain [L.d, .i n] = some (.sh (prD (plainOf L n))) := by
  have w1 := ok.w1
  have w20 := ok.w20
  have u0 := ok.u0
  have u6 := ok.u6
  simp only [f__law_plain, g__law_plain, plainOf]
  walk_at "ev"
private theorem ldigits_loop {s0 : Sl} : ∀ (bs : List Lay) (acc : List Int) (n : Int) (x3 : Sl), FrOk bs → acc.length + bs.length ≤ 1000 →
    ∃ y3, forG (nameG 3) b__law_digits_1 (bs.map Lay.d) [s0, .sh (.i n), .ac (acc.map D.i), x3] = some (.nx [s0, .sh (.i (left bs n)), .ac ((acc ++ digs bs n).map D.i), y3])
  | [], acc, n, x3, _, _ => ⟨x3, by rw [List.map_nil, forG_nil]; simp [digs, left]⟩
  | L :: bs, acc, n, x3, hb, hl => by
    have ok := hb L List.mem_cons_self
    have b2 := ok.b2
    have b25 := ok.b25
    simp only [List.length_cons] at hl
    obtain ⟨y3, ih⟩ := ldigits_loop (s0 := s0) bs (acc ++ [n % L.b]) (n / L.b) (.sh L.d) (fun K hK => hb K (List.mem_cons_of_mem _ hK)) (by simp; omega)
    refine ⟨y3, ?_⟩
    have st : b__law_digits_1 [s0, .sh (.i n), .ac (acc.map D.i), .sh L.d] = some (.nx [s0, .sh (.i (n / L.b)), .ac ((acc ++ [n % L.b]).map D.i), .sh L.d]) := by
      simp only [b__law_digits_1]
      clear ih hb ok
      rw [List.map_append]
      walk_at "ev"
    rw [List.map_cons, forG_step (ρ1 := [s0, .sh (.i n), .ac (acc.map D.i), .sh L.d]) rfl st, ih]
    simp [digs, left]
private theorem law_digits_eq {fr : List Lay} (h : FrOk fr) (hl : fr.length ≤ 100) (n : Int) : f__law_digits [.l (fr.map Lay.d), .i n] = some (.ac ((digitsOf fr n).map D.i)) := by
  obtain ⟨y3, lp⟩ := ldigits_loop (s0 := .sh (.l (fr.map Lay.d))) fr.dropLast [] n .un h.dropLast (by rw [List.length_dropLast]; simp; omega)
  rw [List.map_nil, List.nil_append] at lp
  simp only [f__law_digits, g__law_digits, digitsOf]
  have ad : addL (.l ((digs fr.dropLast n).map D.i)) (.l [.i (left fr.dropLast n)]) = some (.ac ((digs fr.dropLast n).map D.i ++ [.i (left fr.dropLast n)])) := addL_l (by
    rw [List.length_map, digs_length, List.length_dropLast]
    simp only [List.length_cons, List.length_nil]
    omega)
  rw [List.map_append]
  clear h
  walk_at "ev*"
private theorem zip_tidy {fr : List Lay} {n : Int} (h1 : 1 ≤ fr.length) : fr.zipIdx.map (fun q => plainOf q.1 ((digitsOf fr n).getD q.2 0)) = tidyL fr n := by
  have dl := digitsOf_length (n := n) h1
  apply List.ext_getElem?
  intro i
  unfold tidyL
  rw [List.getElem?_map, List.getElem?_map, List.getElem?_zipIdx]
  by_cases hi : i < fr.length
  · have hd : i < (digitsOf fr n).length := by omega
    have hz : (fr.zip (digitsOf fr n))[i]? = some (fr[i], (digitsOf fr n)[i]) := List.getElem?_zip_eq_some.mpr ⟨List.getElem?_eq_getElem hi, List.getElem?_eq_getElem hd⟩
    rw [hz, List.getElem?_eq_getElem hi]
    simp [List.getElem?_eq_getElem hd]
  · rw [List.getElem?_eq_none (by omega), List.getElem?_eq_none (by rw [List.length_zip]; omega)]; rfl
private theorem law_tidy_none : ∀ {fr : List Lay}, 1 ≤ fr.length → compG (tupG 2 (consG (nameG 0) (consG (nameG 1) nilG))) yesT e__law_tidy_1 (fr.zipIdx.map fun p => D.t [.i (p.2 : Nat), Lay.d p.1]) [.un, .un, .un] = none
  | [], h => absurd h (by decide)
  | L :: r, _ => by
    rw [List.zipIdx_cons, List.map_cons]
    simp only [compG, e__law_tidy_1]
    walk_at "ev"
private theorem law_tidy_ok {fr : List Lay} {L : Lay} (ok : FrOk fr) (l : Last fr L) (hl : fr.length ≤ 20) {n : Int} (h : n ≤ gre fr L) : f__law_tidy [.l (fr.map Lay.d), .i n] = some (.ac ((tidyL fr n).map prD)) := by
  have h1 := l.pos
  have okL := ok L (List.mem_of_getElem? l.get)
  have u0 := okL.u0
  have u6 := okL.u6
  have dg := law_digits_eq ok (by omega) n
  have dl := digitsOf_length (n := n) h1
  have ixd : ixA (.l ((digitsOf fr n).map D.i)) (.i (-1)) = some (.sh (.i (left fr.dropLast n))) := ixA_last (by rw [List.getLast?_eq_getElem?, dl]; exact last_digit l n)
  have ixl : ixA (.l (fr.map Lay.d)) (.i (-1)) = some (.sh L.d) := ixA_last (by rw [List.getLast?_eq_getElem?]; exact l.get)
  have t3 : decide (L.u * L.w + L.l < left fr.dropLast n) = false := decide_eq_false (by rw [show L.u * L.w + L.l = fullOf L from rfl, gre_iff ok]; omega)
  have cm := compG_map (enc := fun p : Lay × Nat => D.t [.i (p.2 : Nat), Lay.d p.1]) (F := fun p => prD (plainOf p.1 ((digitsOf fr n).getD p.2 0))) (h := tupG 2 (consG (nameG 0) (consG (nameG 1) nilG))) (f := e__law_tidy_1) (xs := fr.zipIdx) (ρ := [.un, .un, .sh (.l ((digitsOf fr n).map D.i))]) (fun ρ => ∃ x y, ρ = [x, y, .sh (.l ((digitsOf fr n).map D.i))]) ⟨_, _, rfl⟩ fun q hq ρ zq9 => by
    obtain ⟨x, y, e⟩ := zq9
    subst e
    obtain ⟨K, i⟩ := q
    have hK : fr[i]? = some K := by
      have := List.mk_mem_zipIdx_iff_getElem?.mp hq
      simpa using this
    have hi : i < fr.length := (List.getElem?_eq_some_iff.mp hK).1
    have po := law_plain_eq (ok K (List.mem_of_getElem? hK)) ((digitsOf fr n).getD i 0)
    have ix : ixA (.l ((digitsOf fr n).map D.i)) (.i (i : Nat)) = some (.sh (.i ((digitsOf fr n).getD i 0))) := ixA_map (by omega) (by
      have : i < (digitsOf fr n).length := by omega
      simp [List.getElem?_eq_getElem this])
    refine ⟨[.sh (.i (i : Nat)), .sh K.d, .sh (.l ((digitsOf fr n).map D.i))], .sh (prD (plainOf K ((digitsOf fr n).getD i 0))), by walk_at "ev", ⟨_, _, rfl⟩, ?_, rfl⟩
    simp only [e__law_tidy_1]
    clear ok hq l h hK okL t3 dl
    walk_at "ev*"
  have e : (fr.zipIdx.map fun p => prD (plainOf p.1 ((digitsOf fr n).getD p.2 0))) = (tidyL fr n).map prD := by rw [← zip_tidy h1, List.map_map]; rfl
  rw [e] at cm
  have ln : fr.zipIdx.length < 10000000 := by rw [List.length_zipIdx]; omega
  have nn := law_tidy_none h1
  simp only [f__law_tidy, g__law_tidy]
  clear ok l h okL e dl
  walk_at "ev*"
private theorem lmost_loop {s0 : Sl} : ∀ (bs : List Lay) (p : Int) (x2 : Sl), FrOk bs → ∃ y2, forG (nameG 2) b__law_most_1 (bs.map Lay.d) [s0, .sh (.i p), x2] = some (.nx [s0, .sh (.i (p * plc bs)), y2])
  | [], p, x2, _ => ⟨x2, by rw [List.map_nil, forG_nil, plc, Int.mul_one]⟩
  | L :: bs, p, x2, ok => by
    have b2 := (ok L List.mem_cons_self).b2
    have b25 := (ok L List.mem_cons_self).b25
    obtain ⟨y2, ih⟩ := lmost_loop (s0 := s0) bs (p * L.b) (.sh L.d) fun K hK => ok K (List.mem_cons_of_mem _ hK)
    refine ⟨y2, ?_⟩
    rw [List.map_cons, forG_step (ρ1 := [s0, .sh (.i p), .sh L.d]) (ρ2 := [s0, .sh (.i (p * L.b)), .sh L.d]) (by walk_at "ev") (by
      simp only [b__law_most_1]
      clear ih ok
      walk_at "ev"), ih, plc, Int.mul_assoc]
private theorem law_most_eq {fr : List Lay} {L : Lay} (ok : FrOk fr) (l : Last fr L) : f__law_most [.l (fr.map Lay.d)] = some (.sh (.i (gre fr L))) := by
  obtain ⟨y2, lp⟩ := lmost_loop (s0 := .sh (.l (fr.map Lay.d))) fr.dropLast 1 .un ok.dropLast
  rw [Int.one_mul] at lp
  have okL := ok L (List.mem_of_getElem? l.get)
  have u0 := okL.u0
  have u6 := okL.u6
  have fb := full_bound okL
  unfold fullOf at fb
  have ixl : ixA (.l (fr.map Lay.d)) (.i (-1)) = some (.sh L.d) := ixA_last (by rw [List.getLast?_eq_getElem?]; exact l.get)
  have e : gre fr L = (L.u * L.w + L.l + 1) * plc fr.dropLast - 1 := by unfold gre fullOf; rw [Int.mul_comm]
  rw [e]
  simp only [f__law_most, g__law_most]
  clear ok l okL e
  walk_at "ev*"
end Gen
namespace Gen
open PySem L2 L3
private theorem plc_take {fr : List Lay} (ok : FrOk fr) (hl : fr.length ≤ 20) (i : Nat) : 1 ≤ plc (fr.take i) ∧ plc (fr.take i) ≤ 9094947017729282379150390625 :=
  ⟨plc_pos _ (ok.take i), plc_bound (ok.take i) (by rw [List.length_take]; omega)⟩
private theorem mul2h {a b : Int} (a0 : 0 ≤ a) (a1 : a < 1606938044258990275541962092341162602522202993782792835301376) (b0 : 0 ≤ b) (b1 : b < 1606938044258990275541962092341162602522202993782792835301376) : mulD (.i a) (.i b) = some (.sh (.i (a * b))) :=
  mulD_i (.inr (.inr ⟨⟨Int.lt_of_lt_of_le (by decide) a0, a1⟩, ⟨Int.lt_of_lt_of_le (by decide) b0, b1⟩⟩))
private theorem number_below_eq {fr : List Lay} (ok : FrOk fr) (hl : fr.length ≤ 20) (i : Nat) {T Q : Int} (hT : 0 ≤ T ∧ T ≤ 10000000000000000000000000000000000000000000) (hQ : 1 ≤ Q ∧ Q ≤ 10000000000000000000000000000000000000000) :
    f_number_below [.l (fr.map Lay.d), .i (i : Nat), prD (T, Q)] = some (.sh (.i (T * plc (fr.take i) / Q))) := by
  have po := place_of_eq ok i
  have pb := plc_take ok hl i
  have pm := mul2h hT.1 (Int.lt_of_le_of_lt hT.2 (by decide)) (Int.le_trans (by decide) pb.1) (Int.lt_of_le_of_lt pb.2 (by decide))
  have qd : 0 < Q ∧ Q < 1606938044258990275541962092341162602522202993782792835301376 := ⟨Int.lt_of_lt_of_le (by decide) hQ.1, Int.lt_of_le_of_lt hQ.2 (by decide)⟩
  simp only [f_number_below, g_number_below, c_TOP, c_BOTTOM]
  clear ok pb hT hQ hl
  generalize plc (fr.take i) = P at *
  walk_at "ev*"
private theorem rest_above_eq {fr : List Lay} (ok : FrOk fr) (hl : fr.length ≤ 20) (i : Nat) {T Q N : Int} (hT : 0 ≤ T ∧ T ≤ 10000000000000000000000000000000000000000000) (hQ : 1 ≤ Q ∧ Q ≤ 10000000000000000000000000000000000000000) (hN : 0 ≤ N ∧ N ≤ 1400000000000000000000000000000)
    (hX : 0 ≤ T * plc (fr.take i) - N * Q ∧ T * plc (fr.take i) - N * Q < Q) :
    f_rest_above [.l (fr.map Lay.d), .i (i : Nat), prD (T, Q), .i N] = some (.sh (prD (low (T * plc (fr.take i) - N * Q) (Q * plc (fr.take i))))) := by
  have po := place_of_eq ok i
  have pb := plc_take ok hl i
  have qp0 := Int.mul_le_mul hQ.1 pb.1 (by decide) (Int.le_trans (by decide) hQ.1)
  have qp1 := Int.mul_le_mul hQ.2 pb.2 (Int.le_trans (by decide) pb.1) (by decide)
  have lt := lowest_terms_eq (a := T * plc (fr.take i) - N * Q) (b := Q * plc (fr.take i)) ⟨hX.1, Int.lt_trans hX.2 (Int.lt_of_le_of_lt hQ.2 (by decide))⟩ ⟨Int.lt_of_lt_of_le (by decide) qp0, Int.lt_of_le_of_lt qp1 (by decide)⟩
  have P0 : 0 ≤ plc (fr.take i) := Int.le_trans (by decide) pb.1
  have P1 := Int.lt_of_le_of_lt pb.2 (by decide : (9094947017729282379150390625 : Int) < 1606938044258990275541962092341162602522202993782792835301376)
  have Q0 : 0 ≤ Q := Int.le_trans (by decide) hQ.1
  have Q1 := Int.lt_of_le_of_lt hQ.2 (by decide : (10000000000000000000000000000000000000000 : Int) < 1606938044258990275541962092341162602522202993782792835301376)
  have pm := mul2h hT.1 (Int.lt_of_le_of_lt hT.2 (by decide)) P0 P1
  have nm := mul2h hN.1 (Int.lt_of_le_of_lt hN.2 (by decide)) Q0 Q1
  have qm := mul2h Q0 Q1 P0 P1
  simp only [f_rest_above, g_rest_above, c_TOP, c_BOTTOM]
  clear ok pb hT hQ hl P0 P1 Q0 Q1 hN
  generalize plc (fr.take i) = P at *
  clear qp0 qp1 hX
  walk_at "ev*"
private theorem over {a q : Int} (hq : 1 ≤ q) : 0 ≤ a - a / q * q ∧ a - a / q * q < q := by
  have d1 := Int.emod_nonneg a (show q ≠ 0 by omega)
  have d2 := Int.emod_lt_of_pos a (show 0 < q by omega)
  have d3 := Int.emod_add_mul_ediv a q
  rw [Int.mul_comm q] at d3
  omega
end Gen
-- with layok cell cframe plc standing plain most digits place tidyof tidyex euclid ltidyl parts
namespace Gen
open PySem L2 L3
private theorem low_pos {a b : Int} (ha : 0 < a) (hb : 0 < b) : ((low a b).1 == 0) = false := by
  obtain ⟨l1, l2, l3, l4, l5, _⟩ := low_spec (Int.le_of_lt ha) hb
  refine beq_eq_false_iff_ne.mpr fun z => ?_
  rw [z, Int.zero_mul] at l5
  have := Int.mul_pos ha (Int.lt_of_lt_of_le (by decide) l3)
  omega
private theorem set_parts {fr : List Lay} {L : Lay} (ok : FrOk fr) (l : Last fr L) (hl : fr.length ≤ 20) (i : Nat) {T Q N : Int} (hT : 0 ≤ T ∧ T ≤ 10000000000000000000000000000000000000000000) (hQ : 1 ≤ Q ∧ Q ≤ 10000000000000000000000000000000000000000) (hN : T * plc (fr.take i) / Q = N) (n0 : 0 ≤ N) (n1 : N ≤ gre fr L + 1) :
    f_number_below [.l (fr.map Lay.d), .i (i : Nat), prD (T, Q)] = some (.sh (.i N)) ∧ ∃ r, f_rest_above [.l (fr.map Lay.d), .i (i : Nat), prD (T, Q), .i N] = some (.sh (prD r)) ∧ (r.1 == 0 && r.2 == 1) = (T * plc (fr.take i) % Q == 0) := by
  have gb := gre_bound ok l hl
  have nb := number_below_eq ok hl i hT hQ
  rw [hN] at nb
  have ov := over (a := T * plc (fr.take i)) hQ.1
  rw [hN] at ov
  refine ⟨nb, _, rest_above_eq ok hl i hT hQ (N := N) ⟨n0, by omega⟩ ov, ?_⟩
  have pb := plc_take ok hl i
  have qp : 0 < Q * plc (fr.take i) := Int.mul_pos (Int.lt_of_lt_of_le (by decide) hQ.1) (Int.lt_of_lt_of_le (by decide) pb.1)
  have em : T * plc (fr.take i) % Q = T * plc (fr.take i) - N * Q := by
    have := Int.emod_add_mul_ediv (T * plc (fr.take i)) Q
    rw [hN, Int.mul_comm Q] at this
    omega
  rw [em]
  by_cases z : T * plc (fr.take i) - N * Q = 0
  · rw [z, low_zero qp]; rfl
  · have z2 : (T * plc (fr.take i) - N * Q == 0) = false := beq_eq_false_iff_ne.mpr z
    rw [z2, low_pos (by clear nb gb pb qp em hT hQ n0 n1 z2 hN; omega) qp]; rfl
private theorem set_ok {fr : List Lay} {L : Lay} (ok : FrOk fr) (l : Last fr L) (hl : fr.length ≤ 20) (i : Nat) {T Q N : Int} (hT : 0 ≤ T ∧ T ≤ 10000000000000000000000000000000000000000000) (hQ : 1 ≤ Q ∧ Q ≤ 10000000000000000000000000000000000000000) (hN : T * plc (fr.take i) / Q = N) (n0 : 0 ≤ N) (n1 : N ≤ gre fr L) (hm : (T * plc (fr.take i) % Q == 0) = true) :
    f_part_set [.l (fr.map Lay.d), .i (i : Nat), prD (T, Q)] = some (.ac ((tidyL fr N).map prD)) := by
  obtain ⟨nb, r, ra, re⟩ := set_parts ok l hl i hT hQ hN n0 (by omega)
  rw [hm] at re
  have td := tidy_of_ok ok l hl n1
  simp only [f_part_set, g_part_set]
  clear ok l hN hm hT hQ n0 n1
  generalize prD (T, Q) = q at *
  walk_at "ev*"
private theorem set_between {fr : List Lay} {L : Lay} (ok : FrOk fr) (l : Last fr L) (hl : fr.length ≤ 20) (i : Nat) {T Q N : Int} (hT : 0 ≤ T ∧ T ≤ 10000000000000000000000000000000000000000000) (hQ : 1 ≤ Q ∧ Q ≤ 10000000000000000000000000000000000000000) (hN : T * plc (fr.take i) / Q = N) (n0 : 0 ≤ N) (n1 : N + 1 ≤ gre fr L) (hm : (T * plc (fr.take i) % Q == 0) = false) :
    f_part_set [.l (fr.map Lay.d), .i (i : Nat), prD (T, Q)] = none ∧ x_part_set [.l (fr.map Lay.d), .i (i : Nat), prD (T, Q)] = some ⟨"Between", [], []⟩ := by
  obtain ⟨nb, r, ra, re⟩ := set_parts ok l hl i hT hQ hN n0 (by omega)
  rw [hm] at re
  have td := tidy_of_ok ok l hl n1
  clear ok l hN hm hT hQ n0 n1
  generalize prD (T, Q) = q at *
  constructor
  · simp only [f_part_set, g_part_set]
    walk_at "ev*"
  · simp only [x_part_set, g_part_set]
    walk_at "ev*"
private theorem set_great {fr : List Lay} {L : Lay} (ok : FrOk fr) (l : Last fr L) (hl : fr.length ≤ 20) (i : Nat) {T Q N : Int} (hT : 0 ≤ T ∧ T ≤ 10000000000000000000000000000000000000000000) (hQ : 1 ≤ Q ∧ Q ≤ 10000000000000000000000000000000000000000) (hN : T * plc (fr.take i) / Q = N) (n0 : 0 ≤ N) (n1 : N ≤ gre fr L + 1) (hg : gre fr L * Q < T * plc (fr.take i)) :
    f_part_set [.l (fr.map Lay.d), .i (i : Nat), prD (T, Q)] = none ∧ x_part_set [.l (fr.map Lay.d), .i (i : Nat), prD (T, Q)] = some ⟨"TooGreat", ["rod"], [.i ((fr.length : Int) - 1)]⟩ := by
  obtain ⟨nb, r, ra, re⟩ := set_parts ok l hl i hT hQ hN n0 n1
  have g1 : gre fr L ≤ N := by
    rw [← hN]
    exact Int.le_ediv_of_mul_le (Int.lt_of_lt_of_le (by decide) hQ.1) (Int.le_of_lt hg)
  cases hm : (T * plc (fr.take i) % Q == 0) with
  | true =>
    rw [hm] at re
    have g2 : gre fr L < N := by
      have e := Int.emod_add_mul_ediv (T * plc (fr.take i)) Q
      rw [hN, eq_of_beq hm, Int.zero_add] at e
      refine Int.lt_iff_le_and_ne.mpr ⟨g1, fun z => ?_⟩
      rw [z, Int.mul_comm, e] at hg
      exact Int.lt_irrefl _ hg
    obtain ⟨t1, t2⟩ := tidy_of_ex ok l hl g2
    clear ok l hN hm hT hQ n0 n1 hg g1 g2
    generalize prD (T, Q) = q at *
    constructor
    · simp only [f_part_set, g_part_set]
      walk_at "ev*"
    · simp only [x_part_set, g_part_set]
      walk_at "ev*"
  | false =>
    rw [hm] at re
    obtain ⟨t1, t2⟩ := tidy_of_ex ok l hl (Int.lt_add_one_of_le g1)
    clear ok l hN hm hT hQ n0 n1 hg g1
    generalize prD (T, Q) = q at *
    constructor
    · simp only [f_part_set, g_part_set]
      walk_at "ev*"
    · simp only [x_part_set, g_part_set]
      walk_at "ev*"
private theorem ref_great (k : Int) : f__law_refused [.x "TooGreat" ["rod"] [.i k]] = some (.sh (.t [.s "great", .i k])) := by kernel_rfl
private theorem ref_between : f__law_refused [.x "Between" [] []] = some (.sh (.t [.s "between", .n])) := by kernel_rfl
private theorem told_ok {a b c : D} {ds : List D} (h : f_part_set [a, b, c] = some (.ac ds)) : f__law_told [a, b, c] = some (.sh (.t [.l ds, .t [.s "", .n]])) := by
  simp only [f__law_told, g__law_told, b__law_told_1]
  walk_at "ev*"
private theorem told_great {a b c : D} {k : Int} (h : f_part_set [a, b, c] = none) (hx : x_part_set [a, b, c] = some ⟨"TooGreat", ["rod"], [.i k]⟩) : f__law_told [a, b, c] = some (.sh (.t [.n, .t [.s "great", .i k]])) := by
  have r := ref_great k
  simp only [f__law_told, g__law_told, b__law_told_1]
  walk_at "ev*"
private theorem told_between {a b c : D} (h : f_part_set [a, b, c] = none) (hx : x_part_set [a, b, c] = some ⟨"Between", [], []⟩) : f__law_told [a, b, c] = some (.sh (.t [.n, .t [.s "between", .n]])) := by
  have r := ref_between
  have lk : List.lookup ("Between" : Str) [("TooGreat", true), ("Between", true)] = some true := by decide +kernel
  simp only [f__law_told, g__law_told, b__law_told_1]
  walk_at "ev*"
private theorem div63 {t q : Int} (t0 : 0 ≤ t) (t1 : t < 1000000000000000000000000000000000000000000) (q0 : 1 ≤ q) (q1 : q < 1000000000000000000000000000000000000000000) :
    ∃ g, f__law_divisor [.i t, .i q] = some (.sh (.i g)) ∧ (0 < g ∧ g < 1606938044258990275541962092341162602522202993782792835301376) ∧ low t q = (t / g, q / g) := by
  obtain ⟨m, rfl, hm⟩ := p400 (a := t) ⟨t0, Int.lt_trans t1 (by decide)⟩
  obtain ⟨n, rfl, hn⟩ := p400 (a := q) ⟨Int.le_trans (by decide) q0, Int.lt_trans q1 (by decide)⟩
  have n0 : 0 < n := by omega
  have g1 := Nat.gcd_pos_of_pos_right m n0
  have g2 := Nat.gcd_le_right m n0
  exact ⟨_, law_divisor_eq hm hn, by omega, rfl⟩
private theorem four_ix {a b c d : Int} (k : Int) {M : Int} (ha : 0 ≤ a ∧ a ≤ M) (hb : 0 ≤ b ∧ b ≤ M) (hc : 0 ≤ c ∧ c ≤ M) (hd : 0 ≤ d ∧ d ≤ M) : ∃ x, (0 ≤ x ∧ x ≤ M) ∧ ixA (.l [.i a, .i b, .i c, .i d]) (.i (k % 4)) = some (.sh (.i x)) := by
  refine ⟨_, ?_, ixA_l4i ⟨Int.emod_nonneg _ (by decide), Int.emod_lt_of_pos _ (by decide)⟩⟩
  split
  · exact ha
  · split
    · exact hb
    · split
      · exact hc
      · exact hd
private theorem part63 {M P : Int} (c : Int) (hM : 0 ≤ M ∧ M ≤ 1350000000000000000000000000000) (hP : 1 ≤ P ∧ P ≤ 9094947017729282379150390625) :
    ∃ t b, 0 ≤ t ∧ t < (M + 2) * b ∧ 1 ≤ b ∧ b ≤ 12 ∧ f__law_part [.i c, .i M, .i P] = some (.sh (prD (low t (b * P)))) := by
  have m1 : 0 < M + 1 := Int.lt_add_one_of_le hM.1
  have mod : ∀ x : Int, 0 ≤ x % (M + 1) ∧ x % (M + 1) ≤ M + 1 := fun x => ⟨Int.emod_nonneg _ (Int.ne_of_gt m1), Int.le_of_lt (Int.emod_lt_of_pos _ m1)⟩
  obtain ⟨W, hW, ix⟩ := four_ix c (mod (c * 982451653)) ⟨hM.1, Int.le_add_of_nonneg_right (by decide)⟩ (mod (c / 8)) ⟨Int.le_of_lt m1, Int.le_refl (M + 1)⟩
  obtain ⟨b, hb⟩ : ∃ b, 1 + c / 4 % 12 = b := ⟨_, rfl⟩
  have b1 : 1 ≤ b ∧ b ≤ 12 := by clear ix mod m1 hW hM hP; omega
  have b0 : 0 < b := Int.lt_of_lt_of_le (by decide) b1.1
  have r0 := Int.emod_nonneg (c / 48) (Int.ne_of_gt b0)
  have r1 := Int.emod_lt_of_pos (c / 48) b0
  have w0 := Int.mul_nonneg hW.1 (Int.le_of_lt b0)
  have w1 := Int.mul_le_mul_of_nonneg_right hW.2 (Int.le_of_lt b0)
  have e2 : (M + 2) * b = (M + 1) * b + b := by rw [show M + 2 = M + 1 + 1 by omega, Int.add_mul (M + 1), Int.one_mul]
  have w2 : (M + 1) * b ≤ (1350000000000000000000000000000 + 1) * 12 := Int.mul_le_mul (Int.add_le_add_right hM.2 1) b1.2 (Int.le_of_lt b0) (by decide)
  have p0 : 1 * 1 ≤ b * P := Int.mul_le_mul b1.1 hP.1 (by decide) (Int.le_of_lt b0)
  have p1 : b * P ≤ 12 * 9094947017729282379150390625 := Int.mul_le_mul b1.2 hP.2 (Int.le_trans (by decide) hP.1) (by decide)
  have q0 : 1 ≤ b * P ∧ b * P < 1000000000000000000000000000000000000000000 := ⟨p0, Int.lt_of_le_of_lt p1 (by decide)⟩
  have lims : (-18446744073709551616 < b ∧ b < 18446744073709551616) := ⟨Int.lt_of_lt_of_le (by decide) b1.1, Int.lt_of_le_of_lt b1.2 (by decide)⟩
  clear p0 p1 mod
  cases hx : (c / 576 % 2 == 0) with
  | true =>
    have t1 : W * b < (M + 2) * b ∧ W * b < 1000000000000000000000000000000000000000000 := by
      rw [e2]
      exact ⟨Int.lt_of_le_of_lt w1 (Int.lt_add_of_pos_right _ b0), Int.lt_of_le_of_lt (Int.le_trans w1 w2) (by decide)⟩
    obtain ⟨g, dv, g1, le⟩ := div63 w0 t1.2 q0.1 q0.2
    refine ⟨W * b, b, w0, t1.1, b1.1, b1.2, ?_⟩
    rw [le, prD_mk]
    simp only [f__law_part, g__law_part]
    clear w0 w1 w2 e2 r0 r1 t1 q0 le hW hM hP b1
    walk_at "ev*"
  | false =>
    have t1 : W * b + c / 48 % b < (M + 2) * b ∧ W * b + c / 48 % b < 1000000000000000000000000000000000000000000 := by
      rw [e2]
      exact ⟨Int.add_lt_add_of_le_of_lt w1 r1, Int.lt_of_lt_of_le (Int.add_lt_add_of_le_of_lt (Int.le_trans w1 w2) r1) (Int.le_trans (Int.add_le_add_left b1.2 _) (by decide))⟩
    have t0 := Int.add_nonneg w0 r0
    obtain ⟨g, dv, g1, le⟩ := div63 t0 t1.2 q0.1 q0.2
    refine ⟨W * b + c / 48 % b, b, t0, t1.1, b1.1, b1.2, ?_⟩
    rw [le, prD_mk]
    simp only [f__law_part, g__law_part]
    clear w0 w1 w2 e2 r0 r1 t1 t0 q0 le hW hM hP b1
    walk_at "ev*"
noncomputable def plcs (fr : List Lay) (n : Nat) : List Int := (List.range n).map fun j => plc (fr.take j)
private theorem plc_loop {fr : List Lay} (ok : FrOk fr) (hl : fr.length ≤ 20) {s0 s1 s2 x4 s5 s6 s7 s8 s9 s10 : Sl} :
    ∃ y4, forG (nameG 4) b_law_2 (fr.map Lay.d) [s0, s1, s2, .ac [.i 1], x4, s5, s6, s7, s8, s9, s10] = some (.nx [s0, s1, s2, .ac ((plcs fr (fr.length + 1)).map D.i), y4, s5, s6, s7, s8, s9, s10]) := by
  obtain ⟨ρ', lp, y4, rfl⟩ := forG_inv (enc := Lay.d) (h := nameG 4) (g := b_law_2) (xs := fr) (ρ := [s0, s1, s2, .ac [.i 1], x4, s5, s6, s7, s8, s9, s10])
    (fun i ρ => ∃ y4, ρ = [s0, s1, s2, .ac ((plcs fr (i + 1)).map D.i), y4, s5, s6, s7, s8, s9, s10]) ⟨_, rfl⟩ fun i L ρ hi zq9 => by
      obtain ⟨y4, e⟩ := zq9
      subst e
      have okL := ok L (List.mem_of_getElem? hi)
      have b2 := okL.b2
      have b25 := okL.b25
      have hlt : i < fr.length := (List.getElem?_eq_some_iff.mp hi).1
      have ix : ixA (.l ((plcs fr (i + 1)).map D.i)) (.i (-1)) = some (.sh (.i (plc (fr.take i)))) := ixA_last range_last
      have ln : (plcs fr (i + 1)).length < 10000000 := by unfold plcs; rw [List.length_map, List.length_range]; omega
      have nx : (plcs fr (i + 1 + 1)).map D.i = (plcs fr (i + 1)).map D.i ++ [.i (plc (fr.take i) * L.b)] := by
        unfold plcs
        rw [List.range_succ (n := i + 1), List.map_append, List.map_append, ← plc_succ fr i L hi]; rfl
      refine ⟨_, [s0, s1, s2, .ac ((plcs fr (i + 1 + 1)).map D.i), .sh L.d, s5, s6, s7, s8, s9, s10], rfl, ?_, _, rfl⟩
      rw [nx]
      simp only [b_law_2]
      clear ok okL hi nx
      walk_at "ev*"
  exact ⟨y4, lp⟩
private theorem cut_mid {ns : List Int} (h : ns.length ≤ 83) : cutD (ns.map D.i) (some 23) (some 83) = (ns.drop 23).map D.i := by
  unfold cutD
  have e1 : HT.sIx (ns.map D.i).length 0 (some 23) = min 23 ns.length := by
    rw [List.length_map]; unfold HT.sIx; simp; try omega
  have e2 : HT.sIx (ns.map D.i).length (ns.map D.i).length (some 83) = ns.length := by
    rw [List.length_map]; unfold HT.sIx; simp; try omega
  rw [e1, e2, ← List.map_drop, List.take_of_length_le (by simp)]
  congr 1
  by_cases c : 23 ≤ ns.length
  · rw [Nat.min_eq_left c]
  · rw [Nat.min_eq_right (by omega), List.drop_of_length_le (Nat.le_refl _), List.drop_of_length_le (by omega)]
private theorem said_great (k : Int) : neO (.t [.s "great", .i k]) (.t [.s "great", .i k]) = some (.sh (.b false)) := neO_same (by kernel_rfl)
private theorem said_between : neO (.t [.s "between", .n]) (.t [.s "between", .n]) = some (.sh (.b false)) := neO_same (by kernel_rfl)
private theorem said_none : neO (.t [.s "", .n]) (.t [.s "", .n]) = some (.sh (.b false)) := neO_same (by kernel_rfl)
private theorem law_step {fr : List Lay} {L : Lay} (ok : FrOk fr) (l : Last fr L) (hl : fr.length ≤ 20) {d0 : D} {r3 : Sl} (hr : r3.vw = .sh (.l ((plcs fr (fr.length + 1)).map D.i))) {c : Int} {x4 x6 x7 x8 x9 x10 : Sl} :
    ∃ y4 y6 y7 y8 y9 y10, b_law_1 [.sh d0, .sh (.l (fr.map Lay.d)), .sh (.i (gre fr L)), r3, x4, .sh (.i c), x6, x7, x8, x9, x10] =
      some (.nx [.sh d0, .sh (.l (fr.map Lay.d)), .sh (.i (gre fr L)), .sh (.l ((plcs fr (fr.length + 1)).map D.i)), y4, .sh (.i c), y6, y7, y8, y9, y10]) := by
  have gb := gre_bound ok l hl
  have pl : (plcs fr (fr.length + 1)).length = fr.length + 1 := by unfold plcs; simp
  have g2 : gre fr L + 2 ≤ 1350000000000000000000000000002 := by have := gb.2; omega
  have ln : (0 : Int) < ((plcs fr (fr.length + 1)).length : Int) := by rw [pl]; exact Int.ofNat_lt.mpr (Nat.succ_pos _)
  have i0 := Int.emod_nonneg (c / 1152) (Int.ne_of_gt ln)
  have i1 := Int.emod_lt_of_pos (c / 1152) ln
  have lp : lenB [.l ((plcs fr (fr.length + 1)).map D.i)] = some (.sh (.i ((plcs fr (fr.length + 1)).length : Int))) := by
    show some (Sl.sh (.i (((plcs fr (fr.length + 1)).map D.i).length : Int))) = _
    rw [List.length_map]
  have mi : modD (.i (c / 1152)) (.i ((plcs fr (fr.length + 1)).length : Int)) = some (.sh (.i (c / 1152 % ((plcs fr (fr.length + 1)).length : Int)))) := modD_i ln
  obtain ⟨i, hi⟩ := Int.eq_ofNat_of_zero_le i0
  rw [hi] at i1 mi
  have ixp : ixA (.l ((plcs fr (fr.length + 1)).map D.i)) (.i (i : Nat)) = some (.sh (.i (plc (fr.take i)))) := ixA_map (Int.natCast_nonneg i) (by
    unfold plcs
    rw [Int.toNat_natCast, List.getElem?_map, List.getElem?_range (by rw [← pl]; exact Int.ofNat_lt.mp i1)]; rfl)
  have pb := plc_take ok hl i
  obtain ⟨t, b, t0, t1, b0, b1, pe⟩ := part63 c (M := gre fr L) (P := plc (fr.take i)) gb pb
  have bp0 : 1 * 1 ≤ b * plc (fr.take i) := Int.mul_le_mul b0 pb.1 (by decide) (Int.le_trans (by decide) b0)
  have bp1 : b * plc (fr.take i) ≤ 12 * 9094947017729282379150390625 := Int.mul_le_mul b1 pb.2 (Int.le_trans (by decide) pb.1) (by decide)
  have tm : (gre fr L + 2) * b ≤ 1350000000000000000000000000002 * 12 := Int.mul_le_mul g2 b1 (Int.le_trans (by decide) b0) (by decide)
  obtain ⟨l1, l2, l3, l4, l5, _⟩ := low_spec t0 (Int.lt_of_lt_of_le (by decide) bp0 : 0 < b * plc (fr.take i))
  generalize low t (b * plc (fr.take i)) = q at *
  obtain ⟨T, Q⟩ := q
  dsimp only at l1 l2 l3 l4 l5
  have hT : 0 ≤ T ∧ T ≤ 10000000000000000000000000000000000000000000 := ⟨l1, Int.le_trans l2 (Int.le_trans (Int.le_of_lt t1) (Int.le_trans tm (by decide)))⟩
  have hQ : 1 ≤ Q ∧ Q ≤ 10000000000000000000000000000000000000000 := ⟨l3, Int.le_trans l4 (Int.le_trans bp1 (by decide))⟩
  have Q0 : 0 < Q := Int.lt_of_lt_of_le (by decide) l3
  obtain ⟨N, hN⟩ : ∃ N, T * plc (fr.take i) / Q = N := ⟨_, rfl⟩
  have n0 : 0 ≤ N := by rw [← hN]; exact Int.ediv_nonneg (Int.mul_nonneg l1 (Int.le_trans (by decide) pb.1)) (Int.le_of_lt Q0)
  have nq : N * Q ≤ T * plc (fr.take i) := by rw [← hN]; exact Int.ediv_mul_le _ (Int.ne_of_gt Q0)
  have n1 : N ≤ gre fr L + 1 := by
    have a1 := Int.mul_le_mul_of_nonneg_right nq (Int.le_trans (by decide) b0 : 0 ≤ b)
    rw [Int.mul_right_comm, Int.mul_assoc T, Int.mul_comm (plc (fr.take i)) b, l5] at a1
    have a2 := Int.lt_of_le_of_lt (Int.le_of_mul_le_mul_right a1 Q0) t1
    have a3 := Int.lt_of_mul_lt_mul_right a2 (Int.le_trans (by decide) b0)
    exact Int.le_of_lt_add_one (by rw [Int.add_assoc]; exact a3)
  have dm := Int.emod_add_mul_ediv (T * plc (fr.take i)) Q
  rw [hN] at dm
  clear pl ln g2 i0 i1 t0 t1 b0 b1 bp0 bp1 tm l1 l2 l3 l4 l5
  have mul1 := mul2h hT.1 (Int.lt_of_le_of_lt hT.2 (by decide)) (Int.le_trans (by decide) pb.1) (Int.lt_of_le_of_lt pb.2 (by decide))
  have mul2 := mul2h gb.1 (Int.lt_of_le_of_lt gb.2 (by decide)) (Int.le_of_lt Q0) (Int.lt_of_le_of_lt hQ.2 (by decide))
  have mq : modD (.i (T * plc (fr.take i))) (.i Q) = some (.sh (.i (T * plc (fr.take i) % Q))) := modD_i Q0
  have dq : fdivD (.i (T * plc (fr.take i))) (.i Q) = some (.sh (.i N)) := by rw [← hN]; exact fdivD_i ⟨Q0, Int.lt_of_le_of_lt hQ.2 (by decide)⟩
  by_cases hg : gre fr L * Q < T * plc (fr.take i)
  · obtain ⟨c1, c2⟩ := set_great ok l hl i hT hQ hN n0 n1 hg
    have te := told_great c1 c2
    have hd : decide (gre fr L * Q < T * plc (fr.take i)) = true := decide_eq_true hg
    have sg := said_great ((fr.length : Int) - 1)
    have i1 : ixA (.t [.s "great", .i ((fr.length : Int) - 1)]) (.i 1) = some (.sh (.i ((fr.length : Int) - 1))) := rfl
    simp only [b_law_1]
    clear ok l hg hT hQ hN n0 n1 nq dm c1 c2 gb pb Q0 dq mq
    generalize T * plc (fr.take i) = TP at *
    generalize gre fr L * Q = MQ at *
    generalize plc (fr.take i) = P at *
    simp only [prD_mk] at *
    refine ⟨x4, .sh (.i (i : Nat)), .sh (.i T), .sh (.i Q), .sh .n, .sh (.t [.s "great", .i ((fr.length : Int) - 1)]), ?_⟩
    walk_at "ev*"
  · have hd : decide (gre fr L * Q < T * plc (fr.take i)) = false := decide_eq_false hg
    have hle := Int.not_lt.mp hg
    cases hm : (T * plc (fr.take i) % Q == 0) with
    | true =>
      have n2 : N ≤ gre fr L := Int.le_of_mul_le_mul_right (Int.le_trans nq hle) Q0
      have te := told_ok (set_ok ok l hl i hT hQ hN n0 n2 hm)
      have lt := law_tidy_ok ok l hl n2
      have sn := said_none
      have st := neO_stand (st := tidyL fr N)
      simp only [b_law_1]
      clear ok l hg hT hQ hN n0 n1 nq dm hle n2 gb pb Q0
      generalize T * plc (fr.take i) = TP at *
      generalize gre fr L * Q = MQ at *
      generalize plc (fr.take i) = P at *
      generalize (tidyL fr N).map prD = td at *
      simp only [prD_mk] at *
      refine ⟨x4, .sh (.i (i : Nat)), .sh (.i T), .sh (.i Q), .sh (.l td), .sh (.t [.s "", .n]), ?_⟩
      walk_at "ev*"
    | false =>
      have n2 : N + 1 ≤ gre fr L := by
        have a := Int.le_of_mul_le_mul_right (Int.le_trans nq hle) Q0
        refine Int.add_one_le_of_lt (Int.lt_iff_le_and_ne.mpr ⟨a, fun z => ?_⟩)
        have m0 := Int.emod_nonneg (T * plc (fr.take i)) (Int.ne_of_gt Q0)
        have ne := beq_eq_false_iff_ne.mp hm
        rw [z, Int.mul_comm Q] at dm
        clear hT hQ hN n0 n1 nq gb pb mul1 mul2 mq dq ixp pe mi lp hi
        omega
      obtain ⟨c1, c2⟩ := set_between ok l hl i hT hQ hN n0 n2 hm
      have te := told_between c1 c2
      have sb := said_between
      simp only [b_law_1]
      clear ok l hg hT hQ hN n0 n1 nq dm hle n2 c1 c2 gb pb Q0
      generalize T * plc (fr.take i) = TP at *
      generalize gre fr L * Q = MQ at *
      generalize plc (fr.take i) = P at *
      simp only [prD_mk] at *
      refine ⟨x4, .sh (.i (i : Nat)), .sh (.i T), .sh (.i Q), .sh .n, .sh (.t [.s "between", .n]), ?_⟩
      walk_at "ev*"
private theorem law_true (ns : List Int) (h : ns.length ≤ 63) : f_law [.l (ns.map D.i)] = some (.sh (.b true)) := by
  obtain ⟨fr, hf, ok, h1, h2⟩ := frame_ex ns (a := 0) (m := 20) (by decide) (by decide) (by decide) (by decide)
  have hl : fr.length ≤ 20 := by omega
  obtain ⟨L, l⟩ := Last.ex h1
  have lm := law_most_eq ok l
  obtain ⟨c, hc⟩ := cell_ex ns (k := 22) (by decide) (by decide)
  have cu : slD (.l (ns.map D.i)) (some 23) (some 83) = some (.ac ((ns.drop 23).map D.i)) := by
    rw [slD_l, cut_mid (by omega)]
  obtain ⟨y4, lp3⟩ := plc_loop ok hl (s0 := .sh (.l (ns.map D.i))) (s1 := .sh (.l (fr.map Lay.d))) (s2 := .sh (.i (gre fr L))) (x4 := .un) (s5 := .un) (s6 := .un) (s7 := .un) (s8 := .un) (s9 := .un) (s10 := .un)
  obtain ⟨ρ', lp2, _⟩ := forG_inv (enc := D.i) (h := nameG 5) (g := b_law_1) (xs := c :: ns.drop 23) (ρ := [.sh (.l (ns.map D.i)), .sh (.l (fr.map Lay.d)), .sh (.i (gre fr L)), .ac ((plcs fr (fr.length + 1)).map D.i), y4, .un, .un, .un, .un, .un, .un])
    (fun i ρ => ∃ r3 y4 y5 y6 y7 y8 y9 y10, ρ = [.sh (.l (ns.map D.i)), .sh (.l (fr.map Lay.d)), .sh (.i (gre fr L)), r3, y4, y5, y6, y7, y8, y9, y10] ∧ r3.vw = .sh (.l ((plcs fr (fr.length + 1)).map D.i))) ⟨_, _, _, _, _, _, _, _, rfl, rfl⟩ fun i z ρ hi zq9 => by
      obtain ⟨r3, y4, y5, y6, y7, y8, y9, y10, e, hr⟩ := zq9
      subst e
      obtain ⟨z4, z6, z7, z8, z9, z10, s⟩ := law_step ok l hl (d0 := .l (ns.map D.i)) hr (c := z) (x4 := y4) (x6 := y6) (x7 := y7) (x8 := y8) (x9 := y9) (x10 := y10)
      exact ⟨_, _, rfl, s, _, _, _, _, _, _, _, _, rfl, rfl⟩
  rw [List.map_cons] at lp2
  have ad : addL (.l [.i c]) (.l ((ns.drop 23).map D.i)) = some (.ac ((c :: ns.drop 23).map D.i)) := addL_l (by
    rw [List.length_map, List.length_drop, List.length_cons]
    simp only [List.length_nil]
    omega)
  simp only [f_law, g_law]
  clear ok l
  walk_at "ev*"
end Gen

namespace Gen
open PySem PySem.Spec PyProof.Rows L2 L3
noncomputable def top (i : Nat) : Stmt := PySem.Challenge.pw_beadframe_k63_parts_set.main.body.getD i (.Pass ⟨0, 0, 0, 0⟩)
noncomputable abbrev s__law_cell : Stmt := top 34
private theorem sc__law_cell : FnScope ["_law_script", "_law_k", "_law_number"] ["_law_script", "_law_k"] (defScope s__law_cell) := ⟨rfl, rfl, rfl, by decide +kernel, rfl, by decide +kernel, by decide +kernel⟩
noncomputable abbrev s__law_plain : Stmt := top 38
private theorem sc__law_plain : FnScope ["_law_layout_here", "_law_number", "_law_high"] ["_law_layout_here", "_law_number"] (defScope s__law_plain) := ⟨rfl, rfl, rfl, by decide +kernel, rfl, by decide +kernel, by decide +kernel⟩
noncomputable abbrev s__law_digits : Stmt := top 40
private theorem sc__law_digits : FnScope ["_law_frame_here", "_law_number", "_law_found", "_law_layout_here"] ["_law_frame_here", "_law_number"] (defScope s__law_digits) := ⟨rfl, rfl, rfl, by decide +kernel, rfl, by decide +kernel, by decide +kernel⟩
noncomputable abbrev s__law_tidy : Stmt := top 41
private theorem nd__law_tidy_1 : (["_law_rod", "_law_layout_here", "_law_digits_here"] : List Str).Nodup := by decide +kernel
private theorem sc__law_tidy : FnScope ["_law_frame_here", "_law_number", "_law_digits_here"] ["_law_frame_here", "_law_number"] (defScope s__law_tidy) := ⟨rfl, rfl, rfl, by decide +kernel, rfl, by decide +kernel, by decide +kernel⟩
noncomputable abbrev s_plain_of : Stmt := top 19
private theorem sc_plain_of : FnScope ["layout", "number", "high"] ["layout", "number"] (defScope s_plain_of) := ⟨rfl, rfl, rfl, by decide +kernel, rfl, by decide +kernel, by decide +kernel⟩
noncomputable abbrev s_full_worth : Stmt := top 18
private theorem sc_full_worth : FnScope ["layout"] ["layout"] (defScope s_full_worth) := ⟨rfl, rfl, rfl, by decide +kernel, rfl, by decide +kernel, by decide +kernel⟩
noncomputable abbrev s_most_tidy : Stmt := top 23
private theorem sc_most_tidy : FnScope ["frame", "rod"] ["frame", "rod"] (defScope s_most_tidy) := ⟨rfl, rfl, rfl, by decide +kernel, rfl, by decide +kernel, by decide +kernel⟩
noncomputable abbrev s_digits_of : Stmt := top 22
private theorem sc_digits_of : FnScope ["frame", "number", "digits", "left", "layout"] ["frame", "number"] (defScope s_digits_of) := ⟨rfl, rfl, rfl, by decide +kernel, rfl, by decide +kernel, by decide +kernel⟩
noncomputable abbrev s_tidy_of : Stmt := top 24
private theorem nd_tidy_of_1 : (["layout", "digit"] : List Str).Nodup := by decide +kernel
private theorem sc_tidy_of : FnScope ["frame", "number", "digits", "last"] ["frame", "number"] (defScope s_tidy_of) := ⟨rfl, rfl, rfl, by decide +kernel, rfl, by decide +kernel, by decide +kernel⟩
noncomputable abbrev s_greatest_divisor : Stmt := top 32
private theorem sc_greatest_divisor : FnScope ["one", "other", "rest"] ["one", "other"] (defScope s_greatest_divisor) := ⟨rfl, rfl, rfl, by decide +kernel, rfl, by decide +kernel, by decide +kernel⟩
noncomputable abbrev s_lowest_terms : Stmt := top 31
private theorem sc_lowest_terms : FnScope ["top", "bottom", "shared"] ["top", "bottom"] (defScope s_lowest_terms) := ⟨rfl, rfl, rfl, by decide +kernel, rfl, by decide +kernel, by decide +kernel⟩
noncomputable abbrev s_place_of : Stmt := top 21
private theorem sc_place_of : FnScope ["frame", "rod", "place", "layout"] ["frame", "rod"] (defScope s_place_of) := ⟨rfl, rfl, rfl, by decide +kernel, rfl, by decide +kernel, by decide +kernel⟩
noncomputable abbrev s_rest_above : Stmt := top 30
private theorem sc_rest_above : FnScope ["frame", "point", "part", "number", "place"] ["frame", "point", "part", "number"] (defScope s_rest_above) := ⟨rfl, rfl, rfl, by decide +kernel, rfl, by decide +kernel, by decide +kernel⟩
noncomputable abbrev s_number_below : Stmt := top 29
private theorem sc_number_below : FnScope ["frame", "point", "part"] ["frame", "point", "part"] (defScope s_number_below) := ⟨rfl, rfl, rfl, by decide +kernel, rfl, by decide +kernel, by decide +kernel⟩
noncomputable abbrev s_part_set : Stmt := top 28
private theorem sc_part_set : FnScope ["frame", "point", "part", "number", "rest"] ["frame", "point", "part"] (defScope s_part_set) := ⟨rfl, rfl, rfl, by decide +kernel, rfl, by decide +kernel, by decide +kernel⟩
noncomputable abbrev s__law_refused : Stmt := top 42
private theorem sc__law_refused : FnScope ["_law_e", "_law_others", "_law_some"] ["_law_e"] (defScope s__law_refused) := ⟨rfl, rfl, rfl, by decide +kernel, rfl, by decide +kernel, by decide +kernel⟩
noncomputable abbrev s__law_told : Stmt := top 46
private theorem sc__law_told : FnScope ["_law_frame_here", "_law_point", "_law_part_here", "_law_found", "_law_told_here", "_law_e"] ["_law_frame_here", "_law_point", "_law_part_here"] (defScope s__law_told) := ⟨rfl, rfl, rfl, by decide +kernel, rfl, by decide +kernel, by decide +kernel⟩
noncomputable abbrev s__law_divisor : Stmt := top 43
private theorem sc__law_divisor : FnScope ["_law_one", "_law_other"] ["_law_one", "_law_other"] (defScope s__law_divisor) := ⟨rfl, rfl, rfl, by decide +kernel, rfl, by decide +kernel, by decide +kernel⟩
noncomputable abbrev s__law_part : Stmt := top 45
private theorem sc__law_part : FnScope ["_law_cell_here", "_law_most_here", "_law_place", "_law_whole", "_law_more", "_law_top", "_law_by"] ["_law_cell_here", "_law_most_here", "_law_place"] (defScope s__law_part) := ⟨rfl, rfl, rfl, by decide +kernel, rfl, by decide +kernel, by decide +kernel⟩
noncomputable abbrev s__law_most : Stmt := top 44
private theorem sc__law_most : FnScope ["_law_frame_here", "_law_place", "_law_layout_here"] ["_law_frame_here"] (defScope s__law_most) := ⟨rfl, rfl, rfl, by decide +kernel, rfl, by decide +kernel, by decide +kernel⟩
noncomputable abbrev s__law_layout : Stmt := top 35
private theorem sc__law_layout : FnScope ["_law_cell_here", "_law_upper", "_law_base", "_law_worth", "_law_lower", "_law_most_here"] ["_law_cell_here"] (defScope s__law_layout) := ⟨rfl, rfl, rfl, by decide +kernel, rfl, by decide +kernel, by decide +kernel⟩
noncomputable abbrev s__law_frame : Stmt := top 36
private theorem nd__law_frame_1 : (["_law_k", "_law_script", "_law_at"] : List Str).Nodup := by decide +kernel
private theorem sc__law_frame : FnScope ["_law_script", "_law_at", "_law_most_here"] ["_law_script", "_law_at", "_law_most_here"] (defScope s__law_frame) := ⟨rfl, rfl, rfl, by decide +kernel, rfl, by decide +kernel, by decide +kernel⟩
noncomputable abbrev s_law : Stmt := top 47
private theorem sc_law : FnScope ["_law_script", "_law_frame_here", "_law_most_here", "_law_places", "_law_layout_here", "_law_cell_here", "_law_point", "_law_top", "_law_bottom", "_law_found", "_law_told_here"] ["_law_script"] (defScope s_law) := ⟨rfl, rfl, rfl, by decide +kernel, rfl, by decide +kernel, by decide +kernel⟩
noncomputable abbrev si_TooGreat : Stmt := inClass (top 3) 0
private theorem sci_TooGreat : FnScope ["self", "rod"] ["self", "rod"] (defScope si_TooGreat) := ⟨rfl, rfl, rfl, by decide +kernel, rfl, by decide +kernel, by decide +kernel⟩
section
variable {P : Program} {w : World} {K : PySem.W.Frag} {mg : Str → Option Value} {base : Heap}
set_option maxHeartbeats 4000000 in
private theorem fx__law_cell (F : FD K mg "_law_cell" s__law_cell ["_law_script", "_law_k"]) (z_len : mg "len" = none) : FX P w K mg base 1 "_law_cell" ["_law_script", "_law_k"] f__law_cell x__law_cell := by
  exact F.ok sc__law_cell rfl rfl (g := g__law_cell) (k := 0) fun cdv A outer s H E hr => (qs_cons (q_if (ptx_cmp ox_lt (px_rd (pv 1)) (px_callB cx_len rfl z_len PySem.boot_len (pxs_cons (px_rd (pv 0)) pxs_nil)) (nomark _)) (qs_one (q_ret (px_ix (xx_any (hu_of hr)) (px_rd (pv 0)) (px_rd (pv 1))))) qs_nil) (qs_cons (q_set (i := 2) sc__law_cell.nd rfl (by first | exact Or.inl rfl | exact Or.inr rfl) (px_op ox_addI (px_op ox_mul (px_rd (pv 1)) px_int) px_int)) (qs_cons (q_if (ptx_cmp ox_gt (px_callB cx_len rfl z_len PySem.boot_len (pxs_cons (px_rd (pv 0)) pxs_nil)) px_int (nomark _)) (qs_one (q_set (i := 2) sc__law_cell.nd rfl (by first | exact Or.inl rfl | exact Or.inr rfl) (px_op ox_addI (px_rd (pv 2)) (px_op ox_mul (px_op ox_mod (px_ix (xx_any (hu_of hr)) (px_rd (pv 0)) (px_op ox_mod (px_op ox_mul (px_rd (pv 1)) px_int) (px_callB cx_len rfl z_len PySem.boot_len (pxs_cons (px_rd (pv 0)) pxs_nil)))) px_int) px_int)))) qs_nil) (qs_one (q_ret (px_op ox_mod (px_op ox_mul (px_rd (pv 2)) (px_rd (pv 2))) px_int))))))
set_option maxHeartbeats 4000000 in
private theorem fx__law_plain (F : FD K mg "_law_plain" s__law_plain ["_law_layout_here", "_law_number"]) (z_min : mg "min" = none) : FX P w K mg base 1 "_law_plain" ["_law_layout_here", "_law_number"] f__law_plain x__law_plain := by
  exact F.ok sc__law_plain rfl rfl (g := g__law_plain) (k := 0) fun cdv A outer s H E hr => (qs_cons (q_set (i := 2) sc__law_plain.nd rfl (by first | exact Or.inl rfl | exact Or.inr rfl) (px_callB (cx_min rfl) rfl z_min boot_min (pxs_cons (px_ix (xx_any (hu_of hr)) (px_rd (pv 0)) px_int) (pxs_cons (px_op ox_fdiv (px_rd (pv 1)) (px_ix (xx_any (hu_of hr)) (px_rd (pv 0)) px_int)) pxs_nil)))) (qs_one (q_ret (px_tup (pxs_cons (px_rd (pv 2)) (pxs_cons (px_op ox_sub (px_rd (pv 1)) (px_op ox_mul (px_rd (pv 2)) (px_ix (xx_any (hu_of hr)) (px_rd (pv 0)) px_int))) pxs_nil))))))
set_option maxHeartbeats 4000000 in
private theorem fx__law_digits (F : FD K mg "_law_digits" s__law_digits ["_law_frame_here", "_law_number"]) : FX P w K mg base 1 "_law_digits" ["_law_frame_here", "_law_number"] f__law_digits x__law_digits := by
  exact F.ok sc__law_digits rfl rfl (g := g__law_digits) (k := 0) fun cdv A outer s H E hr => (qs_cons (q_set (i := 2) sc__law_digits.nd rfl (by first | exact Or.inl rfl | exact Or.inr rfl) (px_lst pxs_nil)) (qs_cons (q_for pown rfl (pix_seq (px_slice (px_rd (pv 0)) pox_no (pox_some (px_neg px_int)))) (pgx_name (i := 3) sc__law_digits.nd rfl (by first | exact Or.inl rfl | exact Or.inr rfl)) (qs_cons (q_append (pv 2) (px_op ox_mod (px_rd (pv 1)) (px_ix (xx_any (hu_of hr)) (px_rd (pv 3)) px_int))) (qs_one (q_set (i := 1) sc__law_digits.nd rfl (by first | exact Or.inl rfl | exact Or.inr rfl) (px_op ox_fdiv (px_rd (pv 1)) (px_ix (xx_any (hu_of hr)) (px_rd (pv 3)) px_int)))))) (qs_one (q_ret (px_op ox_addL (px_rd (pv 2)) (px_lst (pxs_cons (px_rd (pv 1)) pxs_nil)))))))
set_option maxHeartbeats 4000000 in
private theorem fx__law_tidy (F : FD K mg "_law_tidy" s__law_tidy ["_law_frame_here", "_law_number"]) (h__law_plain : FX P w K mg base 1 "_law_plain" ["_law_layout_here", "_law_number"] f__law_plain x__law_plain) (h__law_digits : FX P w K mg base 1 "_law_digits" ["_law_frame_here", "_law_number"] f__law_digits x__law_digits) (z_enumerate : mg "enumerate" = none) : FX P w K mg base 2 "_law_tidy" ["_law_frame_here", "_law_number"] f__law_tidy x__law_tidy := by
  replace h__law_plain := h__law_plain.mono (show 1 ≤ 1 by decide)
  replace h__law_digits := h__law_digits.mono (show 1 ≤ 1 by decide)
  exact F.ok sc__law_tidy rfl rfl (g := g__law_tidy) (k := 1) fun cdv A outer s H E hr => (qs_cons (q_set (i := 2) sc__law_tidy.nd rfl (by first | exact Or.inl rfl | exact Or.inr rfl) (px_fx h__law_digits hr rfl (pxs_cons (px_rd (pv 0)) (pxs_cons (px_rd (pv 1)) pxs_nil)))) (qs_cons (q_if (ptx_cmp ox_gt (px_ix (xx_any (hu_of hr)) (px_rd (pv 2)) (px_neg px_int)) (px_op ox_addI (px_op ox_mul (px_ix (xx_any (hu_of hr)) (px_ix (xx_any (hu_of hr)) (px_rd (pv 0)) (px_neg px_int)) px_int) (px_ix (xx_any (hu_of hr)) (px_ix (xx_any (hu_of hr)) (px_rd (pv 0)) (px_neg px_int)) px_int)) (px_ix (xx_any (hu_of hr)) (px_ix (xx_any (hu_of hr)) (px_rd (pv 0)) (px_neg px_int)) px_int)) (nomark _)) (qs_one (q_ret px_non)) qs_nil) (qs_one (q_ret (px_lc rfl (compOk_at (sc := defScope s__law_tidy) (N := ["_law_frame_here", "_law_number", "_law_digits_here"]) (N' := ["_law_rod", "_law_layout_here", "_law_digits_here"]) (fr := [none, none, some 2]) rfl rfl rfl (by decide +kernel) (by decide +kernel) (by decide +kernel) cells_def (by decide +kernel)) (pix_enum rfl z_enumerate (by decide +kernel) (pxs_cons (px_rd (pv 0)) pxs_nil)) (fun _ _ _ _ => (pgx_tup rfl (pgxs_cons (pgx_name (i := 0) nd__law_tidy_1 rfl (by first | exact Or.inl rfl | exact Or.inr rfl)) (pgxs_cons (pgx_name (i := 1) nd__law_tidy_1 rfl (by first | exact Or.inl rfl | exact Or.inr rfl)) pgxs_nil)))) (fun _ _ _ _ => pxl_nil) (fun _ _ _ _ => (px_fx h__law_plain hr rfl (pxs_cons (px_rd (pv 1)) (pxs_cons (px_ix (xx_any (hu_of hr)) (px_rd (pv 2)) (px_rd (pv 0))) pxs_nil)))))))))
set_option maxHeartbeats 4000000 in
private theorem fx_plain_of (F : FD K mg "plain_of" s_plain_of ["layout", "number"]) (h_WORTH : CI K mg "WORTH" c_WORTH) (h_UPPER : CI K mg "UPPER" c_UPPER) (z_min : mg "min" = none) : FX P w K mg base 1 "plain_of" ["layout", "number"] f_plain_of x_plain_of := by
  exact F.ok sc_plain_of rfl rfl (g := g_plain_of) (k := 0) fun cdv A outer s H E hr => (qs_cons (q_set (i := 2) sc_plain_of.nd rfl (by first | exact Or.inl rfl | exact Or.inr rfl) (px_callB (cx_min rfl) rfl z_min boot_min (pxs_cons (px_ix (xx_any (hu_of hr)) (px_rd (pv 0)) (px_cst (x := "UPPER") h_UPPER rfl)) (pxs_cons (px_op ox_fdiv (px_rd (pv 1)) (px_ix (xx_any (hu_of hr)) (px_rd (pv 0)) (px_cst (x := "WORTH") h_WORTH rfl))) pxs_nil)))) (qs_one (q_ret (px_tup (pxs_cons (px_rd (pv 2)) (pxs_cons (px_op ox_sub (px_rd (pv 1)) (px_op ox_mul (px_rd (pv 2)) (px_ix (xx_any (hu_of hr)) (px_rd (pv 0)) (px_cst (x := "WORTH") h_WORTH rfl)))) pxs_nil))))))
set_option maxHeartbeats 4000000 in
private theorem fx_full_worth (F : FD K mg "full_worth" s_full_worth ["layout"]) (h_UPPER : CI K mg "UPPER" c_UPPER) (h_WORTH : CI K mg "WORTH" c_WORTH) (h_LOWER : CI K mg "LOWER" c_LOWER) : FX P w K mg base 1 "full_worth" ["layout"] f_full_worth x_full_worth := by
  exact F.ok sc_full_worth rfl rfl (g := g_full_worth) (k := 0) fun cdv A outer s H E hr => (qs_one (q_ret (px_op ox_addI (px_op ox_mul (px_ix (xx_any (hu_of hr)) (px_rd (pv 0)) (px_cst (x := "UPPER") h_UPPER rfl)) (px_ix (xx_any (hu_of hr)) (px_rd (pv 0)) (px_cst (x := "WORTH") h_WORTH rfl))) (px_ix (xx_any (hu_of hr)) (px_rd (pv 0)) (px_cst (x := "LOWER") h_LOWER rfl)))))
set_option maxHeartbeats 4000000 in
private theorem fx_most_tidy (F : FD K mg "most_tidy" s_most_tidy ["frame", "rod"]) (h_full_worth : FX P w K mg base 1 "full_worth" ["layout"] f_full_worth x_full_worth) (h_BASE : CI K mg "BASE" c_BASE) (z_len : mg "len" = none) : FX P w K mg base 2 "most_tidy" ["frame", "rod"] f_most_tidy x_most_tidy := by
  replace h_full_worth := h_full_worth.mono (show 1 ≤ 1 by decide)
  exact F.ok sc_most_tidy rfl rfl (g := g_most_tidy) (k := 1) fun cdv A outer s H E hr => (qs_cons (q_if (ptx_cmp (ox_eq hr.units) (px_rd (pv 1)) (px_op ox_sub (px_callB cx_len rfl z_len PySem.boot_len (pxs_cons (px_rd (pv 0)) pxs_nil)) px_int) (nomark _)) (qs_one (q_ret (px_fx h_full_worth hr rfl (pxs_cons (px_ix (xx_any (hu_of hr)) (px_rd (pv 0)) (px_rd (pv 1))) pxs_nil)))) qs_nil) (qs_one (q_ret (px_op ox_sub (px_ix (xx_any (hu_of hr)) (px_ix (xx_any (hu_of hr)) (px_rd (pv 0)) (px_rd (pv 1))) (px_cst (x := "BASE") h_BASE rfl)) px_int))))
set_option maxHeartbeats 4000000 in
private theorem fx_digits_of (F : FD K mg "digits_of" s_digits_of ["frame", "number"]) (h_BASE : CI K mg "BASE" c_BASE) : FX P w K mg base 1 "digits_of" ["frame", "number"] f_digits_of x_digits_of := by
  exact F.ok sc_digits_of rfl rfl (g := g_digits_of) (k := 0) fun cdv A outer s H E hr => (qs_cons (q_set (i := 2) sc_digits_of.nd rfl (by first | exact Or.inl rfl | exact Or.inr rfl) (px_lst pxs_nil)) (qs_cons (q_set (i := 3) sc_digits_of.nd rfl (by first | exact Or.inl rfl | exact Or.inr rfl) (px_rd (pv 1))) (qs_cons (q_for pown rfl (pix_seq (px_slice (px_rd (pv 0)) pox_no (pox_some (px_neg px_int)))) (pgx_name (i := 4) sc_digits_of.nd rfl (by first | exact Or.inl rfl | exact Or.inr rfl)) (qs_cons (q_append (pv 2) (px_op ox_mod (px_rd (pv 3)) (px_ix (xx_any (hu_of hr)) (px_rd (pv 4)) (px_cst (x := "BASE") h_BASE rfl)))) (qs_one (q_set (i := 3) sc_digits_of.nd rfl (by first | exact Or.inl rfl | exact Or.inr rfl) (px_op ox_fdiv (px_rd (pv 3)) (px_ix (xx_any (hu_of hr)) (px_rd (pv 4)) (px_cst (x := "BASE") h_BASE rfl))))))) (qs_cons (q_append (pv 2) (px_rd (pv 3))) (qs_one (q_retV (pv 2)))))))
set_option maxHeartbeats 4000000 in
private theorem fx_tidy_of (F : FD K mg "tidy_of" s_tidy_of ["frame", "number"]) (h_plain_of : FX P w K mg base 1 "plain_of" ["layout", "number"] f_plain_of x_plain_of) (h_most_tidy : FX P w K mg base 2 "most_tidy" ["frame", "rod"] f_most_tidy x_most_tidy) (h_digits_of : FX P w K mg base 1 "digits_of" ["frame", "number"] f_digits_of x_digits_of) (z_zip : mg "zip" = none) (z_len : mg "len" = none) (xi_TooGreat : XI P w K mg base "TooGreat" ["rod"]) : FX P w K mg base 3 "tidy_of" ["frame", "number"] f_tidy_of x_tidy_of := by
  replace h_plain_of := h_plain_of.mono (show 1 ≤ 2 by decide)
  replace h_most_tidy := h_most_tidy.mono (show 2 ≤ 2 by decide)
  replace h_digits_of := h_digits_of.mono (show 1 ≤ 2 by decide)
  exact F.ok sc_tidy_of rfl rfl (g := g_tidy_of) (k := 2) fun cdv A outer s H E hr => (qs_cons (q_set (i := 2) sc_tidy_of.nd rfl (by first | exact Or.inl rfl | exact Or.inr rfl) (px_fx h_digits_of hr rfl (pxs_cons (px_rd (pv 0)) (pxs_cons (px_rd (pv 1)) pxs_nil)))) (qs_cons (q_set (i := 3) sc_tidy_of.nd rfl (by first | exact Or.inl rfl | exact Or.inr rfl) (px_op ox_sub (px_callB cx_len rfl z_len PySem.boot_len (pxs_cons (px_rd (pv 0)) pxs_nil)) px_int)) (qs_cons (q_if (ptx_cmp ox_gt (px_ix (xx_any (hu_of hr)) (px_rd (pv 2)) (px_rd (pv 3))) (px_fx h_most_tidy hr rfl (pxs_cons (px_rd (pv 0)) (pxs_cons (px_rd (pv 3)) pxs_nil))) (nomark _)) (qs_one (q_raiseI xi_TooGreat hr (by decide) (by decide) (by decide) rfl (pxs_cons (px_rd (pv 3)) pxs_nil))) qs_nil) (qs_one (q_ret (px_lc rfl (compOk_at (sc := defScope s_tidy_of) (N := ["frame", "number", "digits", "last"]) (N' := ["layout", "digit"]) (fr := [none, none]) rfl rfl rfl (by decide +kernel) (by decide +kernel) (by decide +kernel) cells_def (by decide +kernel)) (pix_zip rfl z_zip (by decide +kernel) (pxs_cons (px_rd (pv 0)) (pxs_cons (px_rd (pv 2)) pxs_nil))) (fun _ _ _ _ => (pgx_tup rfl (pgxs_cons (pgx_name (i := 0) nd_tidy_of_1 rfl (by first | exact Or.inl rfl | exact Or.inr rfl)) (pgxs_cons (pgx_name (i := 1) nd_tidy_of_1 rfl (by first | exact Or.inl rfl | exact Or.inr rfl)) pgxs_nil)))) (fun _ _ _ _ => pxl_nil) (fun _ _ _ _ => (px_fx h_plain_of hr rfl (pxs_cons (px_rd (pv 0)) (pxs_cons (px_rd (pv 1)) pxs_nil))))))))))
set_option maxHeartbeats 4000000 in
private theorem fx_greatest_divisor (F : FD K mg "greatest_divisor" s_greatest_divisor ["one", "other"]) : FX P w K mg base 1 "greatest_divisor" ["one", "other"] f_greatest_divisor x_greatest_divisor := by
  exact F.ok sc_greatest_divisor rfl rfl (g := g_greatest_divisor) (k := 0) fun cdv A outer s H E hr => (qs_cons (q_while pown (ptx_cmp (ox_ne hr.units) (px_rd (pv 1)) px_int (nomark _)) (qs_cons (q_set (i := 2) sc_greatest_divisor.nd rfl (by first | exact Or.inl rfl | exact Or.inr rfl) (px_op ox_mod (px_rd (pv 0)) (px_rd (pv 1)))) (qs_cons (q_set (i := 0) sc_greatest_divisor.nd rfl (by first | exact Or.inl rfl | exact Or.inr rfl) (px_rd (pv 1))) (qs_one (q_set (i := 1) sc_greatest_divisor.nd rfl (by first | exact Or.inl rfl | exact Or.inr rfl) (px_rd (pv 2))))))) (qs_one (q_retV (pv 0))))
set_option maxHeartbeats 4000000 in
private theorem fx_lowest_terms (F : FD K mg "lowest_terms" s_lowest_terms ["top", "bottom"]) (h_greatest_divisor : FX P w K mg base 1 "greatest_divisor" ["one", "other"] f_greatest_divisor x_greatest_divisor) : FX P w K mg base 2 "lowest_terms" ["top", "bottom"] f_lowest_terms x_lowest_terms := by
  replace h_greatest_divisor := h_greatest_divisor.mono (show 1 ≤ 1 by decide)
  exact F.ok sc_lowest_terms rfl rfl (g := g_lowest_terms) (k := 1) fun cdv A outer s H E hr => (qs_cons (q_set (i := 2) sc_lowest_terms.nd rfl (by first | exact Or.inl rfl | exact Or.inr rfl) (px_fx h_greatest_divisor hr rfl (pxs_cons (px_rd (pv 0)) (pxs_cons (px_rd (pv 1)) pxs_nil)))) (qs_one (q_ret (px_tup (pxs_cons (px_op ox_fdiv (px_rd (pv 0)) (px_rd (pv 2))) (pxs_cons (px_op ox_fdiv (px_rd (pv 1)) (px_rd (pv 2))) pxs_nil))))))
set_option maxHeartbeats 4000000 in
private theorem fx_place_of (F : FD K mg "place_of" s_place_of ["frame", "rod"]) (h_BASE : CI K mg "BASE" c_BASE) : FX P w K mg base 1 "place_of" ["frame", "rod"] f_place_of x_place_of := by
  exact F.ok sc_place_of rfl rfl (g := g_place_of) (k := 0) fun cdv A outer s H E hr => (qs_cons (q_set (i := 2) sc_place_of.nd rfl (by first | exact Or.inl rfl | exact Or.inr rfl) px_int) (qs_cons (q_for pown rfl (pix_seq (px_slice (px_rd (pv 0)) pox_no (pox_some (px_rd (pv 1))))) (pgx_name (i := 3) sc_place_of.nd rfl (by first | exact Or.inl rfl | exact Or.inr rfl)) (qs_one (q_set (i := 2) sc_place_of.nd rfl (by first | exact Or.inl rfl | exact Or.inr rfl) (px_op ox_mul (px_rd (pv 2)) (px_ix (xx_any (hu_of hr)) (px_rd (pv 3)) (px_cst (x := "BASE") h_BASE rfl)))))) (qs_one (q_retV (pv 2)))))
set_option maxHeartbeats 4000000 in
private theorem fx_rest_above (F : FD K mg "rest_above" s_rest_above ["frame", "point", "part", "number"]) (h_lowest_terms : FX P w K mg base 2 "lowest_terms" ["top", "bottom"] f_lowest_terms x_lowest_terms) (h_place_of : FX P w K mg base 1 "place_of" ["frame", "rod"] f_place_of x_place_of) (h_BOTTOM : CI K mg "BOTTOM" c_BOTTOM) (h_TOP : CI K mg "TOP" c_TOP) : FX P w K mg base 3 "rest_above" ["frame", "point", "part", "number"] f_rest_above x_rest_above := by
  replace h_lowest_terms := h_lowest_terms.mono (show 2 ≤ 2 by decide)
  replace h_place_of := h_place_of.mono (show 1 ≤ 2 by decide)
  exact F.ok sc_rest_above rfl rfl (g := g_rest_above) (k := 2) fun cdv A outer s H E hr => (qs_cons (q_set (i := 4) sc_rest_above.nd rfl (by first | exact Or.inl rfl | exact Or.inr rfl) (px_fx h_place_of hr rfl (pxs_cons (px_rd (pv 0)) (pxs_cons (px_rd (pv 1)) pxs_nil)))) (qs_one (q_ret (px_fx h_lowest_terms hr rfl (pxs_cons (px_op ox_sub (px_op ox_mul (px_ix (xx_any (hu_of hr)) (px_rd (pv 2)) (px_cst (x := "TOP") h_TOP rfl)) (px_rd (pv 4))) (px_op ox_mul (px_rd (pv 3)) (px_ix (xx_any (hu_of hr)) (px_rd (pv 2)) (px_cst (x := "BOTTOM") h_BOTTOM rfl)))) (pxs_cons (px_op ox_mul (px_ix (xx_any (hu_of hr)) (px_rd (pv 2)) (px_cst (x := "BOTTOM") h_BOTTOM rfl)) (px_rd (pv 4))) pxs_nil))))))
set_option maxHeartbeats 4000000 in
private theorem fx_number_below (F : FD K mg "number_below" s_number_below ["frame", "point", "part"]) (h_place_of : FX P w K mg base 1 "place_of" ["frame", "rod"] f_place_of x_place_of) (h_TOP : CI K mg "TOP" c_TOP) (h_BOTTOM : CI K mg "BOTTOM" c_BOTTOM) : FX P w K mg base 2 "number_below" ["frame", "point", "part"] f_number_below x_number_below := by
  replace h_place_of := h_place_of.mono (show 1 ≤ 1 by decide)
  exact F.ok sc_number_below rfl rfl (g := g_number_below) (k := 1) fun cdv A outer s H E hr => (qs_one (q_ret (px_op ox_fdiv (px_op ox_mul (px_ix (xx_any (hu_of hr)) (px_rd (pv 2)) (px_cst (x := "TOP") h_TOP rfl)) (px_fx h_place_of hr rfl (pxs_cons (px_rd (pv 0)) (pxs_cons (px_rd (pv 1)) pxs_nil)))) (px_ix (xx_any (hu_of hr)) (px_rd (pv 2)) (px_cst (x := "BOTTOM") h_BOTTOM rfl)))))
set_option maxHeartbeats 4000000 in
private theorem fx_part_set (F : FD K mg "part_set" s_part_set ["frame", "point", "part"]) (h_tidy_of : FX P w K mg base 3 "tidy_of" ["frame", "number"] f_tidy_of x_tidy_of) (h_rest_above : FX P w K mg base 3 "rest_above" ["frame", "point", "part", "number"] f_rest_above x_rest_above) (h_number_below : FX P w K mg base 2 "number_below" ["frame", "point", "part"] f_number_below x_number_below) (xp_1 : XP K mg "Between") : FX P w K mg base 4 "part_set" ["frame", "point", "part"] f_part_set x_part_set := by
  replace h_tidy_of := h_tidy_of.mono (show 3 ≤ 3 by decide)
  replace h_rest_above := h_rest_above.mono (show 3 ≤ 3 by decide)
  replace h_number_below := h_number_below.mono (show 2 ≤ 3 by decide)
  exact F.ok sc_part_set rfl rfl (g := g_part_set) (k := 3) fun cdv A outer s H E hr => (qs_cons (q_set (i := 3) sc_part_set.nd rfl (by first | exact Or.inl rfl | exact Or.inr rfl) (px_fx h_number_below hr rfl (pxs_cons (px_rd (pv 0)) (pxs_cons (px_rd (pv 1)) (pxs_cons (px_rd (pv 2)) pxs_nil))))) (qs_cons (q_set (i := 4) sc_part_set.nd rfl (by first | exact Or.inl rfl | exact Or.inr rfl) (px_fx h_rest_above hr rfl (pxs_cons (px_rd (pv 0)) (pxs_cons (px_rd (pv 1)) (pxs_cons (px_rd (pv 2)) (pxs_cons (px_rd (pv 3)) pxs_nil)))))) (qs_cons (q_if (ptx_cmp (ox_eq hr.units) (px_rd (pv 4)) (px_tup (pxs_cons px_int (pxs_cons px_int pxs_nil))) (nomark _)) (qs_one (q_or (q_ret (px_fx h_tidy_of hr rfl (pxs_cons (px_rd (pv 0)) (pxs_cons (px_rd (pv 3)) pxs_nil)))) (q_retX (rx_fx h_tidy_of hr rfl (pxs_cons (px_rd (pv 0)) (pxs_cons (px_rd (pv 3)) pxs_nil)))))) qs_nil) (qs_cons (q_or (q_expr (px_fx h_tidy_of hr rfl (pxs_cons (px_rd (pv 0)) (pxs_cons (px_op ox_addI (px_rd (pv 3)) px_int) pxs_nil)))) (q_exprX (rx_fx h_tidy_of hr rfl (pxs_cons (px_rd (pv 0)) (pxs_cons (px_op ox_addI (px_rd (pv 3)) px_int) pxs_nil))))) (qs_one (q_raiseP xp_1 hr rfl (pxs_cons px_str pxs_nil)))))))
set_option maxHeartbeats 4000000 in
private theorem fx__law_refused (F : FD K mg "_law_refused" s__law_refused ["_law_e"]) (z_isinstance : mg "isinstance" = none) (at_3 : AT K "rod" ["TooGreat"]) (it_4 : IT K mg ["ValueError"] [("TooGreat", true), ("Between", true)]) (it_5 : IT K mg ["Between"] [("TooGreat", false), ("Between", true)]) (it_6 : IT K mg ["Below"] [("TooGreat", false), ("Between", false)]) (it_7 : IT K mg ["TooGreat"] [("TooGreat", true), ("Between", false)]) (it_8 : IT K mg ["NoSay"] [("TooGreat", false), ("Between", false)]) (it_9 : IT K mg ["Spoilt"] [("TooGreat", false), ("Between", false)]) (it_10 : IT K mg ["NoRow"] [("TooGreat", false), ("Between", false)]) (it_11 : IT K mg ["NoDivisor"] [("TooGreat", false), ("Between", false)]) (it_12 : IT K mg ["NoMove"] [("TooGreat", false), ("Between", false)]) (it_13 : IT K mg ["Stuck"] [("TooGreat", false), ("Between", false)]) (it_14 : IT K mg ["NoStanding"] [("TooGreat", false), ("Between", false)]) (it_15 : IT K mg ["NoLayout"] [("TooGreat", false), ("Between", false)]) : FXS P w K mg base 1 "_law_refused" ["_law_e"] f__law_refused := by
  exact F.okS sc__law_refused rfl rfl (g := g__law_refused) (k := 0) fun ev cdv A outer s H E hr => (qs_cons (q_set (i := 1) sc__law_refused.nd rfl (by first | exact Or.inl rfl | exact Or.inr rfl) (px_lst (pxs_cons (px_isx it_15 (px_rd (pv 0)) rfl z_isinstance rfl) (pxs_cons (px_isx it_14 (px_rd (pv 0)) rfl z_isinstance rfl) (pxs_cons (px_isx it_13 (px_rd (pv 0)) rfl z_isinstance rfl) (pxs_cons (px_isx it_12 (px_rd (pv 0)) rfl z_isinstance rfl) pxs_nil)))))) (qs_cons (q_set (i := 1) sc__law_refused.nd rfl (by first | exact Or.inl rfl | exact Or.inr rfl) (px_op ox_addL (px_rd (pv 1)) (px_lst (pxs_cons (px_isx it_11 (px_rd (pv 0)) rfl z_isinstance rfl) (pxs_cons (px_isx it_10 (px_rd (pv 0)) rfl z_isinstance rfl) (pxs_cons (px_isx it_9 (px_rd (pv 0)) rfl z_isinstance rfl) (pxs_cons (px_isx it_8 (px_rd (pv 0)) rfl z_isinstance rfl) pxs_nil))))))) (qs_cons (q_set (i := 2) sc__law_refused.nd rfl (by first | exact Or.inl rfl | exact Or.inr rfl) (px_lst (pxs_cons (px_isx it_7 (px_rd (pv 0)) rfl z_isinstance rfl) (pxs_cons (px_isx it_6 (px_rd (pv 0)) rfl z_isinstance rfl) (pxs_cons (px_isx it_5 (px_rd (pv 0)) rfl z_isinstance rfl) pxs_nil))))) (qs_cons (q_if (PW.pt (pwx_or (ptx_cmp ox_inB px_bl (px_rd (pv 1)) (by rfl)) (pwx_or (ptx_not (ptx_tru (px_isx it_4 (px_rd (pv 0)) rfl z_isinstance rfl))) (pwx_or1 (ptx_cmp (ox_ne (have h := hr.units; h)) (px_count (px_rd (pv 2)) (pxs_cons px_bl pxs_nil)) px_int (nomark _)))))) (qs_one (q_ret (px_tup (pxs_cons px_str (pxs_cons px_non pxs_nil))))) qs_nil) (qs_cons (q_if (ptx_tru (px_ix (xx_any (have h := hu_of hr; h)) (px_rd (pv 2)) px_int)) (qs_one (q_ret (px_tup (pxs_cons px_str (pxs_cons (px_at at_3 (px_rd (pv 0))) pxs_nil))))) qs_nil) (qs_one (q_ret (px_tup (pxs_cons (px_ix (xx_any (have h := hu_of hr; h)) (px_lst (pxs_cons px_str (pxs_cons px_str (pxs_cons px_str pxs_nil)))) (px_index (px_rd (pv 2)) (pxs_cons px_bl pxs_nil))) (pxs_cons px_non pxs_nil))))))))))
set_option maxHeartbeats 4000000 in
private theorem fx__law_told (F : FD K mg "_law_told" s__law_told ["_law_frame_here", "_law_point", "_law_part_here"]) (h_part_set : FX P w K mg base 4 "part_set" ["frame", "point", "part"] f_part_set x_part_set) (h__law_refused : FXS P w K mg base 1 "_law_refused" ["_law_e"] f__law_refused) (xt_0 : XT K mg "FrameError" [("TooGreat", true), ("Between", true)]) : FX P w K mg base 5 "_law_told" ["_law_frame_here", "_law_point", "_law_part_here"] f__law_told x__law_told := by
  replace h_part_set := h_part_set.mono (show 4 ≤ 4 by decide)
  exact F.ok sc__law_told rfl rfl (g := g__law_told) (k := 4) fun cdv A outer s H E hr => (qs_cons (q_set (i := 3) sc__law_told.nd rfl (by first | exact Or.inl rfl | exact Or.inr rfl) px_non) (qs_cons (q_set (i := 4) sc__law_told.nd rfl (by first | exact Or.inl rfl | exact Or.inr rfl) (px_tup (pxs_cons px_str (pxs_cons px_non pxs_nil)))) (qs_cons (q_try sc__law_told.nd rfl rfl (fun E' pn' hp' => (qs_one (q_or (q_set (i := 3) sc__law_told.nd rfl (by first | exact Or.inl rfl | exact Or.inr rfl) (px_fx h_part_set hr rfl (pxs_cons (px_rd (pv 0)) (pxs_cons (px_rd (pv 1)) (pxs_cons (px_rd (pv 2)) pxs_nil))))) (q_setX (i := 3) sc__law_told.nd rfl (by first | exact Or.inl rfl | exact Or.inr rfl) (rx_fx h_part_set hr rfl (pxs_cons (px_rd (pv 0)) (pxs_cons (px_rd (pv 1)) (pxs_cons (px_rd (pv 2)) pxs_nil)))))))) (.as xt_0 rfl (by decide) (fun _ => (qs_one (q_set (i := 4) sc__law_told.nd rfl (by first | exact Or.inl rfl | exact Or.inr rfl) (px_fxS h__law_refused (by decide) hr rfl (pxs_cons (px_rd (pv 5)) pxs_nil))))) rfl rfl .nil)) (qs_one (q_ret (px_tup (pxs_cons (px_rd (pv 3)) (pxs_cons (px_rd (pv 4)) pxs_nil))))))))
set_option maxHeartbeats 4000000 in
private theorem fx__law_divisor (F : FD K mg "_law_divisor" s__law_divisor ["_law_one", "_law_other"]) : FX P w K mg base 1 "_law_divisor" ["_law_one", "_law_other"] f__law_divisor x__law_divisor := by
  exact F.ok sc__law_divisor rfl rfl (g := g__law_divisor) (k := 0) fun cdv A outer s H E hr => (qs_cons (q_while pown (ptx_cmp (ox_ne hr.units) (px_rd (pv 1)) px_int (nomark _)) (qs_one (q_par rfl sc__law_divisor.nd (i := 0) (j := 1) rfl rfl (by decide) rfl rfl (pxs_cons (px_rd (pv 1)) (pxs_cons (px_op ox_mod (px_rd (pv 0)) (px_rd (pv 1))) pxs_nil)) rfl))) (qs_one (q_retV (pv 0))))
set_option maxHeartbeats 4000000 in
private theorem fx__law_part (F : FD K mg "_law_part" s__law_part ["_law_cell_here", "_law_most_here", "_law_place"]) (h__law_divisor : FX P w K mg base 1 "_law_divisor" ["_law_one", "_law_other"] f__law_divisor x__law_divisor) : FX P w K mg base 2 "_law_part" ["_law_cell_here", "_law_most_here", "_law_place"] f__law_part x__law_part := by
  replace h__law_divisor := h__law_divisor.mono (show 1 ≤ 1 by decide)
  exact F.ok sc__law_part rfl rfl (g := g__law_part) (k := 1) fun cdv A outer s H E hr => (qs_cons (q_set (i := 3) sc__law_part.nd rfl (by first | exact Or.inl rfl | exact Or.inr rfl) (px_ix (xx_any (hu_of hr)) (px_lst (pxs_cons (px_op ox_mod (px_op ox_mul (px_rd (pv 0)) px_int) (px_op ox_addI (px_rd (pv 1)) px_int)) (pxs_cons (px_rd (pv 1)) (pxs_cons (px_op ox_mod (px_op ox_fdiv (px_rd (pv 0)) px_int) (px_op ox_addI (px_rd (pv 1)) px_int)) (pxs_cons (px_op ox_addI (px_rd (pv 1)) px_int) pxs_nil))))) (px_op ox_mod (px_rd (pv 0)) px_int))) (qs_cons (q_set (i := 4) sc__law_part.nd rfl (by first | exact Or.inl rfl | exact Or.inr rfl) (px_op ox_addI px_int (px_op ox_mod (px_op ox_fdiv (px_rd (pv 0)) px_int) px_int))) (qs_cons (q_set (i := 5) sc__law_part.nd rfl (by first | exact Or.inl rfl | exact Or.inr rfl) (px_op ox_addI (px_op ox_mul (px_rd (pv 3)) (px_rd (pv 4))) (px_op ox_mod (px_op ox_fdiv (px_rd (pv 0)) px_int) (px_rd (pv 4))))) (qs_cons (q_if (ptx_cmp (ox_eq hr.units) (px_op ox_mod (px_op ox_fdiv (px_rd (pv 0)) px_int) px_int) px_int (nomark _)) (qs_one (q_set (i := 5) sc__law_part.nd rfl (by first | exact Or.inl rfl | exact Or.inr rfl) (px_op ox_mul (px_rd (pv 3)) (px_rd (pv 4))))) qs_nil) (qs_cons (q_set (i := 6) sc__law_part.nd rfl (by first | exact Or.inl rfl | exact Or.inr rfl) (px_fx h__law_divisor hr rfl (pxs_cons (px_rd (pv 5)) (pxs_cons (px_op ox_mul (px_rd (pv 4)) (px_rd (pv 2))) pxs_nil)))) (qs_one (q_ret (px_tup (pxs_cons (px_op ox_fdiv (px_rd (pv 5)) (px_rd (pv 6))) (pxs_cons (px_op ox_fdiv (px_op ox_mul (px_rd (pv 4)) (px_rd (pv 2))) (px_rd (pv 6))) pxs_nil))))))))))
set_option maxHeartbeats 4000000 in
private theorem fx__law_most (F : FD K mg "_law_most" s__law_most ["_law_frame_here"]) : FX P w K mg base 1 "_law_most" ["_law_frame_here"] f__law_most x__law_most := by
  exact F.ok sc__law_most rfl rfl (g := g__law_most) (k := 0) fun cdv A outer s H E hr => (qs_cons (q_set (i := 1) sc__law_most.nd rfl (by first | exact Or.inl rfl | exact Or.inr rfl) px_int) (qs_cons (q_for pown rfl (pix_seq (px_slice (px_rd (pv 0)) pox_no (pox_some (px_neg px_int)))) (pgx_name (i := 2) sc__law_most.nd rfl (by first | exact Or.inl rfl | exact Or.inr rfl)) (qs_one (q_set (i := 1) sc__law_most.nd rfl (by first | exact Or.inl rfl | exact Or.inr rfl) (px_op ox_mul (px_rd (pv 1)) (px_ix (xx_any (hu_of hr)) (px_rd (pv 2)) px_int))))) (qs_one (q_ret (px_op ox_sub (px_op ox_mul (px_op ox_addI (px_op ox_addI (px_op ox_mul (px_ix (xx_any (hu_of hr)) (px_ix (xx_any (hu_of hr)) (px_rd (pv 0)) (px_neg px_int)) px_int) (px_ix (xx_any (hu_of hr)) (px_ix (xx_any (hu_of hr)) (px_rd (pv 0)) (px_neg px_int)) px_int)) (px_ix (xx_any (hu_of hr)) (px_ix (xx_any (hu_of hr)) (px_rd (pv 0)) (px_neg px_int)) px_int)) px_int) (px_rd (pv 1))) px_int)))))
set_option maxHeartbeats 4000000 in
private theorem fx__law_layout (F : FD K mg "_law_layout" s__law_layout ["_law_cell_here"]) (z_min : mg "min" = none) : FX P w K mg base 1 "_law_layout" ["_law_cell_here"] f__law_layout x__law_layout := by
  exact F.ok sc__law_layout rfl rfl (g := g__law_layout) (k := 0) fun cdv A outer s H E hr => (qs_cons (q_set (i := 0) sc__law_layout.nd rfl (by first | exact Or.inl rfl | exact Or.inr rfl) (px_op ox_mod (px_rd (pv 0)) (px_op ox_pow px_int px_int))) (qs_cons (q_set (i := 1) sc__law_layout.nd rfl (by first | exact Or.inl rfl | exact Or.inr rfl) (px_ix (xx_any (hu_of hr)) (px_lst (pxs_cons px_int (pxs_cons px_int (pxs_cons px_int (pxs_cons (px_op ox_addI px_int (px_op ox_mod (px_op ox_fdiv (px_rd (pv 0)) px_int) px_int)) pxs_nil))))) (px_op ox_mod (px_rd (pv 0)) px_int))) (qs_cons (q_if (ptx_cmp (ox_eq hr.units) (px_rd (pv 1)) px_int (nomark _)) (qs_cons (q_set (i := 2) sc__law_layout.nd rfl (by first | exact Or.inl rfl | exact Or.inr rfl) (px_op ox_addI px_int (px_op ox_mod (px_op ox_fdiv (px_rd (pv 0)) px_int) px_int))) (qs_one (q_ret (px_tup (pxs_cons px_int (pxs_cons px_int (pxs_cons (px_callB (cx_min rfl) rfl z_min boot_min (pxs_cons px_int (pxs_cons (px_op ox_addI (px_op ox_sub (px_rd (pv 2)) px_int) (px_op ox_mod (px_op ox_fdiv (px_rd (pv 0)) px_int) px_int)) pxs_nil))) (pxs_cons (px_rd (pv 2)) pxs_nil)))))))) qs_nil) (qs_cons (q_set (i := 3) sc__law_layout.nd rfl (by first | exact Or.inl rfl | exact Or.inr rfl) (px_ix (xx_any (hu_of hr)) (px_lst (pxs_cons px_int (pxs_cons (px_op ox_addI px_int (px_op ox_mod (px_op ox_fdiv (px_rd (pv 0)) px_int) px_int)) pxs_nil))) (px_op ox_mod (px_op ox_fdiv (px_rd (pv 0)) px_int) px_int))) (qs_cons (q_set (i := 4) sc__law_layout.nd rfl (by first | exact Or.inl rfl | exact Or.inr rfl) (px_op ox_addI (px_op ox_sub (px_rd (pv 3)) px_int) (px_op ox_mod (px_op ox_fdiv (px_rd (pv 0)) px_int) px_int))) (qs_cons (q_set (i := 5) sc__law_layout.nd rfl (by first | exact Or.inl rfl | exact Or.inr rfl) (px_callB (cx_min rfl) rfl z_min boot_min (pxs_cons px_int (pxs_cons (px_op ox_addI (px_op ox_addI (px_op ox_mul (px_rd (pv 1)) (px_rd (pv 3))) (px_rd (pv 4))) px_int) pxs_nil)))) (qs_one (q_ret (px_tup (pxs_cons (px_rd (pv 1)) (pxs_cons (px_rd (pv 3)) (pxs_cons (px_rd (pv 4)) (pxs_cons (px_ix (xx_any (hu_of hr)) (px_lst (pxs_cons (px_rd (pv 5)) (pxs_cons (px_op ox_addI px_int (px_op ox_mod (px_op ox_fdiv (px_rd (pv 0)) px_int) (px_op ox_sub (px_rd (pv 5)) px_int))) pxs_nil))) (px_op ox_mod (px_op ox_fdiv (px_rd (pv 0)) px_int) px_int)) pxs_nil)))))))))))))
set_option maxHeartbeats 4000000 in
private theorem fx__law_frame (F : FD K mg "_law_frame" s__law_frame ["_law_script", "_law_at", "_law_most_here"]) (h__law_cell : FX P w K mg base 1 "_law_cell" ["_law_script", "_law_k"] f__law_cell x__law_cell) (h__law_layout : FX P w K mg base 1 "_law_layout" ["_law_cell_here"] f__law_layout x__law_layout) (z_range : mg "range" = none) : FX P w K mg base 2 "_law_frame" ["_law_script", "_law_at", "_law_most_here"] f__law_frame x__law_frame := by
  replace h__law_cell := h__law_cell.mono (show 1 ≤ 1 by decide)
  replace h__law_layout := h__law_layout.mono (show 1 ≤ 1 by decide)
  exact F.ok sc__law_frame rfl rfl (g := g__law_frame) (k := 1) fun cdv A outer s H E hr => (qs_one (q_ret (px_lc rfl (compOk_at (sc := defScope s__law_frame) (N := ["_law_script", "_law_at", "_law_most_here"]) (N' := ["_law_k", "_law_script", "_law_at"]) (fr := [none, some 0, some 1]) rfl rfl rfl (by decide +kernel) (by decide +kernel) (by decide +kernel) cells_def (by decide +kernel)) (pix_range1 rfl z_range (pxs_cons (px_op ox_addI px_int (px_op ox_mod (px_fx h__law_cell hr rfl (pxs_cons (px_rd (pv 0)) (pxs_cons (px_rd (pv 1)) pxs_nil))) (px_rd (pv 2)))) pxs_nil)) (fun _ _ _ _ => (pgx_name (i := 0) nd__law_frame_1 rfl (by first | exact Or.inl rfl | exact Or.inr rfl))) (fun _ _ _ _ => pxl_nil) (fun _ _ _ _ => (px_fx h__law_layout hr rfl (pxs_cons (px_fx h__law_cell hr rfl (pxs_cons (px_rd (pv 1)) (pxs_cons (px_op ox_addI (px_op ox_addI (px_rd (pv 2)) px_int) (px_rd (pv 0))) pxs_nil))) pxs_nil))))))
set_option maxHeartbeats 4000000 in
private theorem fx_law {f : Addr} {fd : FuncData} (F : Fun K "law" "law" s_law f fd) (h__law_cell : FX P w K mg base 1 "_law_cell" ["_law_script", "_law_k"] f__law_cell x__law_cell) (h__law_tidy : FX P w K mg base 2 "_law_tidy" ["_law_frame_here", "_law_number"] f__law_tidy x__law_tidy) (h__law_told : FX P w K mg base 5 "_law_told" ["_law_frame_here", "_law_point", "_law_part_here"] f__law_told x__law_told) (h__law_part : FX P w K mg base 2 "_law_part" ["_law_cell_here", "_law_most_here", "_law_place"] f__law_part x__law_part) (h__law_most : FX P w K mg base 1 "_law_most" ["_law_frame_here"] f__law_most x__law_most) (h__law_frame : FX P w K mg base 2 "_law_frame" ["_law_script", "_law_at", "_law_most_here"] f__law_frame x__law_frame) (z_len : mg "len" = none) (z_isinstance : mg "isinstance" = none) (z_bool : mg "bool" = none) : FnOk P w K mg base CX0 6 f fd ["_law_script"] (spX K f_law) := by
  replace h__law_cell := h__law_cell.mono (show 1 ≤ 5 by decide)
  replace h__law_tidy := h__law_tidy.mono (show 2 ≤ 5 by decide)
  replace h__law_told := h__law_told.mono (show 5 ≤ 5 by decide)
  replace h__law_part := h__law_part.mono (show 2 ≤ 5 by decide)
  replace h__law_most := h__law_most.mono (show 1 ≤ 5 by decide)
  replace h__law_frame := h__law_frame.mono (show 2 ≤ 5 by decide)
  exact FnOk.quiet (h := f_law) (hx := x_law) (fn_ok F sc_law rfl rfl (g := g_law) (k := 5) fun cdv A outer s H E hr => (qs_cons (q_set (i := 1) sc_law.nd rfl (by first | exact Or.inl rfl | exact Or.inr rfl) (px_fx h__law_frame hr rfl (pxs_cons (px_rd (pv 0)) (pxs_cons px_int (pxs_cons px_int pxs_nil))))) (qs_cons (q_set (i := 2) sc_law.nd rfl (by first | exact Or.inl rfl | exact Or.inr rfl) (px_fx h__law_most hr rfl (pxs_cons (px_rd (pv 1)) pxs_nil))) (qs_cons (q_set (i := 3) sc_law.nd rfl (by first | exact Or.inl rfl | exact Or.inr rfl) (px_lst (pxs_cons px_int pxs_nil))) (qs_cons (q_frz (q_for pown rfl (pix_seq (px_rd (pv 1))) (pgx_name (i := 4) sc_law.nd rfl (by first | exact Or.inl rfl | exact Or.inr rfl)) (qs_one (q_append (pv 3) (px_op ox_mul (px_ix (xx_any (hu_of hr)) (px_rd (pv 3)) (px_neg px_int)) (px_ix (xx_any (hu_of hr)) (px_rd (pv 4)) px_int)))))) (qs_cons (q_for pown rfl (pix_seq (px_op ox_addL (px_lst (pxs_cons (px_fx h__law_cell hr rfl (pxs_cons (px_rd (pv 0)) (pxs_cons px_int pxs_nil))) pxs_nil)) (px_slice (px_rd (pv 0)) (pox_some px_int) (pox_some px_int)))) (pgx_name (i := 5) sc_law.nd rfl (by first | exact Or.inl rfl | exact Or.inr rfl)) (qs_cons (q_frz (q_set (i := 6) sc_law.nd rfl (by first | exact Or.inl rfl | exact Or.inr rfl) (px_op ox_mod (px_op ox_fdiv (px_rd (pv 5)) px_int) (px_callB cx_len rfl z_len PySem.boot_len (pxs_cons (px_rd (pv 3)) pxs_nil))))) (qs_cons (q_asg (px_fx h__law_part hr rfl (pxs_cons (px_rd (pv 5)) (pxs_cons (px_rd (pv 2)) (pxs_cons (px_ix (xx_any (hu_of hr)) (px_rd (pv 3)) (px_rd (pv 6))) pxs_nil)))) (pgx_tup rfl (pgxs_cons (pgx_name (i := 7) sc_law.nd rfl (by first | exact Or.inl rfl | exact Or.inr rfl)) (pgxs_cons (pgx_name (i := 8) sc_law.nd rfl (by first | exact Or.inl rfl | exact Or.inr rfl)) pgxs_nil)))) (qs_cons (q_asg (px_fx h__law_told hr rfl (pxs_cons (px_rd (pv 1)) (pxs_cons (px_rd (pv 6)) (pxs_cons (px_tup (pxs_cons (px_rd (pv 7)) (pxs_cons (px_rd (pv 8)) pxs_nil))) pxs_nil)))) (pgx_tup rfl (pgxs_cons (pgx_name (i := 9) sc_law.nd rfl (by first | exact Or.inl rfl | exact Or.inr rfl)) (pgxs_cons (pgx_name (i := 10) sc_law.nd rfl (by first | exact Or.inl rfl | exact Or.inr rfl)) pgxs_nil)))) (qs_one (q_if (ptx_cmp ox_gt (px_op ox_mul (px_rd (pv 7)) (px_ix (xx_any (hu_of hr)) (px_rd (pv 3)) (px_rd (pv 6)))) (px_op ox_mul (px_rd (pv 2)) (px_rd (pv 8))) (nomark _)) (qs_one (q_if (PW.pt (pwx_or (ptx_cmp (ox_ne hr.units) (px_rd (pv 10)) (px_tup (pxs_cons px_str (pxs_cons (px_op ox_sub (px_callB cx_len rfl z_len PySem.boot_len (pxs_cons (px_rd (pv 1)) pxs_nil)) px_int) pxs_nil))) (nomark _)) (pwx_or1 (ptx_tru (px_isi (px_ix (xx_any (hu_of hr)) (px_rd (pv 10)) px_int) rfl z_isinstance rfl z_bool PyProof.Rows.boot_bool))))) (qs_one (q_ret px_bl)) qs_nil)) (qs_one (q_if (ptx_cmp (ox_ne hr.units) (px_op ox_mod (px_op ox_mul (px_rd (pv 7)) (px_ix (xx_any (hu_of hr)) (px_rd (pv 3)) (px_rd (pv 6)))) (px_rd (pv 8))) px_int (nomark _)) (qs_one (q_if (ptx_cmp (ox_ne hr.units) (px_rd (pv 10)) (px_tup (pxs_cons px_str (pxs_cons px_non pxs_nil))) (nomark _)) (qs_one (q_ret px_bl)) qs_nil)) (qs_one (q_if (PW.pt (pwx_or (ptx_cmp (ox_ne hr.units) (px_rd (pv 10)) (px_tup (pxs_cons px_str (pxs_cons px_non pxs_nil))) (nomark _)) (pwx_or1 (ptx_cmp (ox_ne hr.units) (px_rd (pv 9)) (px_fx h__law_tidy hr rfl (pxs_cons (px_rd (pv 1)) (pxs_cons (px_op ox_fdiv (px_op ox_mul (px_rd (pv 7)) (px_ix (xx_any (hu_of hr)) (px_rd (pv 3)) (px_rd (pv 6)))) (px_rd (pv 8))) pxs_nil))) (nomark _))))) (qs_one (q_ret px_bl)) qs_nil)))))))))) (qs_one (q_ret px_bl))))))))
end
set_option maxHeartbeats 4000000 in
private theorem all_mk {l : PySem.W.OpenLaw} {w : World} {K : PySem.W.Frag} {h : Heap} {mg : Str → Option Value} {fa : Addr} (X : K.In h) (G : h.Ns mainGlobals mg) (hfa : mg "law" = some (.ref fa))
    {f0 : Addr} {od0 an0 : Option Addr} {sl0 : Array (Option Value)} {oc0 kV0 dc0 pm0 cd0 ct0 : Value}
    {f1 : Addr} {od1 an1 : Option Addr} {sl1 : Array (Option Value)} {oc1 kV1 dc1 pm1 cd1 ct1 : Value}
    {f2 : Addr} {od2 an2 : Option Addr} {sl2 : Array (Option Value)} {oc2 kV2 dc2 pm2 cd2 ct2 : Value}
    {f3 : Addr} {od3 an3 : Option Addr} {sl3 : Array (Option Value)} {oc3 kV3 dc3 pm3 cd3 ct3 : Value}
    {f4 : Addr} {od4 an4 : Option Addr} {sl4 : Array (Option Value)} {oc4 kV4 dc4 pm4 cd4 ct4 : Value}
    {f5 : Addr} {od5 an5 : Option Addr} {sl5 : Array (Option Value)} {oc5 kV5 dc5 pm5 cd5 ct5 : Value}
    {f6 : Addr} {od6 an6 : Option Addr} {sl6 : Array (Option Value)} {oc6 kV6 dc6 pm6 cd6 ct6 : Value}
    {f7 : Addr} {od7 an7 : Option Addr} {sl7 : Array (Option Value)} {oc7 kV7 dc7 pm7 cd7 ct7 : Value}
    {f8 : Addr} {od8 an8 : Option Addr} {sl8 : Array (Option Value)} {oc8 kV8 dc8 pm8 cd8 ct8 : Value}
    {f9 : Addr} {od9 an9 : Option Addr} {sl9 : Array (Option Value)} {oc9 kV9 dc9 pm9 cd9 ct9 : Value}
    {f10 : Addr} {od10 an10 : Option Addr} {sl10 : Array (Option Value)} {oc10 kV10 dc10 pm10 cd10 ct10 : Value}
    {f11 : Addr} {od11 an11 : Option Addr} {sl11 : Array (Option Value)} {oc11 kV11 dc11 pm11 cd11 ct11 : Value}
    {f12 : Addr} {od12 an12 : Option Addr} {sl12 : Array (Option Value)} {oc12 kV12 dc12 pm12 cd12 ct12 : Value}
    {f13 : Addr} {od13 an13 : Option Addr} {sl13 : Array (Option Value)} {oc13 kV13 dc13 pm13 cd13 ct13 : Value}
    {f14 : Addr} {od14 an14 : Option Addr} {sl14 : Array (Option Value)} {oc14 kV14 dc14 pm14 cd14 ct14 : Value}
    {f15 : Addr} {od15 an15 : Option Addr} {sl15 : Array (Option Value)} {oc15 kV15 dc15 pm15 cd15 ct15 : Value}
    {f16 : Addr} {od16 an16 : Option Addr} {sl16 : Array (Option Value)} {oc16 kV16 dc16 pm16 cd16 ct16 : Value}
    {f17 : Addr} {od17 an17 : Option Addr} {sl17 : Array (Option Value)} {oc17 kV17 dc17 pm17 cd17 ct17 : Value}
    {f18 : Addr} {od18 an18 : Option Addr} {sl18 : Array (Option Value)} {oc18 kV18 dc18 pm18 cd18 ct18 : Value}
    {f19 : Addr} {od19 an19 : Option Addr} {sl19 : Array (Option Value)} {oc19 kV19 dc19 pm19 cd19 ct19 : Value}
    {f20 : Addr} {od20 an20 : Option Addr} {sl20 : Array (Option Value)} {oc20 kV20 dc20 pm20 cd20 ct20 : Value}
    {f21 : Addr} {od21 an21 : Option Addr} {sl21 : Array (Option Value)} {oc21 kV21 dc21 pm21 cd21 ct21 : Value}
    {f22 : Addr} {od22 an22 : Option Addr} {sl22 : Array (Option Value)} {oc22 kV22 dc22 pm22 cd22 ct22 : Value}
    {t_WORTH : Tok}
    {t_UPPER : Tok}
    {t_LOWER : Tok}
    {t_BASE : Tok}
    {t_BOTTOM : Tok}
    {t_TOP : Tok}
    {C_TooGreat fI_TooGreat : Addr} {od_TooGreat an_TooGreat : Option Addr} {sl_TooGreat : Array (Option Value)} {oc_TooGreat kV_TooGreat dc_TooGreat pm_TooGreat cd_TooGreat ct_TooGreat : Value}
    (a0 : PySem.W.nsIn K mainGlobals "_law_cell" = some (some (.ref f0))) (l0 : K.lookup f0 = some ⟨oc0, od0, .func (PySem.W.fnOf "_law_cell" "_law_cell" (defArgs s__law_cell) (defBody s__law_cell) (defScope s__law_cell) .none kV0 dc0 pm0 an0 cd0 ct0), sl0⟩) (c0 : PySem.W.codeIn K cd0 "_law_cell" = true) (k0 : PySem.W.keepIn K (.ref f0) = true)
    (a1 : PySem.W.nsIn K mainGlobals "_law_plain" = some (some (.ref f1))) (l1 : K.lookup f1 = some ⟨oc1, od1, .func (PySem.W.fnOf "_law_plain" "_law_plain" (defArgs s__law_plain) (defBody s__law_plain) (defScope s__law_plain) .none kV1 dc1 pm1 an1 cd1 ct1), sl1⟩) (c1 : PySem.W.codeIn K cd1 "_law_plain" = true) (k1 : PySem.W.keepIn K (.ref f1) = true)
    (a2 : PySem.W.nsIn K mainGlobals "_law_digits" = some (some (.ref f2))) (l2 : K.lookup f2 = some ⟨oc2, od2, .func (PySem.W.fnOf "_law_digits" "_law_digits" (defArgs s__law_digits) (defBody s__law_digits) (defScope s__law_digits) .none kV2 dc2 pm2 an2 cd2 ct2), sl2⟩) (c2 : PySem.W.codeIn K cd2 "_law_digits" = true) (k2 : PySem.W.keepIn K (.ref f2) = true)
    (a3 : PySem.W.nsIn K mainGlobals "_law_tidy" = some (some (.ref f3))) (l3 : K.lookup f3 = some ⟨oc3, od3, .func (PySem.W.fnOf "_law_tidy" "_law_tidy" (defArgs s__law_tidy) (defBody s__law_tidy) (defScope s__law_tidy) .none kV3 dc3 pm3 an3 cd3 ct3), sl3⟩) (c3 : PySem.W.codeIn K cd3 "_law_tidy" = true) (k3 : PySem.W.keepIn K (.ref f3) = true)
    (a4 : PySem.W.nsIn K mainGlobals "plain_of" = some (some (.ref f4))) (l4 : K.lookup f4 = some ⟨oc4, od4, .func (PySem.W.fnOf "plain_of" "plain_of" (defArgs s_plain_of) (defBody s_plain_of) (defScope s_plain_of) .none kV4 dc4 pm4 an4 cd4 ct4), sl4⟩) (c4 : PySem.W.codeIn K cd4 "plain_of" = true) (k4 : PySem.W.keepIn K (.ref f4) = true)
    (a5 : PySem.W.nsIn K mainGlobals "full_worth" = some (some (.ref f5))) (l5 : K.lookup f5 = some ⟨oc5, od5, .func (PySem.W.fnOf "full_worth" "full_worth" (defArgs s_full_worth) (defBody s_full_worth) (defScope s_full_worth) .none kV5 dc5 pm5 an5 cd5 ct5), sl5⟩) (c5 : PySem.W.codeIn K cd5 "full_worth" = true) (k5 : PySem.W.keepIn K (.ref f5) = true)
    (a6 : PySem.W.nsIn K mainGlobals "most_tidy" = some (some (.ref f6))) (l6 : K.lookup f6 = some ⟨oc6, od6, .func (PySem.W.fnOf "most_tidy" "most_tidy" (defArgs s_most_tidy) (defBody s_most_tidy) (defScope s_most_tidy) .none kV6 dc6 pm6 an6 cd6 ct6), sl6⟩) (c6 : PySem.W.codeIn K cd6 "most_tidy" = true) (k6 : PySem.W.keepIn K (.ref f6) = true)
    (a7 : PySem.W.nsIn K mainGlobals "digits_of" = some (some (.ref f7))) (l7 : K.lookup f7 = some ⟨oc7, od7, .func (PySem.W.fnOf "digits_of" "digits_of" (defArgs s_digits_of) (defBody s_digits_of) (defScope s_digits_of) .none kV7 dc7 pm7 an7 cd7 ct7), sl7⟩) (c7 : PySem.W.codeIn K cd7 "digits_of" = true) (k7 : PySem.W.keepIn K (.ref f7) = true)
    (a8 : PySem.W.nsIn K mainGlobals "tidy_of" = some (some (.ref f8))) (l8 : K.lookup f8 = some ⟨oc8, od8, .func (PySem.W.fnOf "tidy_of" "tidy_of" (defArgs s_tidy_of) (defBody s_tidy_of) (defScope s_tidy_of) .none kV8 dc8 pm8 an8 cd8 ct8), sl8⟩) (c8 : PySem.W.codeIn K cd8 "tidy_of" = true) (k8 : PySem.W.keepIn K (.ref f8) = true)
    (a9 : PySem.W.nsIn K mainGlobals "greatest_divisor" = some (some (.ref f9))) (l9 : K.lookup f9 = some ⟨oc9, od9, .func (PySem.W.fnOf "greatest_divisor" "greatest_divisor" (defArgs s_greatest_divisor) (defBody s_greatest_divisor) (defScope s_greatest_divisor) .none kV9 dc9 pm9 an9 cd9 ct9), sl9⟩) (c9 : PySem.W.codeIn K cd9 "greatest_divisor" = true) (k9 : PySem.W.keepIn K (.ref f9) = true)
    (a10 : PySem.W.nsIn K mainGlobals "lowest_terms" = some (some (.ref f10))) (l10 : K.lookup f10 = some ⟨oc10, od10, .func (PySem.W.fnOf "lowest_terms" "lowest_terms" (defArgs s_lowest_terms) (defBody s_lowest_terms) (defScope s_lowest_terms) .none kV10 dc10 pm10 an10 cd10 ct10), sl10⟩) (c10 : PySem.W.codeIn K cd10 "lowest_terms" = true) (k10 : PySem.W.keepIn K (.ref f10) = true)
    (a11 : PySem.W.nsIn K mainGlobals "place_of" = some (some (.ref f11))) (l11 : K.lookup f11 = some ⟨oc11, od11, .func (PySem.W.fnOf "place_of" "place_of" (defArgs s_place_of) (defBody s_place_of) (defScope s_place_of) .none kV11 dc11 pm11 an11 cd11 ct11), sl11⟩) (c11 : PySem.W.codeIn K cd11 "place_of" = true) (k11 : PySem.W.keepIn K (.ref f11) = true)
    (a12 : PySem.W.nsIn K mainGlobals "rest_above" = some (some (.ref f12))) (l12 : K.lookup f12 = some ⟨oc12, od12, .func (PySem.W.fnOf "rest_above" "rest_above" (defArgs s_rest_above) (defBody s_rest_above) (defScope s_rest_above) .none kV12 dc12 pm12 an12 cd12 ct12), sl12⟩) (c12 : PySem.W.codeIn K cd12 "rest_above" = true) (k12 : PySem.W.keepIn K (.ref f12) = true)
    (a13 : PySem.W.nsIn K mainGlobals "number_below" = some (some (.ref f13))) (l13 : K.lookup f13 = some ⟨oc13, od13, .func (PySem.W.fnOf "number_below" "number_below" (defArgs s_number_below) (defBody s_number_below) (defScope s_number_below) .none kV13 dc13 pm13 an13 cd13 ct13), sl13⟩) (c13 : PySem.W.codeIn K cd13 "number_below" = true) (k13 : PySem.W.keepIn K (.ref f13) = true)
    (a14 : PySem.W.nsIn K mainGlobals "part_set" = some (some (.ref f14))) (l14 : K.lookup f14 = some ⟨oc14, od14, .func (PySem.W.fnOf "part_set" "part_set" (defArgs s_part_set) (defBody s_part_set) (defScope s_part_set) .none kV14 dc14 pm14 an14 cd14 ct14), sl14⟩) (c14 : PySem.W.codeIn K cd14 "part_set" = true) (k14 : PySem.W.keepIn K (.ref f14) = true)
    (a15 : PySem.W.nsIn K mainGlobals "_law_refused" = some (some (.ref f15))) (l15 : K.lookup f15 = some ⟨oc15, od15, .func (PySem.W.fnOf "_law_refused" "_law_refused" (defArgs s__law_refused) (defBody s__law_refused) (defScope s__law_refused) .none kV15 dc15 pm15 an15 cd15 ct15), sl15⟩) (c15 : PySem.W.codeIn K cd15 "_law_refused" = true) (k15 : PySem.W.keepIn K (.ref f15) = true)
    (a16 : PySem.W.nsIn K mainGlobals "_law_told" = some (some (.ref f16))) (l16 : K.lookup f16 = some ⟨oc16, od16, .func (PySem.W.fnOf "_law_told" "_law_told" (defArgs s__law_told) (defBody s__law_told) (defScope s__law_told) .none kV16 dc16 pm16 an16 cd16 ct16), sl16⟩) (c16 : PySem.W.codeIn K cd16 "_law_told" = true) (k16 : PySem.W.keepIn K (.ref f16) = true)
    (a17 : PySem.W.nsIn K mainGlobals "_law_divisor" = some (some (.ref f17))) (l17 : K.lookup f17 = some ⟨oc17, od17, .func (PySem.W.fnOf "_law_divisor" "_law_divisor" (defArgs s__law_divisor) (defBody s__law_divisor) (defScope s__law_divisor) .none kV17 dc17 pm17 an17 cd17 ct17), sl17⟩) (c17 : PySem.W.codeIn K cd17 "_law_divisor" = true) (k17 : PySem.W.keepIn K (.ref f17) = true)
    (a18 : PySem.W.nsIn K mainGlobals "_law_part" = some (some (.ref f18))) (l18 : K.lookup f18 = some ⟨oc18, od18, .func (PySem.W.fnOf "_law_part" "_law_part" (defArgs s__law_part) (defBody s__law_part) (defScope s__law_part) .none kV18 dc18 pm18 an18 cd18 ct18), sl18⟩) (c18 : PySem.W.codeIn K cd18 "_law_part" = true) (k18 : PySem.W.keepIn K (.ref f18) = true)
    (a19 : PySem.W.nsIn K mainGlobals "_law_most" = some (some (.ref f19))) (l19 : K.lookup f19 = some ⟨oc19, od19, .func (PySem.W.fnOf "_law_most" "_law_most" (defArgs s__law_most) (defBody s__law_most) (defScope s__law_most) .none kV19 dc19 pm19 an19 cd19 ct19), sl19⟩) (c19 : PySem.W.codeIn K cd19 "_law_most" = true) (k19 : PySem.W.keepIn K (.ref f19) = true)
    (a20 : PySem.W.nsIn K mainGlobals "_law_layout" = some (some (.ref f20))) (l20 : K.lookup f20 = some ⟨oc20, od20, .func (PySem.W.fnOf "_law_layout" "_law_layout" (defArgs s__law_layout) (defBody s__law_layout) (defScope s__law_layout) .none kV20 dc20 pm20 an20 cd20 ct20), sl20⟩) (c20 : PySem.W.codeIn K cd20 "_law_layout" = true) (k20 : PySem.W.keepIn K (.ref f20) = true)
    (a21 : PySem.W.nsIn K mainGlobals "_law_frame" = some (some (.ref f21))) (l21 : K.lookup f21 = some ⟨oc21, od21, .func (PySem.W.fnOf "_law_frame" "_law_frame" (defArgs s__law_frame) (defBody s__law_frame) (defScope s__law_frame) .none kV21 dc21 pm21 an21 cd21 ct21), sl21⟩) (c21 : PySem.W.codeIn K cd21 "_law_frame" = true) (k21 : PySem.W.keepIn K (.ref f21) = true)
    (a22 : PySem.W.nsIn K mainGlobals "law" = some (some (.ref f22))) (l22 : K.lookup f22 = some ⟨oc22, od22, .func (PySem.W.fnOf "law" "law" (defArgs s_law) (defBody s_law) (defScope s_law) .none kV22 dc22 pm22 an22 cd22 ct22), sl22⟩) (c22 : PySem.W.codeIn K cd22 "law" = true) (k22 : PySem.W.keepIn K (.ref f22) = true)
    (z_len : PySem.W.nsIn K mainGlobals "len" = some none)
    (z_min : PySem.W.nsIn K mainGlobals "min" = some none)
    (z_enumerate : PySem.W.nsIn K mainGlobals "enumerate" = some none)
    (z_zip : PySem.W.nsIn K mainGlobals "zip" = some none)
    (z_isinstance : PySem.W.nsIn K mainGlobals "isinstance" = some none)
    (z_range : PySem.W.nsIn K mainGlobals "range" = some none)
    (z_bool : PySem.W.nsIn K mainGlobals "bool" = some none)
    (u_WORTH : PySem.W.nsIn K mainGlobals "WORTH" = some (some (.int 1 t_WORTH)))
    (u_UPPER : PySem.W.nsIn K mainGlobals "UPPER" = some (some (.int 0 t_UPPER)))
    (u_LOWER : PySem.W.nsIn K mainGlobals "LOWER" = some (some (.int 2 t_LOWER)))
    (u_BASE : PySem.W.nsIn K mainGlobals "BASE" = some (some (.int 3 t_BASE)))
    (u_BOTTOM : PySem.W.nsIn K mainGlobals "BOTTOM" = some (some (.int 1 t_BOTTOM)))
    (u_TOP : PySem.W.nsIn K mainGlobals "TOP" = some (some (.int 0 t_TOP)))
    (y_xt_0 : xtB K "FrameError" [("TooGreat", true), ("Between", true)] = true)
    (y_xp_1 : xpB K "Between" = true)
    (a_TooGreat : PySem.W.nsIn K mainGlobals "TooGreat" = some (some (.ref C_TooGreat))) (i_TooGreat : PySem.W.findIn K (.ref C_TooGreat) "__init__" = some (some (.ref fI_TooGreat))) (l_TooGreat : K.lookup fI_TooGreat = some ⟨oc_TooGreat, od_TooGreat, .func (PySem.W.fnOf "__init__" "TooGreat.__init__" (defArgs si_TooGreat) (defBody si_TooGreat) (defScope si_TooGreat) .none kV_TooGreat dc_TooGreat pm_TooGreat an_TooGreat cd_TooGreat ct_TooGreat), sl_TooGreat⟩) (c_TooGreat : PySem.W.codeIn K cd_TooGreat "TooGreat.__init__" = true) (k_TooGreat : PySem.W.keepIn K (.ref fI_TooGreat) = true) (b_TooGreat : xiB K C_TooGreat fI_TooGreat ["rod"] = true)
    (y_at_3 : atB K "rod" ["TooGreat"] = true)
    (y_it_4 : itB K ["ValueError"] [("TooGreat", true), ("Between", true)] = true)
    (y_it_5 : itB K ["Between"] [("TooGreat", false), ("Between", true)] = true)
    (y_it_6 : itB K ["Below"] [("TooGreat", false), ("Between", false)] = true)
    (y_it_7 : itB K ["TooGreat"] [("TooGreat", true), ("Between", false)] = true)
    (y_it_8 : itB K ["NoSay"] [("TooGreat", false), ("Between", false)] = true)
    (y_it_9 : itB K ["Spoilt"] [("TooGreat", false), ("Between", false)] = true)
    (y_it_10 : itB K ["NoRow"] [("TooGreat", false), ("Between", false)] = true)
    (y_it_11 : itB K ["NoDivisor"] [("TooGreat", false), ("Between", false)] = true)
    (y_it_12 : itB K ["NoMove"] [("TooGreat", false), ("Between", false)] = true)
    (y_it_13 : itB K ["Stuck"] [("TooGreat", false), ("Between", false)] = true)
    (y_it_14 : itB K ["NoStanding"] [("TooGreat", false), ("Between", false)] = true)
    (y_it_15 : itB K ["NoLayout"] [("TooGreat", false), ("Between", false)] = true) :
    ∃ fd : FuncData, (∀ (s : Shared) (v : Value), BindsTo s fd ⟨[v], []⟩ [("_law_script", v)]) ∧ ∀ base : Heap, K.In base → base.Ns mainGlobals mg → FnOk l.prog w K mg base CX0 6 fa fd ["_law_script"] (spX K f_law) := by
  have e := hfa.symm.trans (PySem.W.mg_of X G a22)
  cases e
  have F0 := fun_mk (st := s__law_cell) l0 c0 k0
  have b0 := F0.binds (ps := ["_law_script", "_law_k"]) fun _ _ _ _ _ _ us (hl : us.length = 2) => by obtain ⟨_, _, rfl⟩ := len2 hl; rfl
  have D0 : FD K mg "_law_cell" s__law_cell ["_law_script", "_law_k"] := ⟨_, _, F0, b0, PySem.W.mg_of X G a0⟩
  have F1 := fun_mk (st := s__law_plain) l1 c1 k1
  have b1 := F1.binds (ps := ["_law_layout_here", "_law_number"]) fun _ _ _ _ _ _ us (hl : us.length = 2) => by obtain ⟨_, _, rfl⟩ := len2 hl; rfl
  have D1 : FD K mg "_law_plain" s__law_plain ["_law_layout_here", "_law_number"] := ⟨_, _, F1, b1, PySem.W.mg_of X G a1⟩
  have F2 := fun_mk (st := s__law_digits) l2 c2 k2
  have b2 := F2.binds (ps := ["_law_frame_here", "_law_number"]) fun _ _ _ _ _ _ us (hl : us.length = 2) => by obtain ⟨_, _, rfl⟩ := len2 hl; rfl
  have D2 : FD K mg "_law_digits" s__law_digits ["_law_frame_here", "_law_number"] := ⟨_, _, F2, b2, PySem.W.mg_of X G a2⟩
  have F3 := fun_mk (st := s__law_tidy) l3 c3 k3
  have b3 := F3.binds (ps := ["_law_frame_here", "_law_number"]) fun _ _ _ _ _ _ us (hl : us.length = 2) => by obtain ⟨_, _, rfl⟩ := len2 hl; rfl
  have D3 : FD K mg "_law_tidy" s__law_tidy ["_law_frame_here", "_law_number"] := ⟨_, _, F3, b3, PySem.W.mg_of X G a3⟩
  have F4 := fun_mk (st := s_plain_of) l4 c4 k4
  have b4 := F4.binds (ps := ["layout", "number"]) fun _ _ _ _ _ _ us (hl : us.length = 2) => by obtain ⟨_, _, rfl⟩ := len2 hl; rfl
  have D4 : FD K mg "plain_of" s_plain_of ["layout", "number"] := ⟨_, _, F4, b4, PySem.W.mg_of X G a4⟩
  have F5 := fun_mk (st := s_full_worth) l5 c5 k5
  have b5 := F5.binds (ps := ["layout"]) fun _ _ _ _ _ _ us (hl : us.length = 1) => by obtain ⟨_, rfl⟩ := len1 hl; rfl
  have D5 : FD K mg "full_worth" s_full_worth ["layout"] := ⟨_, _, F5, b5, PySem.W.mg_of X G a5⟩
  have F6 := fun_mk (st := s_most_tidy) l6 c6 k6
  have b6 := F6.binds (ps := ["frame", "rod"]) fun _ _ _ _ _ _ us (hl : us.length = 2) => by obtain ⟨_, _, rfl⟩ := len2 hl; rfl
  have D6 : FD K mg "most_tidy" s_most_tidy ["frame", "rod"] := ⟨_, _, F6, b6, PySem.W.mg_of X G a6⟩
  have F7 := fun_mk (st := s_digits_of) l7 c7 k7
  have b7 := F7.binds (ps := ["frame", "number"]) fun _ _ _ _ _ _ us (hl : us.length = 2) => by obtain ⟨_, _, rfl⟩ := len2 hl; rfl
  have D7 : FD K mg "digits_of" s_digits_of ["frame", "number"] := ⟨_, _, F7, b7, PySem.W.mg_of X G a7⟩
  have F8 := fun_mk (st := s_tidy_of) l8 c8 k8
  have b8 := F8.binds (ps := ["frame", "number"]) fun _ _ _ _ _ _ us (hl : us.length = 2) => by obtain ⟨_, _, rfl⟩ := len2 hl; rfl
  have D8 : FD K mg "tidy_of" s_tidy_of ["frame", "number"] := ⟨_, _, F8, b8, PySem.W.mg_of X G a8⟩
  have F9 := fun_mk (st := s_greatest_divisor) l9 c9 k9
  have b9 := F9.binds (ps := ["one", "other"]) fun _ _ _ _ _ _ us (hl : us.length = 2) => by obtain ⟨_, _, rfl⟩ := len2 hl; rfl
  have D9 : FD K mg "greatest_divisor" s_greatest_divisor ["one", "other"] := ⟨_, _, F9, b9, PySem.W.mg_of X G a9⟩
  have F10 := fun_mk (st := s_lowest_terms) l10 c10 k10
  have b10 := F10.binds (ps := ["top", "bottom"]) fun _ _ _ _ _ _ us (hl : us.length = 2) => by obtain ⟨_, _, rfl⟩ := len2 hl; rfl
  have D10 : FD K mg "lowest_terms" s_lowest_terms ["top", "bottom"] := ⟨_, _, F10, b10, PySem.W.mg_of X G a10⟩
  have F11 := fun_mk (st := s_place_of) l11 c11 k11
  have b11 := F11.binds (ps := ["frame", "rod"]) fun _ _ _ _ _ _ us (hl : us.length = 2) => by obtain ⟨_, _, rfl⟩ := len2 hl; rfl
  have D11 : FD K mg "place_of" s_place_of ["frame", "rod"] := ⟨_, _, F11, b11, PySem.W.mg_of X G a11⟩
  have F12 := fun_mk (st := s_rest_above) l12 c12 k12
  have b12 := F12.binds (ps := ["frame", "point", "part", "number"]) fun _ _ _ _ _ _ us (hl : us.length = 4) => by obtain ⟨_, _, _, _, rfl⟩ := len4 hl; rfl
  have D12 : FD K mg "rest_above" s_rest_above ["frame", "point", "part", "number"] := ⟨_, _, F12, b12, PySem.W.mg_of X G a12⟩
  have F13 := fun_mk (st := s_number_below) l13 c13 k13
  have b13 := F13.binds (ps := ["frame", "point", "part"]) fun _ _ _ _ _ _ us (hl : us.length = 3) => by obtain ⟨_, _, _, rfl⟩ := len3 hl; rfl
  have D13 : FD K mg "number_below" s_number_below ["frame", "point", "part"] := ⟨_, _, F13, b13, PySem.W.mg_of X G a13⟩
  have F14 := fun_mk (st := s_part_set) l14 c14 k14
  have b14 := F14.binds (ps := ["frame", "point", "part"]) fun _ _ _ _ _ _ us (hl : us.length = 3) => by obtain ⟨_, _, _, rfl⟩ := len3 hl; rfl
  have D14 : FD K mg "part_set" s_part_set ["frame", "point", "part"] := ⟨_, _, F14, b14, PySem.W.mg_of X G a14⟩
  have F15 := fun_mk (st := s__law_refused) l15 c15 k15
  have b15 := F15.binds (ps := ["_law_e"]) fun _ _ _ _ _ _ us (hl : us.length = 1) => by obtain ⟨_, rfl⟩ := len1 hl; rfl
  have D15 : FD K mg "_law_refused" s__law_refused ["_law_e"] := ⟨_, _, F15, b15, PySem.W.mg_of X G a15⟩
  have F16 := fun_mk (st := s__law_told) l16 c16 k16
  have b16 := F16.binds (ps := ["_law_frame_here", "_law_point", "_law_part_here"]) fun _ _ _ _ _ _ us (hl : us.length = 3) => by obtain ⟨_, _, _, rfl⟩ := len3 hl; rfl
  have D16 : FD K mg "_law_told" s__law_told ["_law_frame_here", "_law_point", "_law_part_here"] := ⟨_, _, F16, b16, PySem.W.mg_of X G a16⟩
  have F17 := fun_mk (st := s__law_divisor) l17 c17 k17
  have b17 := F17.binds (ps := ["_law_one", "_law_other"]) fun _ _ _ _ _ _ us (hl : us.length = 2) => by obtain ⟨_, _, rfl⟩ := len2 hl; rfl
  have D17 : FD K mg "_law_divisor" s__law_divisor ["_law_one", "_law_other"] := ⟨_, _, F17, b17, PySem.W.mg_of X G a17⟩
  have F18 := fun_mk (st := s__law_part) l18 c18 k18
  have b18 := F18.binds (ps := ["_law_cell_here", "_law_most_here", "_law_place"]) fun _ _ _ _ _ _ us (hl : us.length = 3) => by obtain ⟨_, _, _, rfl⟩ := len3 hl; rfl
  have D18 : FD K mg "_law_part" s__law_part ["_law_cell_here", "_law_most_here", "_law_place"] := ⟨_, _, F18, b18, PySem.W.mg_of X G a18⟩
  have F19 := fun_mk (st := s__law_most) l19 c19 k19
  have b19 := F19.binds (ps := ["_law_frame_here"]) fun _ _ _ _ _ _ us (hl : us.length = 1) => by obtain ⟨_, rfl⟩ := len1 hl; rfl
  have D19 : FD K mg "_law_most" s__law_most ["_law_frame_here"] := ⟨_, _, F19, b19, PySem.W.mg_of X G a19⟩
  have F20 := fun_mk (st := s__law_layout) l20 c20 k20
  have b20 := F20.binds (ps := ["_law_cell_here"]) fun _ _ _ _ _ _ us (hl : us.length = 1) => by obtain ⟨_, rfl⟩ := len1 hl; rfl
  have D20 : FD K mg "_law_layout" s__law_layout ["_law_cell_here"] := ⟨_, _, F20, b20, PySem.W.mg_of X G a20⟩
  have F21 := fun_mk (st := s__law_frame) l21 c21 k21
  have b21 := F21.binds (ps := ["_law_script", "_law_at", "_law_most_here"]) fun _ _ _ _ _ _ us (hl : us.length = 3) => by obtain ⟨_, _, _, rfl⟩ := len3 hl; rfl
  have D21 : FD K mg "_law_frame" s__law_frame ["_law_script", "_law_at", "_law_most_here"] := ⟨_, _, F21, b21, PySem.W.mg_of X G a21⟩
  have F22 := fun_mk (st := s_law) l22 c22 k22
  have b22 := F22.binds (ps := ["_law_script"]) fun _ _ _ _ _ _ us (hl : us.length = 1) => by obtain ⟨_, rfl⟩ := len1 hl; rfl
  replace z_len := PySem.W.mg_none_of X G z_len
  replace z_min := PySem.W.mg_none_of X G z_min
  replace z_enumerate := PySem.W.mg_none_of X G z_enumerate
  replace z_zip := PySem.W.mg_none_of X G z_zip
  replace z_isinstance := PySem.W.mg_none_of X G z_isinstance
  replace z_range := PySem.W.mg_none_of X G z_range
  replace z_bool := PySem.W.mg_none_of X G z_bool
  have h_WORTH : CI K mg "WORTH" c_WORTH := ⟨_, .int 1, PySem.W.mg_of X G u_WORTH, ⟨_, rfl⟩, fun _ => rfl⟩
  have h_UPPER : CI K mg "UPPER" c_UPPER := ⟨_, .int 0, PySem.W.mg_of X G u_UPPER, ⟨_, rfl⟩, fun _ => rfl⟩
  have h_LOWER : CI K mg "LOWER" c_LOWER := ⟨_, .int 2, PySem.W.mg_of X G u_LOWER, ⟨_, rfl⟩, fun _ => rfl⟩
  have h_BASE : CI K mg "BASE" c_BASE := ⟨_, .int 3, PySem.W.mg_of X G u_BASE, ⟨_, rfl⟩, fun _ => rfl⟩
  have h_BOTTOM : CI K mg "BOTTOM" c_BOTTOM := ⟨_, .int 1, PySem.W.mg_of X G u_BOTTOM, ⟨_, rfl⟩, fun _ => rfl⟩
  have h_TOP : CI K mg "TOP" c_TOP := ⟨_, .int 0, PySem.W.mg_of X G u_TOP, ⟨_, rfl⟩, fun _ => rfl⟩
  have xt_0 := xt_of X G y_xt_0
  have xp_1 := xp_of X G y_xp_1
  have F_TooGreat := fun_mk (st := si_TooGreat) l_TooGreat c_TooGreat k_TooGreat
  have B_TooGreat := F_TooGreat.binds (ps := ["self", "rod"]) fun _ _ _ _ _ _ us (hl : us.length = 2) => by obtain ⟨_, _, rfl⟩ := len2 hl; rfl
  have at_3 := at_of y_at_3
  have it_4 := it_of X G y_it_4
  have it_5 := it_of X G y_it_5
  have it_6 := it_of X G y_it_6
  have it_7 := it_of X G y_it_7
  have it_8 := it_of X G y_it_8
  have it_9 := it_of X G y_it_9
  have it_10 := it_of X G y_it_10
  have it_11 := it_of X G y_it_11
  have it_12 := it_of X G y_it_12
  have it_13 := it_of X G y_it_13
  have it_14 := it_of X G y_it_14
  have it_15 := it_of X G y_it_15
  refine ⟨PySem.W.fnOf "law" "law" (defArgs s_law) (defBody s_law) (defScope s_law) .none kV22 dc22 pm22 an22 cd22 ct22, fun s v => .of_eq rfl, fun base _ _ => ?_⟩
  have xi_TooGreat := xi_of (P := l.prog) (w := w) (base := base) X G a_TooGreat i_TooGreat b_TooGreat (fun xc na => init1 F_TooGreat sci_TooGreat xc (na _ (by decide)) rfl (.inl rfl) (.inl rfl)) B_TooGreat
  have h__law_cell := fx__law_cell (P := l.prog) (w := w) (base := base) D0 z_len
  have h__law_plain := fx__law_plain (P := l.prog) (w := w) (base := base) D1 z_min
  have h__law_digits := fx__law_digits (P := l.prog) (w := w) (base := base) D2 
  have h__law_tidy := fx__law_tidy (P := l.prog) (w := w) (base := base) D3 h__law_plain h__law_digits z_enumerate
  have h_plain_of := fx_plain_of (P := l.prog) (w := w) (base := base) D4 h_WORTH h_UPPER z_min
  have h_full_worth := fx_full_worth (P := l.prog) (w := w) (base := base) D5 h_UPPER h_WORTH h_LOWER
  have h_most_tidy := fx_most_tidy (P := l.prog) (w := w) (base := base) D6 h_full_worth h_BASE z_len
  have h_digits_of := fx_digits_of (P := l.prog) (w := w) (base := base) D7 h_BASE
  have h_tidy_of := fx_tidy_of (P := l.prog) (w := w) (base := base) D8 h_plain_of h_most_tidy h_digits_of z_zip z_len xi_TooGreat
  have h_greatest_divisor := fx_greatest_divisor (P := l.prog) (w := w) (base := base) D9 
  have h_lowest_terms := fx_lowest_terms (P := l.prog) (w := w) (base := base) D10 h_greatest_divisor
  have h_place_of := fx_place_of (P := l.prog) (w := w) (base := base) D11 h_BASE
  have h_rest_above := fx_rest_above (P := l.prog) (w := w) (base := base) D12 h_lowest_terms h_place_of h_BOTTOM h_TOP
  have h_number_below := fx_number_below (P := l.prog) (w := w) (base := base) D13 h_place_of h_TOP h_BOTTOM
  have h_part_set := fx_part_set (P := l.prog) (w := w) (base := base) D14 h_tidy_of h_rest_above h_number_below xp_1
  have h__law_refused := fx__law_refused (P := l.prog) (w := w) (base := base) D15 z_isinstance at_3 it_4 it_5 it_6 it_7 it_8 it_9 it_10 it_11 it_12 it_13 it_14 it_15
  have h__law_told := fx__law_told (P := l.prog) (w := w) (base := base) D16 h_part_set h__law_refused xt_0
  have h__law_divisor := fx__law_divisor (P := l.prog) (w := w) (base := base) D17 
  have h__law_part := fx__law_part (P := l.prog) (w := w) (base := base) D18 h__law_divisor
  have h__law_most := fx__law_most (P := l.prog) (w := w) (base := base) D19 
  have h__law_layout := fx__law_layout (P := l.prog) (w := w) (base := base) D20 z_min
  have h__law_frame := fx__law_frame (P := l.prog) (w := w) (base := base) D21 h__law_cell h__law_layout z_range
  exact fx_law (P := l.prog) (w := w) (base := base) F22 h__law_cell h__law_tidy h__law_told h__law_part h__law_most h__law_frame z_len z_isinstance z_bool
private theorem walk {l : PySem.W.OpenLaw} {q : Program} {loose : List Str} {XP : (Str → Option Value) → Heap → Prop} {YP : World → Heap → Prop} {d : DefRec} {K : Params → PySem.W.Frag} (hn : l.most = some 63) (hdf : d.params.defaults = [])
    (hY : ∀ (w : World) (h : Heap), YP w h → (K w.params).In h)
    (F : ∀ (w : World) (mg : Str → Option Value) (fa : Addr) (h : Heap), (K w.params).In h → h.Ns mainGlobals mg → mg d.name = some (.ref fa) →
      ∃ fd : FuncData, (∀ (s : Shared) (u : Value), BindsTo s fd ⟨[u], []⟩ [("_law_script", u)]) ∧ ∀ base : Heap, (K w.params).In base → base.Ns mainGlobals mg → FnOk l.prog w (K w.params) mg base CX0 6 fa fd ["_law_script"] (spX (K w.params) f_law)) :
    PySem.W.WalkO q loose XP YP l.row.toRowW d [] (fun f vs => PySem.call f vs) :=
  L2.walk_of (n := 63) (k := 6) (x := "_law_script") (CX := fun _ => CX0) (sp := fun w => spX (K w.params) f_law) hn (by decide) hdf ⟨rfl, by decide, by decide⟩ hY F (fun _ _ a ns hl _ hS => law_sp hS (law_true ns hl)) fun _ _ _ _ _ z => z
end Gen
open PySem PySem.W PyProof.Rows
set_option maxRecDepth 100000 in
set_option maxHeartbeats 0 in
theorem PySem.Challenge.cw_beadframe_k63_parts_set_holds : PySem.Challenge.rw_beadframe_k63_parts_set.Holds := by
  w_on; o_law; k_head; (case hw => w_witness2)
  k_fill
  refine Gen.walk (l := PySem.Challenge.rw_beadframe_k63_parts_set) rfl rfl (fun w h Y => PySem.W.kIn_of Y) ?F
  case F =>
    intro w mg fa h KX G hmg
    refine' Gen.all_mk KX G hmg ?a0 ?l0 ?c0 ?k0 ?a1 ?l1 ?c1 ?k1 ?a2 ?l2 ?c2 ?k2 ?a3 ?l3 ?c3 ?k3 ?a4 ?l4 ?c4 ?k4 ?a5 ?l5 ?c5 ?k5 ?a6 ?l6 ?c6 ?k6 ?a7 ?l7 ?c7 ?k7 ?a8 ?l8 ?c8 ?k8 ?a9 ?l9 ?c9 ?k9 ?a10 ?l10 ?c10 ?k10 ?a11 ?l11 ?c11 ?k11 ?a12 ?l12 ?c12 ?k12 ?a13 ?l13 ?c13 ?k13 ?a14 ?l14 ?c14 ?k14 ?a15 ?l15 ?c15 ?k15 ?a16 ?l16 ?c16 ?k16 ?a17 ?l17 ?c17 ?k17 ?a18 ?l18 ?c18 ?k18 ?a19 ?l19 ?c19 ?k19 ?a20 ?l20 ?c20 ?k20 ?a21 ?l21 ?c21 ?k21 ?a22 ?l22 ?c22 ?k22 ?z_len ?z_min ?z_enumerate ?z_zip ?z_isinstance ?z_range ?z_bool ?u_WORTH ?u_UPPER ?u_LOWER ?u_BASE ?u_BOTTOM ?u_TOP ?y_xt_0 ?y_xp_1 ?a_TooGreat ?i_TooGreat ?l_TooGreat ?c_TooGreat ?k_TooGreat ?b_TooGreat ?y_at_3 ?y_it_4 ?y_it_5 ?y_it_6 ?y_it_7 ?y_it_8 ?y_it_9 ?y_it_10 ?y_it_11 ?y_it_12 ?y_it_13 ?y_it_14 ?y_it_15
    (case a0 => k_is)
    (case l0 => k_is)
    (case c0 => k_is)
    (case k0 => k_is)
    (case a1 => k_is)
    (case l1 => k_is)
    (case c1 => k_is)
    (case k1 => k_is)
    (case a2 => k_is)
    (case l2 => k_is)
    (case c2 => k_is)
    (case k2 => k_is)
    (case a3 => k_is)
    (case l3 => k_is)
    (case c3 => k_is)
    (case k3 => k_is)
    (case a4 => k_is)
    (case l4 => k_is)
    (case c4 => k_is)
    (case k4 => k_is)
    (case a5 => k_is)
    (case l5 => k_is)
    (case c5 => k_is)
    (case k5 => k_is)
    (case a6 => k_is)
    (case l6 => k_is)
    (case c6 => k_is)
    (case k6 => k_is)
    (case a7 => k_is)
    (case l7 => k_is)
    (case c7 => k_is)
    (case k7 => k_is)
    (case a8 => k_is)
    (case l8 => k_is)
    (case c8 => k_is)
    (case k8 => k_is)
    (case a9 => k_is)
    (case l9 => k_is)
    (case c9 => k_is)
    (case k9 => k_is)
    (case a10 => k_is)
    (case l10 => k_is)
    (case c10 => k_is)
    (case k10 => k_is)
    (case a11 => k_is)
    (case l11 => k_is)
    (case c11 => k_is)
    (case k11 => k_is)
    (case a12 => k_is)
    (case l12 => k_is)
    (case c12 => k_is)
    (case k12 => k_is)
    (case a13 => k_is)
    (case l13 => k_is)
    (case c13 => k_is)
    (case k13 => k_is)
    (case a14 => k_is)
    (case l14 => k_is)
    (case c14 => k_is)
    (case k14 => k_is)
    (case a15 => k_is)
    (case l15 => k_is)
    (case c15 => k_is)
    (case k15 => k_is)
    (case a16 => k_is)
    (case l16 => k_is)
    (case c16 => k_is)
    (case k16 => k_is)
    (case a17 => k_is)
    (case l17 => k_is)
    (case c17 => k_is)
    (case k17 => k_is)
    (case a18 => k_is)
    (case l18 => k_is)
    (case c18 => k_is)
    (case k18 => k_is)
    (case a19 => k_is)
    (case l19 => k_is)
    (case c19 => k_is)
    (case k19 => k_is)
    (case a20 => k_is)
    (case l20 => k_is)
    (case c20 => k_is)
    (case k20 => k_is)
    (case a21 => k_is)
    (case l21 => k_is)
    (case c21 => k_is)
    (case k21 => k_is)
    (case a22 => k_is)
    (case l22 => k_is)
    (case c22 => k_is)
    (case k22 => k_is)
    (case z_len => k_is)
    (case z_min => k_is)
    (case z_enumerate => k_is)
    (case z_zip => k_is)
    (case z_isinstance => k_is)
    (case z_range => k_is)
    (case z_bool => k_is)
    (case u_WORTH => k_is)
    (case u_UPPER => k_is)
    (case u_LOWER => k_is)
    (case u_BASE => k_is)
    (case u_BOTTOM => k_is)
    (case u_TOP => k_is)
    (case y_xt_0 => kernel_rfl)
    (case y_xp_1 => kernel_rfl)
    (case a_TooGreat => k_is)
    (case i_TooGreat => k_is)
    (case l_TooGreat => k_is)
    (case c_TooGreat => k_is)
    (case k_TooGreat => k_is)
    (case b_TooGreat => kernel_rfl)
    (case y_at_3 => kernel_rfl)
    (case y_it_4 => kernel_rfl)
    (case y_it_5 => kernel_rfl)
    (case y_it_6 => kernel_rfl)
    (case y_it_7 => kernel_rfl)
    (case y_it_8 => kernel_rfl)
    (case y_it_9 => kernel_rfl)
    (case y_it_10 => kernel_rfl)
    (case y_it_11 => kernel_rfl)
    (case y_it_12 => kernel_rfl)
    (case y_it_13 => kernel_rfl)
    (case y_it_14 => kernel_rfl)
    (case y_it_15 => kernel_rfl)
