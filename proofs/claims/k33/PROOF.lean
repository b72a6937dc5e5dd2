import PyProof.Rows.All
import Wide.All
import OpenK.AllK
import Wide.FinOn
import Lean
import PyProof.EqAt
import PyProof.EqKinds
import PyProof.TupleCall
import PySem.Challenge.RW_beadframe_k33_small_frames_by_all_standi
set_option bootstrap.genMatcherCode false
set_option genSizeOf false
set_option compiler.extract_closed false
def zt0 : Lean.Syntax := (Lean.Unhygienic.run `(tacticSeq| first | exact .inl rfl | exact .inr rfl | assumption)).raw
def zt1 : Lean.Syntax := (Lean.Unhygienic.run `(tacticSeq| decide)).raw
def zt2 : Lean.Syntax := (Lean.Unhygienic.run `(tacticSeq| rfl)).raw
def zt3 : Lean.Syntax := (Lean.Unhygienic.run `(tacticSeq| intro _; rfl)).raw
def zt4 : Lean.Syntax := (Lean.Unhygienic.run `(tacticSeq| first | exact Or.inl rfl | exact Or.inr (Or.inl rfl) | exact Or.inr (Or.inr rfl))).raw
def zt5 : Lean.Syntax := (Lean.Unhygienic.run `(tacticSeq| intro _ _; rfl)).raw
set_option Elab.async false
set_option linter.all false
set_option maxRecDepth 100000
namespace L2
open PySem PySem.Spec PyProof.Rows

noncomputable abbrev Key := Sum Int Str
noncomputable def keyIs : Key → Value → Bool
  | .inl k, v => Value.isInt k v
  | .inr x, v => Value.isStrOf x v
noncomputable def keyH (w : World) : Key → Int
  | .inl k => hashInt k
  | .inr x => hashStr w x
private theorem keyIs_shape : ∀ {k : Key} {v : Value}, keyIs k v = true → (∃ i t, k = Sum.inl i ∧ v = Value.int i t) ∨ (∃ x t, k = Sum.inr x ∧ v = Value.str x t)
  | .inl i, v, h => by
    obtain ⟨t, e⟩ := Value.isInt_shape (k := i) (v := v) h
    exact .inl ⟨i, t, rfl, e⟩
  | .inr x, v, h => by
    obtain ⟨t, e⟩ := Value.isStrOf_shape (x := x) (v := v) h
    exact .inr ⟨x, t, rfl, e⟩
private theorem keyIs_int (i : Int) (t : Tok) : keyIs (.inl i) (.int i t) = true := by simp [keyIs, Value.isInt]
private theorem keyIs_str (x : Str) (t : Tok) : keyIs (.inr x) (.str x t) = true := by simp [keyIs, Value.isStrOf]
private theorem key_ll (a b : Int) : decide ((Sum.inl a : Key) = Sum.inl b) = (a == b) := by
  by_cases e : a = b
  · subst e; simp
  · have h : ¬ (Sum.inl a : Key) = Sum.inl b := fun q => e (Sum.inl.inj q)
    rw [decide_eq_false h]
    exact (beq_eq_false_iff_ne.mpr e).symm
private theorem key_rr (a b : Str) : decide ((Sum.inr a : Key) = Sum.inr b) = decide (a = b) := by
  by_cases e : a = b
  · subst e; simp
  · have h : ¬ (Sum.inr a : Key) = Sum.inr b := fun q => e (Sum.inr.inj q)
    rw [decide_eq_false h, decide_eq_false e]
private theorem key_lr (a : Int) (b : Str) : decide ((Sum.inl a : Key) = Sum.inr b) = false := decide_eq_false (fun q => nomatch q)
private theorem key_rl (a : Str) (b : Int) : decide ((Sum.inr a : Key) = Sum.inl b) = false := decide_eq_false (fun q => nomatch q)

noncomputable def mixKind (prog : Program) (w : World) : PySem.KeyKind prog w Key where
  is := keyIs
  hash := keyH w
  inj := fun v a b ha hb => by
    rcases keyIs_shape ha with ⟨i, t, rfl, rfl⟩ | ⟨x, t, rfl, rfl⟩
    · rcases keyIs_shape hb with ⟨j, u, rfl, e⟩ | ⟨y, u, rfl, e⟩
      · injection e with e1 _; rw [e1]
      · exact nomatch e
    · rcases keyIs_shape hb with ⟨j, u, rfl, e⟩ | ⟨y, u, rfl, e⟩
      · exact nomatch e
      · injection e with e1 _; rw [e1]
  byValue := fun k v h => by
    rcases keyIs_shape h with ⟨i, t, rfl, rfl⟩ | ⟨x, t, rfl, rfl⟩ <;> rfl
  pyHash := fun hv h => by
    rcases keyIs_shape hv with ⟨i, t, rfl, rfl⟩ | ⟨x, t, rfl, rfl⟩
    · exact wpAny_pyHash_int h
    · exact wpAny_pyHash_str h
  eqBool := fun hu hv h => by
    rcases keyIs_shape hu with ⟨i, t, rfl, rfl⟩ | ⟨x, t, rfl, rfl⟩
    · rcases keyIs_shape hv with ⟨j, u, rfl, rfl⟩ | ⟨y, u, rfl, rfl⟩
      · rw [key_ll] at h; exact wpAny_eqBool_int h
      · rw [key_lr] at h; exact SeqAt.EqAt.int_str i t y u _ _ _ _ h
    · rcases keyIs_shape hv with ⟨j, u, rfl, rfl⟩ | ⟨y, u, rfl, rfl⟩
      · rw [key_rl] at h; exact SeqAt.EqAt.str_int x t j u _ _ _ _ h
      · rw [key_rr] at h; exact wpAny_eqBool_str h
  «strs» := fun k x t v h => by
    rcases keyIs_shape h with ⟨i, u, rfl, e⟩ | ⟨y, u, rfl, e⟩
    · exact nomatch e
    · injection e with e1 _
      subst e1
      cases v <;> rfl

private theorem mixKind_int (prog : Program) (w : World) (i : Int) (t : Tok) : (mixKind prog w).is (.inl i) (.int i t) = true := keyIs_int i t
private theorem mixKind_str (prog : Program) (w : World) (x : Str) (t : Tok) : (mixKind prog w).is (.inr x) (.str x t) = true := keyIs_str x t
end L2

namespace L2
open PySem PySem.Spec PyProof.Rows

inductive V where
  | non | bl (b : Bool) | int (i : Int) | str (x : Str) | byt (b : Array UInt8) | flt (b : UInt64) | ref (a : Addr) | ty (n : String)
  deriving DecidableEq

noncomputable def RelV : V → Value → Prop
  | .non, u => u = Value.none
  | .bl b, u => u = Value.bool b
  | .int i, u => ∃ t, u = Value.int i t
  | .str x, u => ∃ t, u = Value.str x t
  | .byt b, u => ∃ t, u = Value.bytes b t
  | .flt b, u => ∃ t, u = Value.float b t
  | .ref a, u => u = Value.ref a
  | .ty n, u => u = Value.type n

noncomputable abbrev Vals : List V → List Value → Prop := Paired RelV
private theorem Vals.length {xs : List V} {us : List Value} (r : Vals xs us) : xs.length = us.length := Paired.length r
private theorem Vals.get : ∀ {xs : List V} {us : List Value} {i : Nat} {x : V}, Vals xs us → xs[i]? = some x → ∃ u, us[i]? = some u ∧ RelV x u
  | _, _, _, _, .nil, e => by simp at e
  | _, _, 0, _, .cons r _, e => by simp at e; subst e; exact ⟨_, rfl, r⟩
  | _, _, i + 1, x, .cons _ t, e => by
    obtain ⟨u, h1, h2⟩ := Vals.get (i := i) (x := x) t (by simpa using e)
    exact ⟨u, by simpa using h1, h2⟩
private theorem Vals.set {x : V} {u : Value} (r : RelV x u) : ∀ {xs : List V} {us : List Value} (i : Nat), Vals xs us → Vals (xs.set i x) (us.set i u)
  | _, _, _, .nil => .nil
  | _, _, 0, .cons _ t => .cons r t
  | _, _, i + 1, .cons q t => .cons q (Vals.set r i t)
private theorem Vals.append {xs ys : List V} {us ws : List Value} (h : Vals xs us) (s : Vals ys ws) : Vals (xs ++ ys) (us ++ ws) := by
  induction h with
  | nil => exact s
  | cons r t ih => exact .cons r ih
private theorem Vals.take : ∀ {xs : List V} {us : List Value} (n : Nat), Vals xs us → Vals (xs.take n) (us.take n)
  | _, _, 0, _ => .nil
  | _, _, _ + 1, .nil => .nil
  | _, _, n + 1, .cons r t => .cons r (Vals.take n t)
private theorem Vals.drop : ∀ {xs : List V} {us : List Value} (n : Nat), Vals xs us → Vals (xs.drop n) (us.drop n)
  | _, _, 0, r => r
  | _, _, _ + 1, .nil => .nil
  | _, _, n + 1, .cons _ t => Vals.drop n t
private theorem Vals.none_of : ∀ {xs : List V} {us : List Value} {i : Nat}, Vals xs us → xs[i]? = none → us[i]? = none := fun {xs us i} r e => by
  have h1 := r.length
  have h2 : xs.length ≤ i := List.getElem?_eq_none_iff.mp e
  exact List.getElem?_eq_none_iff.mpr (by omega)

noncomputable def RelO : Option V → Option Value → Prop
  | some v, some u => RelV v u
  | none, none => True
  | _, _ => False
noncomputable def KV {κ : Type} : List (κ × V) → List (κ × Value) → Prop := Paired fun (p : κ × V) (q : κ × Value) => p.1 = q.1 ∧ RelV p.2 q.2

noncomputable def kV : Key → V
  | .inl i => .int i
  | .inr x => .str x

inductive HO where
  | lst (xs : List V)
  | tup (xs : List V)
  | dK (kvs : List (Key × V)) | dT (kvs : List (List Key × V))
  | set (S : Int → Bool) (n : Nat)
  | ins (C dx : Addr) (fs : List (Str × V))
  | own (x : Addr)
  | xd (fs : List (Str × V))
  | met (f x : Addr)
  | rng (lo hi : Int)
  | frz (o : Obj) (u : HO)
  | tbl (ps : Array Value)
  | ext (φ : Heap → Prop)

noncomputable abbrev Hp := Addr → Option HO
noncomputable def upd (H : Hp) (a : Addr) (o : HO) : Hp := fun b => if b = a then some o else H b
private theorem upd_same {H : Hp} {a : Addr} {o : HO} : upd H a o a = some o := by unfold upd; rw [if_pos rfl]
private theorem upd_ne {H : Hp} {a b : Addr} {o : HO} (h : b ≠ a) : upd H a o b = H b := by unfold upd; rw [if_neg h]
private theorem ne_of {H : Hp} {a b : Addr} {o u : HO} (h : H a = some o) (h' : H b = some u) (d : o ≠ u) : a ≠ b := by
  intro e; subst e; rw [h] at h'; exact d (Option.some.inj h')
private theorem ne_of_none {H : Hp} {a b : Addr} {o : HO} (h : H a = some o) (h' : H b = none) : a ≠ b := by
  intro e; subst e; rw [h] at h'; cases h'

section
variable (P : Program) (w : World)
noncomputable def ObjOk (H : Hp) (h : Heap) (a : Addr) : HO → Prop
  | .lst xs => xs.length ≤ sizeLine ∧ ∃ (its : List Value) (n : Nat), Vals xs its ∧ h.get? a = some { cls := .type "list", data := .seq its.toArray n }
  | .tup xs => xs.length ≤ sizeLine ∧ ∃ its : List Value, Vals xs its ∧ IsTup h a its.toArray
  | .dK kvs => kvs.length ≤ sizeLine ∧ (a == sysModules) = false ∧ ∃ vs, KV kvs vs ∧ h.DictOf (mixKind P w) a vs
  | .dT kvs => kvs.length ≤ sizeLine ∧ (a == sysModules) = false ∧ ∃ xs : List (List Key × Addr × Value),
      Paired (fun (p : List Key × V) (q : List Key × Addr × Value) => p.1 = q.1 ∧ H q.2.1 = some (.tup (p.1.map kV)) ∧ RelV p.2 q.2.2) kvs xs ∧
      ∃ o es ep, h.get? a = some o ∧ o.ExactDict ∧ o.data = .dict es ep ∧ es.toList = xs.map (entryOfKey (tupleKind (mixKind P w))) ∧ (xs.map (·.1)).Nodup
  | .set S n => h.SetOf (intKind P w) a S n
  | .ins C dx fs => H dx = some (.own a) ∧ fs.length ≤ 1000 ∧ dx ≠ a ∧ h.get? a = some (PySem.W.instObj C dx) ∧
      ∃ mA, h.Ns1 dx mA ∧ (∀ f, RelO (fs.lookup f) (mA f)) ∧ PySem.Within mA (fs.map (·.1))
  | .own _ => ∃ o, h.get? a = some o
  | .xd fs => ∃ mA, h.Ns1 a mA ∧ ∀ f, RelO (fs.lookup f) (mA f)
  | .rng lo hi => ∃ t u v, h.get? a = some { cls := .type "range", data := .fields #[.int lo t, .int hi u, .int 1 v] }
  | .frz o u => h.get? a = some o ∧ ObjOk H h a u
  | .tbl ps => h.get? a = some { cls := .none, data := .fields ps }
  | .met f x => h.get? a = some (PySem.W.methodObj (.ref f) (.ref x))
  | .ext φ => φ h ∧ (∃ o, h.get? a = some o) ∧ ∀ h1 h2 : Heap, φ h1 → (∀ o, h1.get? a = some o → h2.get? a = some o) → φ h2
noncomputable def HOk (H : Hp) (h : Heap) : Prop := ∀ a o, H a = some o → ObjOk P w H h a o
end

section
variable {P : Program} {w : World} {H H' : Hp} {h h' : Heap} {a : Addr} {o : HO}
private theorem ObjOk.lt (x : ObjOk P w H h a o) : a < h.objs.size := by
  cases o with
  | lst xs => obtain ⟨_, _, _, _, e⟩ := x; exact Heap.lt_size e
  | tup xs => obtain ⟨_, _, _, p⟩ := x; exact p.lt
  | dK kvs => obtain ⟨_, _, _, _, o, _, _, e, _⟩ := x; exact Heap.lt_size e
  | dT kvs => obtain ⟨_, _, _, _, o, _, _, e, _⟩ := x; exact Heap.lt_size e
  | set S n => obtain ⟨o, _, _, _, e, _⟩ := x; exact Heap.lt_size e
  | ins C dx fs => obtain ⟨_, _, _, e, _⟩ := x; exact Heap.lt_size e
  | own y => obtain ⟨_, e⟩ := x; exact Heap.lt_size e
  | xd fs => obtain ⟨_, ⟨_, _, _, e, _⟩, _⟩ := x; exact Heap.lt_size e
  | rng lo hi => obtain ⟨_, _, _, e⟩ := x; exact Heap.lt_size e
  | frz ob u => obtain ⟨e, _⟩ := x; exact Heap.lt_size e
  | tbl ps => exact Heap.lt_size (show h.get? a = some _ from x)
  | met f y => exact Heap.lt_size (show h.get? a = some _ from x)
  | ext φ => obtain ⟨_, ⟨_, e⟩, _⟩ := x; exact Heap.lt_size e
private theorem Paired.mapP {α β : Type} {F G : α → β → Prop} {l₁ : List α} {l₂ : List β} (h : Paired F l₁ l₂) (f : ∀ a b, F a b → G a b) : Paired G l₁ l₂ := by
  induction h with
  | nil => exact .nil
  | cons r t ih => exact .cons (f _ _ r) ih
private theorem ObjOk.stay (x : ObjOk P w H h a o) (k : ∀ b u, (b = a ∨ H b = some (.own a)) → h.get? b = some u → h'.get? b = some u)
    (ho : ∀ b, H b = some (.own a) → H' b = some (.own a)) (ht : ∀ b xs, H b = some (.tup xs) → H' b = some (.tup xs)) : ObjOk P w H' h' a o := by
  induction o with
  | lst xs => obtain ⟨z, its, n, r, e⟩ := x; exact ⟨z, its, n, r, k _ _ (.inl rfl) e⟩
  | tup xs => obtain ⟨z, its, r, ob, e, c⟩ := x; exact ⟨z, its, r, ob, k _ _ (.inl rfl) e, c⟩
  | dK kvs => obtain ⟨z, y, vs, r, ob, es, ep, e, c⟩ := x; exact ⟨z, y, vs, r, ob, es, ep, k _ _ (.inl rfl) e, c⟩
  | dT kvs =>
    obtain ⟨z, y, xs, r, ob, es, ep, e, c⟩ := x
    exact ⟨z, y, xs, Paired.mapP r fun p q z => ⟨z.1, ht _ _ z.2.1, z.2.2⟩, ob, es, ep, k _ _ (.inl rfl) e, c⟩
  | set S n => obtain ⟨ob, es, ep, t, e, c⟩ := x; exact ⟨ob, es, ep, t, k _ _ (.inl rfl) e, c⟩
  | ins C dx fs =>
    obtain ⟨d, z, ne, e, mA, ⟨od, es, ep, e2, c⟩, r⟩ := x
    exact ⟨ho _ d, z, ne, k _ _ (.inl rfl) e, mA, ⟨od, es, ep, k _ _ (.inr d) e2, c⟩, r⟩
  | own y => obtain ⟨ob, e⟩ := x; exact ⟨ob, k _ _ (.inl rfl) e⟩
  | xd fs => obtain ⟨mA, ⟨od, es, ep, e, c⟩, r⟩ := x; exact ⟨mA, ⟨od, es, ep, k _ _ (.inl rfl) e, c⟩, r⟩
  | rng lo hi => obtain ⟨t, u, v, e⟩ := x; exact ⟨t, u, v, k _ _ (.inl rfl) e⟩
  | frz ob u ih => obtain ⟨e, q⟩ := x; exact ⟨k _ _ (.inl rfl) e, ih q⟩
  | tbl ps =>
    have e : h.get? a = some { cls := .none, data := .fields ps } := x
    show h'.get? a = some { cls := .none, data := .fields ps }
    exact k a _ (.inl rfl) e
  | met f y =>
    have e : h.get? a = some (PySem.W.methodObj (.ref f) (.ref y)) := x
    show h'.get? a = some (PySem.W.methodObj (.ref f) (.ref y))
    exact k a _ (.inl rfl) e
  | ext φ => obtain ⟨p, ⟨o, e⟩, st⟩ := x; exact ⟨st _ _ p fun o q => k _ _ (.inl rfl) q, ⟨o, k _ _ (.inl rfl) e⟩, st⟩
private theorem HOk.lt (x : HOk P w H h) (e : H a = some o) : a < h.objs.size := (x a o e).lt
private theorem HOk.fresh (x : HOk P w H h) (e : h.objs.size ≤ a) : H a = none := by
  cases q : H a with
  | none => rfl
  | some u => exact absurd (Nat.lt_of_lt_of_le (x.lt q) e) (Nat.lt_irrefl _)
private theorem HOk.kept (x : HOk P w H h) (k : ∀ b u, h.get? b = some u → h'.get? b = some u) : HOk P w H h' := fun a o e =>
  (x a o e).stay (fun b u _ q => k b u q) (fun _ q => q) fun _ _ q => q
private theorem HOk.laid (x : HOk P w H h) (k : ∀ b u, h.get? b = some u → h'.get? b = some u) (hp : h.objs.size ≤ a) (new : ObjOk P w (upd H a o) h' a o) : HOk P w (upd H a o) h' := fun b u e => by
  have hn := x.fresh hp
  by_cases hb : b = a
  · subst hb; rw [upd_same] at e; cases e; exact new
  · rw [upd_ne hb] at e
    exact (x b u e).stay (fun c v _ q => k c v q) (fun c q => by rw [upd_ne (ne_of_none q hn)]; exact q) fun c xs q => by rw [upd_ne (ne_of_none q hn)]; exact q
end

noncomputable def Rd (H : Hp) (a : Addr) (u : HO) : Prop := H a = some u ∨ ∃ o, H a = some (.frz o u)
private theorem Rd.of {H : Hp} {a : Addr} {u : HO} (h : H a = some u) : Rd H a u := .inl h
private theorem Rd.ok {P : Program} {w : World} {H : Hp} {h : Heap} {a : Addr} {u : HO} (r : Rd H a u) (x : HOk P w H h) : ObjOk P w H h a u := by
  rcases r with r | ⟨o, r⟩
  · exact x a u r
  · obtain ⟨_, q⟩ := x a _ r
    exact q
noncomputable def Mut : Option HO → Prop
  | some (.lst _) => True
  | some (.dK _) => True
  | some (.dT _) => True
  | some (.set _ _) => True
  | some (.ins _ _ _) => True
  | some (.ext _) => True
  | _ => False
section
variable {P : Program} {w : World} {H : Hp} {h h' : Heap} {x e : Addr} {o' : HO}
private theorem HOk.write (ok : HOk P w H h) (mu : Mut (H x)) (he : e = x ∨ H e = some (.own x)) (k : ∀ b u, b ≠ e → h.get? b = some u → h'.get? b = some u) (heo : ∃ u, h'.get? e = some u)
    (new : ObjOk P w (upd H x o') h' x o') : HOk P w (upd H x o') h' := fun b u q => by
  have nown : ∀ c y, H c = some (.own y) → c ≠ x := fun c y r z => by subst z; rw [r] at mu; exact mu
  have ntup : ∀ c xs, H c = some (.tup xs) → c ≠ x := fun c xs r z => by subst z; rw [r] at mu; exact mu
  by_cases hb : b = x
  · subst hb; rw [upd_same] at q; cases q; exact new
  · rw [upd_ne hb] at q
    by_cases hbe : b = e
    · have q' : H b = some (.own x) := by
        rcases he with z | z
        · exact absurd (hbe.trans z) hb
        · rw [hbe]; exact z
      rw [q] at q'; cases q'
      obtain ⟨v, hv⟩ := heo
      exact ⟨v, by rw [hbe]; exact hv⟩
    · refine (ok b u q).stay (fun c v hc r => k c v ?_ r) (fun c r => by rw [upd_ne (nown c b r)]; exact r) fun c xs r => by rw [upd_ne (ntup c xs r)]; exact r
      rcases hc with rfl | hc
      · exact hbe
      · rintro rfl
        rcases he with z | z
        · exact nown c b hc z
        · rw [hc] at z; cases z; exact hb rfl
end

structure Un (fs ex : List Addr) (H H' : Hp) (h h' : Heap) : Prop where
  keep : ∀ b o, h.get? b = some o → H b = none → b ∉ fs → b ∉ ex → h'.get? b = some o
  slot : ∀ b o, h.get? b = some o → H b = none → b ∈ fs → b ∉ ex → ∃ sl, h'.get? b = some { o with slots := sl }
  free : ∀ b o, h.get? b = some o → H b = none → b ∉ ex → H' b = none
  there : ∀ b o, h.get? b = some o → b ∉ ex → ∃ o', h'.get? b = some o'
  tups : ∀ b xs, H b = some (.tup xs) → H' b = some (.tup xs)
  frzs : ∀ b o u, H b = some (.frz o u) → H' b = some (.frz o u)
  tbls : ∀ b ps, H b = some (.tbl ps) → ∃ more, H' b = some (.tbl (ps ++ more))
section
variable {fs fs' ex ex' : List Addr} {H H1 H2 : Hp} {h h1 h2 h' : Heap} {a x e : Addr} {o : HO}
private theorem Un.any (u : Un fs ex H H1 h h1) {b : Addr} {ob : Obj} (q : h.get? b = some ob) (n : H b = none) (hx : b ∉ ex) : ∃ sl, h1.get? b = some { ob with slots := sl } := by
  by_cases hb : b ∈ fs
  · exact u.slot b ob q n hb hx
  · exact ⟨ob.slots, u.keep b ob q n hb hx⟩
private theorem Un.trans (a : Un fs ex H H1 h h1) (b : Un fs ex H1 H2 h1 h2) : Un fs ex H H2 h h2 where
  keep := fun c ob q n hc hx => b.keep c ob (a.keep c ob q n hc hx) (a.free c ob q n hx) hc hx
  slot := fun c ob q n hc hx => by
    obtain ⟨sl, e1⟩ := a.slot c ob q n hc hx
    obtain ⟨sl', e2⟩ := b.slot c _ e1 (a.free c ob q n hx) hc hx
    exact ⟨sl', e2⟩
  free := fun c ob q n hx => by
    obtain ⟨o', e1⟩ := a.there c ob q hx
    exact b.free c o' e1 (a.free c ob q n hx) hx
  there := fun c ob q hx => by
    obtain ⟨o', e1⟩ := a.there c ob q hx
    exact b.there c o' e1 hx
  tups := fun c xs q => b.tups c xs (a.tups c xs q)
  frzs := fun c ob xs q => b.frzs c ob xs (a.frzs c ob xs q)
  tbls := fun c ps q => by
    obtain ⟨m1, e1⟩ := a.tbls c ps q
    obtain ⟨m2, e2⟩ := b.tbls c _ e1
    exact ⟨m1 ++ m2, by rw [e2, Array.append_assoc]⟩
private theorem Un.kept (k : ∀ b u, h.get? b = some u → h'.get? b = some u) : Un fs ex H H h h' :=
  ⟨fun b ob q _ _ _ => k b ob q, fun b ob q _ _ _ => ⟨ob.slots, k b ob q⟩, fun _ _ _ n _ => n, fun b ob q _ => ⟨ob, k b ob q⟩, fun _ _ q => q, fun _ _ _ q => q, fun _ ps q => ⟨#[], by rw [q]; simp⟩⟩
private theorem Un.refl : Un fs ex H H h h := Un.kept fun _ _ q => q
private theorem Un.laid (k : ∀ b u, h.get? b = some u → h'.get? b = some u) (hp : h.objs.size ≤ a) (hn : H a = none) : Un fs ex H (upd H a o) h h' where
  keep := fun b u q _ _ _ => k b u q
  slot := fun b u q _ _ _ => ⟨u.slots, k b u q⟩
  free := fun b u q n _ => by rw [upd_ne (Nat.ne_of_lt (Nat.lt_of_lt_of_le (Heap.lt_size q) hp))]; exact n
  there := fun b u q _ => ⟨u, k b u q⟩
  tups := fun b xs q => by rw [upd_ne (ne_of_none q hn)]; exact q
  frzs := fun b u xs q => by rw [upd_ne (ne_of_none q hn)]; exact q
  tbls := fun b ps q => ⟨#[], by rw [upd_ne (ne_of_none q hn), q]; simp⟩
private theorem Un.write (mu : Mut (H x)) (he : e = x ∨ H e = some (.own x)) (k : ∀ b u, b ≠ e → h.get? b = some u → h'.get? b = some u) (heo : ∃ u, h'.get? e = some u) : Un fs ex H (upd H x o) h h' := by
  have hx : ∀ b, H b = none → b ≠ x := fun b n z => by subst z; rw [n] at mu; exact mu
  have hb : ∀ b, H b = none → b ≠ e := fun b n z => by
    subst z
    rcases he with r | r
    · exact hx b n r
    · rw [n] at r; cases r
  have hm : ∀ b u, H b = some u → ¬ Mut (some u) → b ≠ x := fun b u q nm z => by subst z; rw [q] at mu; exact nm mu
  refine ⟨fun b u q n _ _ => k b u (hb b n) q, fun b u q n _ _ => ⟨u.slots, k b u (hb b n) q⟩, fun b u q n _ => by rw [upd_ne (hx b n)]; exact n, fun b u q _ => ?_,
    fun b xs q => by rw [upd_ne (hm b _ q fun z => z)]; exact q, fun b u xs q => by rw [upd_ne (hm b _ q fun z => z)]; exact q, fun b ps q => ⟨#[], by rw [upd_ne (hm b _ q fun z => z), q]; simp⟩⟩
  by_cases hbe : b = e
  · subst hbe; exact heo
  · exact ⟨u, k b u hbe q⟩
private theorem Un.mono (u : Un fs ex H H1 h h1) (hs : ∀ b ∈ fs, b ∈ fs') (hx : ∀ b ∈ ex, b ∈ ex') : Un fs' ex' H H1 h h1 :=
  ⟨fun b ob q n hb he => u.keep b ob q n (fun z => hb (hs b z)) fun z => he (hx b z), fun _ _ q n _ he => u.any q n fun z => he (hx _ z), fun b ob q n he => u.free b ob q n fun z => he (hx b z), fun b ob q he => u.there b ob q fun z => he (hx b z), u.tups, u.frzs, u.tbls⟩
end

noncomputable def trk (h : Heap) (H : Hp) : List Addr := (List.range h.objs.size).filter fun a => (H a).isSome
noncomputable def hidT (h : Heap) (H : Hp) : Heap := PySem.W.hideAll h (trk h H)
private theorem hidT_size (h : Heap) (H : Hp) : (hidT h H).objs.size = h.objs.size := PySem.W.hideAll_size _ _
private theorem hidT_get {h : Heap} {H : Hp} {b : Addr} {o : Obj} (e : h.get? b = some o) (n : H b = none) : (hidT h H).get? b = some o :=
  PySem.W.hideAll_get _ e fun hm => by
    have q : (H b).isSome = true := (List.mem_filter.mp hm).2
    rw [n] at q; simp at q
private theorem of_hidT {h : Heap} {H : Hp} {b : Addr} {o : Obj} (e : (hidT h H).get? b = some o) : h.get? b = some o ∧ H b = none := by
  have e' : h.get? b = some o := PySem.W.of_hideAll (trk h H) e
  refine ⟨e', ?_⟩
  cases q : H b with
  | none => rfl
  | some x =>
    have hm : b ∈ trk h H := List.mem_filter.mpr ⟨List.mem_range.mpr (Heap.lt_size e'), by simp [q]⟩
    have z : (hidT h H).get? b = none := PySem.W.hideAll_none (trk h H) hm
    rw [z] at e; cases e

noncomputable def allNews (g h : Heap) (L : Addr) : List (Addr × Obj) := (List.range h.objs.size).filterMap fun a => if a = L ∨ (g.get? a).isSome = true then none else (h.get? a).map fun o => (a, o)
noncomputable def rest (g h : Heap) (L d : Addr) : List (Addr × Obj) := (allNews g h L).filter fun p => decide (p.1 ≠ d)
end L2

namespace L2
open PySem PySem.Spec PyProof.Rows

structure Mod (K : PySem.W.Frag) (mg : Str → Option Value) (base : Heap) : Prop where
  kin : K.In base
  glob : base.Ns mainGlobals mg
  blt : ∃ mb, base.Ns builtinsNs mb ∧ ∀ x : Str, x ≠ "__name__" → mb x = bootBuiltins x
  nolimit : base.NoLimit

structure Cx where
  prog : Program
  w : World
  K : PySem.W.Frag
  mg : Str → Option Value
  base : Heap
  A : Around
  N : List Str
  s₀ : Shared
  H₀ : Hp
  env : Env
  outer : List Env
  stack : List Env
  ex : List Addr
  fn : Str → Bool
  calm : Bool
  pn : List (Addr × Obj)
  xe : Value → Shared → Prop
noncomputable def frs (l : List Env) : List Addr := l.filterMap (·.frame)
noncomputable abbrev Cx.fs (X : Cx) : List Addr := frs X.outer

noncomputable def Vis (sc : Scope) (x : Str) : Prop := sc.names.lookup x = some .local ∨ sc.names.lookup x = some .cell ∨ sc.names.lookup x = some .free
noncomputable def Loc (sc : Scope) (x : Str) : Prop := sc.names.lookup x = some .local ∨ sc.names.lookup x = some .cell
noncomputable def Look (env : Env) (h : Heap) (m : Str → Option Value) (x : Str) (u : Value) : Prop :=
  (env.kindOf x = some .local ∧ m x = some u) ∨ ((env.kindOf x = some .cell ∨ env.kindOf x = some .free) ∧ ∃ c, env.cells.lookup x = some c ∧ h.IsCell c (some u))

structure Cx.Ok (X : Cx) : Prop where
  mod : Mod X.K X.mg X.base
  kind : X.env.scope.kind = .function
  glob : X.env.globals = mainGlobals
  blt : X.env.builtins = builtinsNs
  above : X.s₀.heap.objs.size ≤ X.env.locals
  inj : ∀ x y c, X.env.cells.lookup x = some c → X.env.cells.lookup y = some c → x = y
  has : ∀ x, (X.env.kindOf x = some .cell ∨ X.env.kindOf x = some .free) → ∃ c, X.env.cells.lookup x = some c
  cab : ∀ x c, X.fn x = true → X.env.cells.lookup x = some c → X.s₀.heap.objs.size ≤ c
  hd : X.calm = true → X.A.handled = none
  frames : X.A.frames = some X.stack
  stk : X.stack = X.outer ∨ (X.stack = X.env :: X.outer ∧ X.env.frame = some X.env.locals)
  exf : ∀ b ∈ X.ex, b ≠ X.env.locals ∧ ∀ x c, X.env.cells.lookup x = some c → c ≠ b
  bs : ∀ b o, X.base.get? b = some o → X.s₀.heap.get? b = some o ∧ X.H₀ b = none
  bsz : X.base.objs.size ≤ X.s₀.heap.objs.size
  noex : ∀ b o, X.base.get? b = some o → b ∉ X.ex
  exfs : ∀ b ∈ X.ex, b ∉ X.fs
  funs : X.s₀.heap.FunFrames X.base X.outer
  frf : ∀ b ∈ X.fs, X.H₀ b = none

structure Inv (X : Cx) (pins : List (Addr × Obj)) (σ : List (Option V)) (H : Hp) (s : Shared) : Prop where
  ok : X.Ok
  os : s.os = X.s₀.os
  bare : AllBare s.gens
  base : Un X.fs X.ex X.H₀ H X.s₀.heap s.heap
  loc : ∃ m, s.heap.Ns X.env.locals m ∧ ∀ (i : Nat) (x : Str) (v : V), X.N[i]? = some x → σ[i]? = some (some v) → Vis X.env.scope x → ∃ u, RelV v u ∧ Look X.env s.heap m x u
  cell : ∀ x c, X.env.cells.lookup x = some c → ∃ v, s.heap.IsCell c v
  free : H X.env.locals = none
  freeC : ∀ x c, X.env.cells.lookup x = some c → H c = none
  pin : ∀ p ∈ X.pn ++ pins, s.heap.get? p.1 = some p.2 ∧ H p.1 = none ∧ p.1 ≠ X.env.locals ∧ p.1 ∉ X.fs ∧ ∀ v, p.2.data ≠ .cell v
  hok : HOk X.prog X.w H s.heap
  len : σ.length = X.N.length

section
variable {X : Cx} {pins : List (Addr × Obj)} {σ : List (Option V)} {H H' : Hp} {s : Shared} {h' : Heap}

private theorem Cx.Ok.nofr (ok : X.Ok) {b : Addr} {o : Obj} (e : X.base.get? b = some o) : b ∉ X.fs := fun hb => by
  have := (ok.funs.mem hb).1
  rw [e] at this; cases this
private theorem Inv.bs (I : Inv X pins σ H s) : ∀ b o, X.base.get? b = some o → s.heap.get? b = some o ∧ H b = none := fun b o e =>
  ⟨I.base.keep b o (I.ok.bs b o e).1 (I.ok.bs b o e).2 (I.ok.nofr e) (I.ok.noex b o e), I.base.free b o (I.ok.bs b o e).1 (I.ok.bs b o e).2 (I.ok.noex b o e)⟩
private theorem Inv.bk (I : Inv X pins σ H s) : ∀ b o, X.base.get? b = some o → s.heap.get? b = some o := fun b o e => (I.bs b o e).1
private theorem Inv.mod (I : Inv X pins σ H s) : Mod X.K X.mg X.base := I.ok.mod
private theorem Inv.kIn (I : Inv X pins σ H s) : X.K.In s.heap := I.ok.mod.kin.keeps I.bk
private theorem Inv.nolimit (I : Inv X pins σ H s) : s.heap.NoLimit := I.ok.mod.nolimit.keeps I.bk
private theorem Inv.fr (I : Inv X pins σ H s) : ∃ m, Fr X.base X.env.locals s.heap m :=
  let ⟨m, hn, _⟩ := I.loc
  ⟨m, hn, I.bk, Nat.le_trans I.ok.bsz I.ok.above⟩
private theorem Inv.lt (I : Inv X pins σ H s) : X.env.locals < s.heap.objs.size := let ⟨_, hn, _⟩ := I.loc; hn.lt
private theorem Inv.sz (I : Inv X pins σ H s) : X.s₀.heap.objs.size ≤ s.heap.objs.size := Nat.le_trans I.ok.above (Nat.le_of_lt I.lt)
private theorem Inv.nofs (I : Inv X pins σ H s) {a : Addr} (h : s.heap.objs.size ≤ a) : a ∉ X.fs := fun hb => by
  obtain ⟨_, o, ho, _⟩ := I.ok.funs.mem hb
  exact absurd (Nat.lt_of_lt_of_le (Heap.lt_size ho) (Nat.le_trans I.sz h)) (Nat.lt_irrefl _)
private theorem Inv.cne (I : Inv X pins σ H s) : ∀ x c, X.env.cells.lookup x = some c → c ≠ X.env.locals := fun x c e z => by
  obtain ⟨v, o, ho, hd⟩ := I.cell x c e
  obtain ⟨m, ⟨o', es, ep, ho', hd', _⟩, _⟩ := I.loc
  rw [z, ho'] at ho; cases ho; rw [hd'] at hd; cases hd
private theorem Inv.funs (I : Inv X pins σ H s) : s.heap.FunFrames X.base X.outer := by
  have all : ∀ (l : List Env), (∀ b ∈ frs l, b ∈ X.fs) → X.s₀.heap.FunFrames X.base l → s.heap.FunFrames X.base l := by
    intro l
    induction l with
    | nil => intro _ _; trivial
    | cons env r ih =>
      intro hs hl
      obtain ⟨hk, ⟨L, o, hf, hn, ho, hd⟩, hr⟩ := hl
      have hL : L ∈ X.fs := hs L (by unfold frs; rw [List.filterMap_cons, hf]; exact List.mem_cons_self)
      obtain ⟨sl, e⟩ := I.base.slot L o ho (I.ok.frf L hL) hL fun z => I.ok.exfs L z hL
      exact ⟨hk, ⟨L, _, hf, hn, e, hd⟩, ih (fun b hb => hs b (by unfold frs; rw [List.filterMap_cons, hf]; exact List.mem_cons_of_mem _ hb)) hr⟩
  exact all X.outer (fun _ hb => hb) I.ok.funs

private theorem Inv.stack (I : Inv X pins σ H s) : s.heap.FunFrames X.base X.stack := by
  rcases I.ok.stk with e | ⟨e, hf⟩
  · rw [e]; exact I.funs
  · rw [e]
    obtain ⟨m, hn, _⟩ := I.loc
    refine .cons (by rw [I.ok.kind]; decide) hf hn ?_ I.funs
    exact Heap.get?_none_of_le (Nat.le_trans I.ok.bsz I.ok.above)
private theorem Inv.stkSub (I : Inv X pins σ H s) : ∀ b ∈ frs X.stack, b ∈ X.env.locals :: X.fs := fun b hb => by
  rcases I.ok.stk with e | ⟨e, hf⟩
  · rw [e] at hb; exact List.mem_cons_of_mem _ hb
  · rw [e] at hb
    unfold frs at hb
    rw [List.filterMap_cons, hf] at hb
    exact hb
private theorem Inv.stkFree (I : Inv X pins σ H s) : ∀ b ∈ frs X.stack, H b = none := fun b hb => by
  rcases List.mem_cons.mp (I.stkSub b hb) with e | hb
  · rw [e]; exact I.free
  · obtain ⟨_, o, ho, _⟩ := I.ok.funs.mem hb
    exact I.base.free b o ho (I.ok.frf b hb) fun z => I.ok.exfs b z hb

private theorem Inv.step {g' : Array GenState} {t' : Nat} {d' : Drawn} {ch : List Addr} (I : Inv X pins σ H s)
    (hch : ∀ b ∈ ch, (b ∈ X.ex ∨ X.s₀.heap.objs.size ≤ b) ∧ b ≠ X.env.locals ∧ (∀ x c, X.env.cells.lookup x = some c → c ≠ b) ∧ ∀ p ∈ X.pn ++ pins, p.1 ≠ b)
    (keep : ∀ b o, b ≠ X.env.locals → b ∉ X.fs → b ∉ ch → s.heap.get? b = some o → H b = none → h'.get? b = some o)
    (slot : ∀ b o, b ≠ X.env.locals → b ∈ X.fs → b ∉ ch → s.heap.get? b = some o → H b = none → ∃ sl, h'.get? b = some { o with slots := sl }) (free : ∀ b o, b ∉ ch → s.heap.get? b = some o → H b = none → H' b = none)
    (there : ∀ b o, b ∉ ch → s.heap.get? b = some o → ∃ o', h'.get? b = some o')
    (tups : ∀ b xs, H b = some (.tup xs) → H' b = some (.tup xs)) (frzs : ∀ b o u, H b = some (.frz o u) → H' b = some (.frz o u)) (tbls : ∀ b ps, H b = some (.tbl ps) → ∃ more, H' b = some (.tbl (ps ++ more)))
    (ns : ∀ m, s.heap.Ns X.env.locals m → h'.Ns X.env.locals m) (hok : HOk X.prog X.w H' h') (hg : AllBare g') :
    Inv X pins σ H' { s with heap := h', gens := g', drawn := d', toks := t' } := by
  have neL : ∀ b o, X.s₀.heap.get? b = some o → b ≠ X.env.locals := fun b o e => Nat.ne_of_lt (Nat.lt_of_lt_of_le (Heap.lt_size e) I.ok.above)
  have neC : ∀ b o, X.s₀.heap.get? b = some o → b ∉ X.ex → b ∉ ch := fun b o e hx hb => by
    rcases (hch b hb).1 with z | z
    · exact hx z
    · exact absurd (Nat.lt_of_lt_of_le (Heap.lt_size e) z) (Nat.lt_irrefl _)
  have cellK : ∀ x c, X.env.cells.lookup x = some c → ∀ v, s.heap.IsCell c v → h'.IsCell c v := fun x c e v zq9 => by
    obtain ⟨o, ho, hd⟩ := zq9
    have nch : c ∉ ch := fun z => (hch c z).2.2.1 x c e rfl
    by_cases hc : c ∈ X.fs
    · obtain ⟨sl, q⟩ := slot c o (I.cne x c e) hc nch ho (I.freeC x c e)
      exact ⟨_, q, hd⟩
    · exact ⟨o, keep c o (I.cne x c e) hc nch ho (I.freeC x c e), hd⟩
  refine ⟨I.ok, I.os, hg, ⟨fun b o e n hb hx => ?_, fun b o e n hb hx => ?_, fun b o e n hx => ?_, fun b o e hx => ?_, fun b xs e => tups b xs (I.base.tups b xs e), fun b o xs e => frzs b o xs (I.base.frzs b o xs e), fun b ps e => ?_⟩, ?_, fun x c e => ?_, ?_, fun x c e => ?_, fun p hp => ?_, hok, I.len⟩
  · exact keep b o (neL b o e) hb (neC b o e hx) (I.base.keep b o e n hb hx) (I.base.free b o e n hx)
  · obtain ⟨sl, e1⟩ := I.base.slot b o e n hb hx
    obtain ⟨sl', e2⟩ := slot b _ (neL b o e) hb (neC b o e hx) e1 (I.base.free b o e n hx)
    exact ⟨sl', e2⟩
  · obtain ⟨o', e1⟩ := I.base.there b o e hx
    exact free b o' (neC b o e hx) e1 (I.base.free b o e n hx)
  · obtain ⟨o', e1⟩ := I.base.there b o e hx
    exact there b o' (neC b o e hx) e1
  · obtain ⟨m1, e1⟩ := I.base.tbls b ps e
    obtain ⟨m2, e2⟩ := tbls b _ e1
    exact ⟨m1 ++ m2, by rw [e2, Array.append_assoc]⟩
  · obtain ⟨m, hn, hl⟩ := I.loc
    refine ⟨m, ns m hn, fun i x v e1 e2 e3 => ?_⟩
    obtain ⟨u, r, l⟩ := hl i x v e1 e2 e3
    refine ⟨u, r, ?_⟩
    rcases l with l | ⟨k, c, e, z⟩
    · exact .inl l
    · exact .inr ⟨k, c, e, cellK x c e _ z⟩
  · obtain ⟨v, z⟩ := I.cell x c e
    exact ⟨v, cellK x c e v z⟩
  · obtain ⟨m, ⟨o, _, _, ho, _⟩, _⟩ := I.loc
    exact free _ o (fun z => (hch _ z).2.1 rfl) ho I.free
  · obtain ⟨v, o, ho, hd⟩ := I.cell x c e
    exact free c o (fun z => (hch c z).2.2.1 x c e rfl) ho (I.freeC x c e)
  · obtain ⟨e, n, ne, nf, d⟩ := I.pin p hp
    have nch : p.1 ∉ ch := fun z => (hch p.1 z).2.2.2 p hp rfl
    exact ⟨keep p.1 p.2 ne nf nch e n, free p.1 p.2 nch e n, ne, nf, d⟩
private theorem Inv.un {t' : Nat} (I : Inv X pins σ H s) (u : Un X.fs [] H H' s.heap h') (hok : HOk X.prog X.w H' h') : Inv X pins σ H' { s with heap := h', toks := t' } := by
  obtain ⟨m, ⟨o, es, ep, ho, r⟩, _⟩ := id I.loc
  obtain ⟨sl, hL⟩ := u.any ho I.free (by simp)
  exact I.step (g' := s.gens) (d' := s.drawn) (ch := []) (fun _ z => nomatch z) (fun b o _ hb _ e n => u.keep b o e n hb (by simp)) (fun b o _ hb _ e n => u.slot b o e n hb (by simp)) (fun b o _ e n => u.free b o e n (by simp)) (fun b o _ e => u.there b o e (by simp)) u.tups u.frzs u.tbls (fun m' hm => by
    obtain ⟨o', es', ep', ho', r'⟩ := hm
    rw [ho] at ho'; cases ho'
    exact ⟨_, es', ep', hL, r'⟩) hok I.bare
private theorem Inv.call {g' : Array GenState} {t' : Nat} {d' : Drawn} {ch : List Addr} (I : Inv X pins σ H s) (u : Un (frs X.stack) ch H H' s.heap h') (hok : HOk X.prog X.w H' h') (hg : AllBare g')
    (hch : ∀ b ∈ ch, (b ∈ X.ex ∨ X.s₀.heap.objs.size ≤ b) ∧ b ≠ X.env.locals ∧ (∀ x c, X.env.cells.lookup x = some c → c ≠ b) ∧ ∀ p ∈ X.pn ++ pins, p.1 ≠ b) :
    Inv X pins σ H' { s with heap := h', gens := g', drawn := d', toks := t' } := by
  obtain ⟨m, ⟨o, es, ep, ho, r⟩, _⟩ := id I.loc
  obtain ⟨sl, hL⟩ := u.any ho I.free fun z => (hch _ z).2.1 rfl
  exact I.step (ch := ch) hch (fun b o hL hb hc e n => u.keep b o e n (fun z => (List.mem_cons.mp (I.stkSub b z)).elim hL hb) hc) (fun b o _ _ hc e n => u.any e n hc) (fun b o hc e n => u.free b o e n hc) (fun b o hc e => u.there b o e hc) u.tups u.frzs u.tbls (fun m' hm => by
    obtain ⟨o', es', ep', ho', r'⟩ := hm
    rw [ho] at ho'; cases ho'
    exact ⟨_, es', ep', hL, r'⟩) hok hg
private theorem Inv.turned {t' : Nat} {it : Addr} (I : Inv X pins σ H s) (k : ∀ b o, b ≠ it → s.heap.get? b = some o → h'.get? b = some o) (hn : H it = none) (hL : it ≠ X.env.locals)
    (h1 : it ∈ X.ex ∨ X.s₀.heap.objs.size ≤ it) (h2 : ∀ x c, X.env.cells.lookup x = some c → c ≠ it) (h3 : ∀ p ∈ X.pn ++ pins, p.1 ≠ it) : Inv X pins σ H { s with heap := h', toks := t' } := by
  have nit : ∀ b u, H b = some u → b ≠ it := fun b u e z => by rw [z, hn] at e; cases e
  refine I.step (g' := s.gens) (d' := s.drawn) (ch := [it]) (fun b hb => ?_) (fun b o _ _ hc e _ => k b o (fun z => hc (by simp [z])) e) (fun b o _ _ hc e _ => ⟨o.slots, k b o (fun z => hc (by simp [z])) e⟩) (fun _ _ _ _ n => n)
    (fun b o hc e => ⟨o, k b o (fun z => hc (by simp [z])) e⟩) (fun _ _ e => e) (fun _ _ _ e => e) (fun b ps e => ⟨#[], by rw [e]; simp⟩) (fun m hm => ?_) (fun b u e => ?_) I.bare
  · have e : b = it := by simpa using hb
    subst e
    exact ⟨h1, hL, h2, h3⟩
  · obtain ⟨o, es, ep, ho, r⟩ := hm
    exact ⟨o, es, ep, k _ o (Ne.symm hL) ho, r⟩
  · refine (I.hok b u e).stay (fun c v hc q => k c v ?_ q) (fun _ q => q) fun _ _ q => q
    rcases hc with z | z
    · rw [z]; exact nit b u e
    · exact nit c _ z
private theorem Inv.tok (I : Inv X pins σ H s) (t : Nat) : Inv X pins σ H { s with toks := t } := I.un (h' := s.heap) (t' := t) Un.refl I.hok
private theorem Inv.kept {t' : Nat} (I : Inv X pins σ H s) (k : ∀ b u, s.heap.get? b = some u → h'.get? b = some u) : Inv X pins σ H { s with heap := h', toks := t' } := I.un (Un.kept k) (I.hok.kept k)
private theorem Inv.laid {a : Addr} {o : HO} {t' : Nat} (I : Inv X pins σ H s) (k : ∀ b u, s.heap.get? b = some u → h'.get? b = some u) (hp : s.heap.objs.size ≤ a) (new : ObjOk X.prog X.w (upd H a o) h' a o) :
    Inv X pins σ (upd H a o) { s with heap := h', toks := t' } := I.un (Un.laid k hp (I.hok.fresh hp)) (I.hok.laid k hp new)
private theorem Inv.write {x e : Addr} {o : HO} {t' : Nat} (I : Inv X pins σ H s) (mu : Mut (H x)) (he : e = x ∨ H e = some (.own x)) (k : ∀ b u, b ≠ e → s.heap.get? b = some u → h'.get? b = some u) (heo : ∃ u, h'.get? e = some u)
    (new : ObjOk X.prog X.w (upd H x o) h' x o) : Inv X pins σ (upd H x o) { s with heap := h', toks := t' } := I.un (Un.write mu he k heo) (I.hok.write mu he k heo new)
private theorem Inv.weak {σ' : List (Option V)} (I : Inv X pins σ H s) (hl : σ'.length = σ.length) (w : ∀ (i : Nat) v, σ'[i]? = some (some v) → σ[i]? = some (some v)) : Inv X pins σ' H s :=
  ⟨I.ok, I.os, I.bare, I.base, let ⟨m, hn, hl'⟩ := I.loc; ⟨m, hn, fun i x v e1 e2 e3 => hl' i x v e1 (w i v e2) e3⟩, I.cell, I.free, I.freeC, I.pin, I.hok, hl.trans I.len⟩
private theorem Inv.pins_of {pins' : List (Addr × Obj)} (I : Inv X pins σ H s) (h : ∀ p ∈ pins', s.heap.get? p.1 = some p.2 ∧ H p.1 = none ∧ p.1 ≠ X.env.locals ∧ p.1 ∉ X.fs ∧ ∀ v, p.2.data ≠ .cell v) : Inv X pins' σ H s :=
  ⟨I.ok, I.os, I.bare, I.base, I.loc, I.cell, I.free, I.freeC, fun p hp => (List.mem_append.mp hp).elim (fun z => I.pin p (List.mem_append_left _ z)) (h p), I.hok, I.len⟩

private theorem nodup_ix {N : List Str} (hN : N.Nodup) {i j : Nat} {x : Str} (a : N[i]? = some x) (b : N[j]? = some x) : i = j := by
  obtain ⟨h1, e1⟩ := List.getElem?_eq_some_iff.mp a
  obtain ⟨h2, e2⟩ := List.getElem?_eq_some_iff.mp b
  exact (List.getElem_inj hN).mp (e1.trans e2.symm)

private theorem store_ok2 {M : Model} {A : Around} {E : Value → Shared → Prop} {i : Nat} {x : Str} {v : V} {u : Value} {Q : Unit → Shared → Prop} (I : Inv X pins σ H s) (hN : X.N.Nodup) (hi : X.N[i]? = some x) (hx : Loc X.env.scope x) (r : RelV v u)
    (h : ∀ s', Inv X pins (σ.set i (some v)) H s' → (∃ a, Heap.SameBut a s.heap s'.heap ∧ (a = X.env.locals ∨ X.env.cells.lookup x = some a)) → Q () s') (hf : autoParam (X.fn x = true ∨ X.env.scope.names.lookup x = some .local) _root_.zt0) : wpAny M A (storeName X.env x u) Q E s := by
  obtain ⟨m, hn, hl⟩ := id I.loc
  have hcls : (X.env.scope.kind == .class || (X.env.scope.kind == .module && X.env.locals != X.env.globals)) = false := by rw [I.ok.kind]; rfl
  have hiσ : i < σ.length := by rw [I.len]; exact (List.getElem?_eq_some_iff.mp hi).1
  have cne := I.cne
  have tracked : ∀ {a : Addr} {h' : Heap}, (∃ o, s.heap.get? a = some o ∧ H a = none) → Heap.SameBut a s.heap h' → HOk X.prog X.w H h' := fun {a h'} ha hs b ob e => by
    obtain ⟨_, _, hfree⟩ := ha
    refine (I.hok b ob e).stay (fun c w' hc q => (hs.2 c ?_).trans q) (fun _ q => q) fun _ _ q => q
    rintro rfl
    rcases hc with rfl | hc
    · rw [hfree] at e; cases e
    · rw [hfree] at hc; cases hc
  rcases hx with hk | hk
  · refine wpAny_storeName_local hk hn (fun h' hn' hs => ?_) hcls
    obtain ⟨oL, _, _, hoL, _⟩ := id hn
    refine h _ ⟨I.ok, I.os, I.bare, ⟨fun b o e n hb hx => ?_, fun b o e n hb hx => ?_, I.base.free, fun b o e hx => ?_, I.base.tups, I.base.frzs, I.base.tbls⟩, ⟨_, hn', fun j y v' e1 e2 e3 => ?_⟩, fun y c e => ?_, I.free, I.freeC, fun p hp => ?_, tracked ⟨oL, hoL, I.free⟩ hs, by simpa using I.len⟩ ⟨_, hs, .inl rfl⟩
    · exact (hs.2 b (Nat.ne_of_lt (Nat.lt_of_lt_of_le (Heap.lt_size e) I.ok.above))).trans (I.base.keep b o e n hb hx)
    · obtain ⟨sl, e1⟩ := I.base.slot b o e n hb hx
      exact ⟨sl, (hs.2 b (Nat.ne_of_lt (Nat.lt_of_lt_of_le (Heap.lt_size e) I.ok.above))).trans e1⟩
    · obtain ⟨o', e1⟩ := I.base.there b o e hx
      exact ⟨o', (hs.2 b (Nat.ne_of_lt (Nat.lt_of_lt_of_le (Heap.lt_size e) I.ok.above))).trans e1⟩
    · by_cases hj : j = i
      · subst hj
        rw [hi] at e1; cases e1
        rw [List.getElem?_set_self hiσ] at e2
        cases e2
        exact ⟨u, r, .inl ⟨hk, by simp⟩⟩
      · rw [List.getElem?_set_ne (Ne.symm hj)] at e2
        obtain ⟨u', r', q⟩ := hl j y v' e1 e2 e3
        refine ⟨u', r', ?_⟩
        rcases q with ⟨k, e⟩ | ⟨k, c, e, z⟩
        · refine .inl ⟨k, ?_⟩
          have : y ≠ x := fun e => hj (nodup_ix hN e1 (e ▸ hi))
          simp [this, e]
        · exact .inr ⟨k, c, e, z.sameBut hs (cne y c e)⟩
    · obtain ⟨w', z⟩ := I.cell y c e
      exact ⟨w', z.sameBut hs (cne y c e)⟩
    · obtain ⟨e, n, ne, nf, d⟩ := I.pin p hp
      exact ⟨(hs.2 p.1 ne).trans e, n, ne, nf, d⟩
  · have hfn : X.fn x = true := by
      rcases hf with z | z
      · exact z
      · rw [z] at hk; cases hk
    obtain ⟨c, hc⟩ := I.ok.has x (.inl hk)
    obtain ⟨w', z⟩ := I.cell x c hc
    refine wpAny_storeName_cell I.ok.kind hk hc z (fun h' hc' hs => ?_)
    obtain ⟨oc, hoc, hocd⟩ := id z
    refine h { s with heap := h' } ⟨I.ok, I.os, I.bare, ⟨fun b o e n hb hx => ?_, fun b o e n hb hx => ?_, I.base.free, fun b o e hx => ?_, I.base.tups, I.base.frzs, I.base.tbls⟩, ⟨m, hn.sameBut hs (Ne.symm (cne x c hc)), fun j y v' e1 e2 e3 => ?_⟩, fun y c' e => ?_, I.free, I.freeC, fun p hp => ?_, tracked ⟨oc, hoc, I.freeC x c hc⟩ hs, by simpa using I.len⟩ ⟨c, hs, .inr hc⟩
    · exact (hs.2 b (Nat.ne_of_lt (Nat.lt_of_lt_of_le (Heap.lt_size e) (I.ok.cab x c hfn hc)))).trans (I.base.keep b o e n hb hx)
    · obtain ⟨sl, e1⟩ := I.base.slot b o e n hb hx
      exact ⟨sl, (hs.2 b (Nat.ne_of_lt (Nat.lt_of_lt_of_le (Heap.lt_size e) (I.ok.cab x c hfn hc)))).trans e1⟩
    · obtain ⟨o', e1⟩ := I.base.there b o e hx
      exact ⟨o', (hs.2 b (Nat.ne_of_lt (Nat.lt_of_lt_of_le (Heap.lt_size e) (I.ok.cab x c hfn hc)))).trans e1⟩
    · by_cases hj : j = i
      · subst hj
        rw [hi] at e1; cases e1
        rw [List.getElem?_set_self hiσ] at e2
        cases e2
        exact ⟨u, r, .inr ⟨.inl hk, c, hc, hc'⟩⟩
      · rw [List.getElem?_set_ne (Ne.symm hj)] at e2
        obtain ⟨u', r', q⟩ := hl j y v' e1 e2 e3
        refine ⟨u', r', ?_⟩
        rcases q with q | ⟨k, c', e, z'⟩
        · exact .inl q
        · refine .inr ⟨k, c', e, z'.sameBut hs ?_⟩
          rintro rfl
          exact hj (nodup_ix hN e1 (I.ok.inj _ _ _ e hc ▸ hi))
    · by_cases hcc : c' = c
      · subst hcc; exact ⟨_, hc'⟩
      · obtain ⟨w2, z2⟩ := I.cell y c' e
        exact ⟨w2, z2.sameBut hs hcc⟩
    · obtain ⟨e, n, ne, nf, d⟩ := I.pin p hp
      refine ⟨(hs.2 p.1 ?_).trans e, n, ne, nf, d⟩
      intro q
      rw [q, hoc] at e
      have q' : oc = p.2 := Option.some.inj e
      exact d w' (by rw [← q']; exact hocd)
private theorem store_ok {M : Model} {A : Around} {E : Value → Shared → Prop} {i : Nat} {x : Str} {v : V} {u : Value} {Q : Unit → Shared → Prop} (I : Inv X pins σ H s) (hN : X.N.Nodup) (hi : X.N[i]? = some x) (hx : Loc X.env.scope x) (r : RelV v u)
    (h : ∀ s', Inv X pins (σ.set i (some v)) H s' → Q () s') (hf : autoParam (X.fn x = true ∨ X.env.scope.names.lookup x = some .local) _root_.zt0) : wpAny M A (storeName X.env x u) Q E s :=
  store_ok2 I hN hi hx r (fun s' I' _ => h s' I') hf
private theorem Inv.call' {s' : Shared} {ch : List Addr} (I : Inv X pins σ H s) (ho : s'.os = s.os) (u : Un (frs X.stack) ch H H' s.heap s'.heap) (hok : HOk X.prog X.w H' s'.heap) (hg : AllBare s'.gens)
    (hch : ∀ b ∈ ch, (b ∈ X.ex ∨ X.s₀.heap.objs.size ≤ b) ∧ b ≠ X.env.locals ∧ (∀ x c, X.env.cells.lookup x = some c → c ≠ b) ∧ ∀ p ∈ X.pn ++ pins, p.1 ≠ b) : Inv X pins σ H' s' := by
  obtain ⟨h', g', d', t', o'⟩ := s'
  have e : o' = s.os := ho
  subst e
  exact I.call (g' := g') (t' := t') (d' := d') u hok hg hch
end

noncomputable abbrev XK := Value → Option Addr → Hp → Prop
noncomputable abbrev St := List (Option V)
noncomputable abbrev VK := V → Hp → Prop
noncomputable abbrev TE := St → Hp → VK → Prop
noncomputable abbrev TT := St → Hp → (Bool → Hp → Prop) → Prop
noncomputable abbrev TA := St → Hp → (List V → Hp → Prop) → Prop
structure Ends where
  nx : St → Hp → Prop
  rt : VK
  bk : St → Hp → Prop := fun _ _ => False
  ct : St → Hp → Prop := fun _ _ => False
noncomputable abbrev TS := Ends → St → Hp → Prop

noncomputable def EP (X : Cx) (pins : List (Addr × Obj)) (σ : St) (Q : VK) (u : Value) (s' : Shared) : Prop := ∃ v H', Inv X pins σ H' s' ∧ RelV v u ∧ Q v H'
noncomputable def TP (X : Cx) (pins : List (Addr × Obj)) (σ : St) (Q : Bool → Hp → Prop) (b : Bool) (s' : Shared) : Prop := ∃ H', Inv X pins σ H' s' ∧ Q b H'
noncomputable def AP (X : Cx) (pins : List (Addr × Obj)) (σ : St) (Q : List V → Hp → Prop) (us : List Value) (s' : Shared) : Prop := ∃ vs H', Inv X pins σ H' s' ∧ Vals vs us ∧ Q vs H'
noncomputable def SP (X : Cx) (pins : List (Addr × Obj)) (D : Ends) (f : Flow) (s' : Shared) : Prop :=
  match f with
  | .next => ∃ σ' H', Inv X pins σ' H' s' ∧ D.nx σ' H'
  | .brk => ∃ σ' H', Inv X pins σ' H' s' ∧ D.bk σ' H'
  | .cont => ∃ σ' H', Inv X pins σ' H' s' ∧ D.ct σ' H'
  | .ret u => ∃ v σ' H', Inv X pins σ' H' s' ∧ RelV v u ∧ D.rt v H'

noncomputable def PE (X : Cx) (e : Expr) (t : TE) : Prop :=
  ∀ (pins : List (Addr × Obj)) (s : Shared) (σ : St) (H : Hp) (Q : VK), Inv X pins σ H s → t σ H Q → wpAny (model X.prog X.w) X.A (eval e X.env) (EP X pins σ Q) X.xe s
noncomputable def PT (X : Cx) (e : Expr) (t : TT) : Prop :=
  ∀ (pins : List (Addr × Obj)) (s : Shared) (σ : St) (H : Hp) (Q : Bool → Hp → Prop), Inv X pins σ H s → t σ H Q → wpAny (model X.prog X.w) X.A (isTrue e X.env (eval e X.env)) (TP X pins σ Q) X.xe s
noncomputable def PW (X : Cx) (e : Expr) (t : TT) : Prop :=
  ∀ (whole : Sem Value) (pins : List (Addr × Obj)) (s : Shared) (σ : St) (H : Hp) (Q : Bool → Hp → Prop), Inv X pins σ H s → t σ H Q → wpAny (model X.prog X.w) X.A (isTrue e X.env whole) (TP X pins σ Q) X.xe s
private theorem PW.pt {X : Cx} {e : Expr} {t : TT} (h : PW X e t) : PT X e t := h _
noncomputable def PA (X : Cx) (es : List Expr) (t : TA) : Prop :=
  ∀ (pos : Pos) (pins : List (Addr × Obj)) (s : Shared) (σ : St) (H : Hp) (Q : List V → Hp → Prop), Inv X pins σ H s → t σ H Q → wpAny (model X.prog X.w) X.A (spliced (backTo pos (starEach es X.env))) (AP X pins σ Q) X.xe s
noncomputable def PS (X : Cx) (st : Stmt) (t : TS) : Prop :=
  ∀ (pins : List (Addr × Obj)) (s : Shared) (σ : St) (H : Hp) (D : Ends), Inv X pins σ H s → t D σ H → wpAny (model X.prog X.w) X.A (exec st X.env) (SP X pins D) X.xe s
noncomputable def PSs (X : Cx) (st : List Stmt) (t : TS) : Prop :=
  ∀ (pins : List (Addr × Obj)) (s : Shared) (σ : St) (H : Hp) (D : Ends), Inv X pins σ H s → t D σ H → wpAny (model X.prog X.w) X.A (execs st X.env) (SP X pins D) X.xe s
private theorem thn {α : Type} {t : Sem α} {Q Q' : α → Shared → Prop} {M : Model} {A : Around} {E : Value → Shared → Prop} {s : Shared} (h : wpAny M A t Q E s) (hQ : ∀ a s, Q a s → Q' a s) : wpAny M A t Q' E s := wpAny_mono h hQ fun _ _ x => x
end L2

namespace L2
open PySem PySem.Spec PyProof.Rows
section
variable {X : Cx}

noncomputable def tVar (i : Nat) : TE := fun σ H Q => ∃ v, σ[i]? = some (some v) ∧ Q v H
noncomputable def tC (v : V) : TE := fun _ H Q => Q v H
private theorem pe_var {i : Nat} {x : Str} {pos : Pos} (hN : X.N[i]? = some x) (hv : Vis X.env.scope x) (hd : autoParam ((x == ("__debug__" : Str)) = false) _root_.zt1) (hcd : autoParam ((x == ("__classdict__" : Str)) = false) _root_.zt1) : PE X (.Name x pos) (tVar i) := by
  intro pins s σ H Q I h
  obtain ⟨v, e, h⟩ := h
  obtain ⟨m, hn, hl⟩ := I.loc
  obtain ⟨u, r, l⟩ := hl i x v hN e hv
  have fin : EP X pins σ Q u s := ⟨v, H, I, r, h⟩
  rcases l with ⟨hk, hm⟩ | ⟨hk, c, hc, hcell⟩
  · exact wpAny_Name (wpAny_loadName_local I.ok.kind hk hn hm fin) hd
  · rcases hk with hk | hk
    · exact wpAny_Name (wpAny_loadName_cell I.ok.kind hk hc hcell fin) hd
    · exact wpAny_Name (wpAny_loadName_free I.ok.kind hk hc hcell fin hcd) hd
private theorem pe_int {i j pos} : PE X (.Constant (.int i) j pos) (tC (.int i)) := fun _ _ _ H _ I h => wpAny_Constant_int ⟨.int i, H, I.tok _, ⟨_, rfl⟩, h⟩
private theorem pe_bl {b j pos} : PE X (.Constant (.bool b) j pos) (tC (.bl b)) := fun _ _ _ H _ I h => Constant_bool ⟨.bl b, H, I, rfl, h⟩
private theorem pe_non {j pos} : PE X (.Constant .none j pos) (tC .non) := fun _ _ _ H _ I h => Constant_none ⟨.non, H, I, rfl, h⟩
private theorem pe_str {x j pos} : PE X (.Constant (.str x) j pos) (tC (.str x)) := fun _ _ _ H _ I h => Calls.Constant_str ⟨.str x, H, I.tok _, ⟨_, rfl⟩, h⟩

noncomputable def Gl (X : Cx) (x : Str) : Prop := X.env.kindOf x = some .globalImplicit
private theorem ld_glob {E : Value → Shared → Prop} {pins : List (Addr × Obj)} {s : Shared} {σ : St} {H : Hp} {x : Str} {u : Value} {pos : Pos} {Q : Value → Shared → Prop} (I : Inv X pins σ H s) (hg : Gl X x) (hm : X.mg x = some u) (h : Q u s)
    (hd : autoParam ((x == ("__debug__" : Str)) = false) _root_.zt1) : wpAny (model X.prog X.w) X.A (eval (.Name x pos) X.env) Q E s :=
  Calls.Name_function_global I.ok.kind hg (Calls.loadGlobal_global (by rw [I.ok.glob]; exact I.mod.glob.keeps I.bk) hm h) hd
private theorem ld_blt {E : Value → Shared → Prop} {pins : List (Addr × Obj)} {s : Shared} {σ : St} {H : Hp} {x : Str} {u : Value} {pos : Pos} {Q : Value → Shared → Prop} (I : Inv X pins σ H s) (hg : Gl X x) (hm : X.mg x = none) (hv : bootBuiltins x = some u) (h : Q u s)
    (hn : autoParam (x ≠ "__name__") _root_.zt1) (hd : autoParam ((x == ("__debug__" : Str)) = false) _root_.zt1) : wpAny (model X.prog X.w) X.A (eval (.Name x pos) X.env) Q E s := by
  obtain ⟨mb, h1, h2⟩ := I.mod.blt
  exact Calls.Name_function_global I.ok.kind hg (Calls.loadGlobal_builtin (by rw [I.ok.glob]; exact I.mod.glob.keeps I.bk) hm (by rw [I.ok.blt]; exact h1.keeps I.bk) ((h2 x hn).trans hv) h) hd
private theorem pe_glob {x : Str} {v : V} {u : Value} {pos : Pos} (hg : Gl X x) (hm : X.mg x = some u) (r : RelV v u) (hd : autoParam ((x == ("__debug__" : Str)) = false) _root_.zt1) : PE X (.Name x pos) (tC v) :=
  fun _ _ _ H _ I h => ld_glob I hg hm ⟨v, H, I, r, h⟩ hd
private theorem pe_bltn {x : Str} {v : V} {u : Value} {pos : Pos} (hg : Gl X x) (hm : X.mg x = none) (hv : bootBuiltins x = some u) (r : RelV v u) (hn : autoParam (x ≠ "__name__") _root_.zt1) (hd : autoParam ((x == ("__debug__" : Str)) = false) _root_.zt1) : PE X (.Name x pos) (tC v) :=
  fun _ _ _ H _ I h => ld_blt I hg hm hv ⟨v, H, I, r, h⟩ hn hd

variable {a b : Expr} {ta tb : TE} {pos : Pos}
variable {tA tB' : TT} {rest : List Expr}
noncomputable def tAnd (t u : TT) : TT := fun σ H Q => t σ H fun c H1 => if c = true then u σ H1 Q else Q false H1
noncomputable def tOr (t u : TT) : TT := fun σ H Q => t σ H fun c H1 => if c = true then Q true H1 else u σ H1 Q
noncomputable def tNot (t : TT) : TT := fun σ H Q => t σ H fun c H1 => Q (!c) H1
private theorem pw_and1 (ha : PT X a tA) : PW X (.BoolOp .And [a] pos) tA := by
  intro wh pins s σ H Q I h
  refine isTrue_and (thn (ha pins s σ H Q I h) fun c s1 e => ?_)
  cases c with
  | true => exact isTrue_and_nil e
  | false => exact e
private theorem pw_or1 (ha : PT X a tA) : PW X (.BoolOp .Or [a] pos) tA := by
  intro wh pins s σ H Q I h
  refine isTrue_or (thn (ha pins s σ H Q I h) fun c s1 e => ?_)
  cases c with
  | false => exact isTrue_or_nil e
  | true => exact e
private theorem pw_and (ha : PT X a tA) (hb : PW X (.BoolOp .And (b :: rest) pos) tB') : PW X (.BoolOp .And (a :: b :: rest) pos) (tAnd tA tB') := by
  intro wh pins s σ H Q I h
  refine isTrue_and (thn (ha pins s σ H _ I h) fun c s1 zq9 => ?_)
  obtain ⟨H1, I1, q1⟩ := zq9
  cases c with
  | true => exact hb wh pins s1 σ H1 Q I1 q1
  | false => exact ⟨H1, I1, q1⟩
private theorem pw_or (ha : PT X a tA) (hb : PW X (.BoolOp .Or (b :: rest) pos) tB') : PW X (.BoolOp .Or (a :: b :: rest) pos) (tOr tA tB') := by
  intro wh pins s σ H Q I h
  refine isTrue_or (thn (ha pins s σ H _ I h) fun c s1 zq9 => ?_)
  obtain ⟨H1, I1, q1⟩ := zq9
  cases c with
  | true => exact ⟨H1, I1, q1⟩
  | false => exact hb wh pins s1 σ H1 Q I1 q1
private theorem pt_not (ha : PT X a tA) : PT X (.UnaryOp .Not a pos) (tNot tA) := by
  intro pins s σ H Q I h
  exact isTrue_not (ha pins s σ H (fun c H1 => Q (!c) H1) I h)
noncomputable def tAndV (ta tb : TE) : TE := fun σ H Q => ta σ H fun x H1 => ∃ c, x = .bl c ∧ if c = true then tb σ H1 Q else Q (.bl false) H1
noncomputable def tOrV (ta tb : TE) : TE := fun σ H Q => ta σ H fun x H1 => ∃ c, x = .bl c ∧ if c = true then Q (.bl true) H1 else tb σ H1 Q
private theorem pe_one {op} {t : TE} (h : PE X a t) : PE X (.BoolOp op [a] pos) t := fun pins s σ H Q I hw => BoolOp_one (h pins s σ H Q I hw)
private theorem pe_and (ha : PE X a ta) (hb : PE X (.BoolOp .And (b :: rest) pos) tb) : PE X (.BoolOp .And (a :: b :: rest) pos) (tAndV ta tb) := by
  intro pins s σ H Q I h
  refine BoolOp_and (thn (ha pins s σ H _ I h) fun v s1 zq9 => ?_)
  obtain ⟨x, H1, I1, r1, q1⟩ := zq9
  obtain ⟨c, rfl, q1⟩ := q1
  cases r1
  refine wpAny_truthy_bool ?_
  cases c with
  | true => exact hb pins s1 σ H1 Q I1 q1
  | false => exact ⟨.bl false, H1, I1, rfl, q1⟩
private theorem pe_or (ha : PE X a ta) (hb : PE X (.BoolOp .Or (b :: rest) pos) tb) : PE X (.BoolOp .Or (a :: b :: rest) pos) (tOrV ta tb) := by
  intro pins s σ H Q I h
  refine BoolOp_or (thn (ha pins s σ H _ I h) fun v s1 zq9 => ?_)
  obtain ⟨x, H1, I1, r1, q1⟩ := zq9
  obtain ⟨c, rfl, q1⟩ := q1
  cases r1
  refine wpAny_truthy_bool ?_
  cases c with
  | false => exact hb pins s1 σ H1 Q I1 q1
  | true => exact ⟨.bl true, H1, I1, rfl, q1⟩
noncomputable def tIf (t : TT) (ta tb : TE) : TE := fun σ H Q => t σ H fun c H1 => if c = true then ta σ H1 Q else tb σ H1 Q
private theorem pe_ifExp {c : Expr} (hc : PT X c tA) (ha : PE X a ta) (hb : PE X b tb) : PE X (.IfExp c a b pos) (tIf tA ta tb) := by
  intro pins s σ H Q I h
  refine wpAny_IfExp (thn (hc pins s σ H _ I h) fun d s1 zq9 => ?_)
  obtain ⟨H1, I1, q1⟩ := zq9
  cases d with
  | true => exact ha pins s1 σ H1 Q I1 q1
  | false => exact hb pins s1 σ H1 Q I1 q1
end
end L2

namespace L2
open PySem PySem.Spec PyProof.Rows

noncomputable def SqL (K : PySem.W.Frag) (H : Hp) (a : Addr) (xs : List V) : Prop :=
  Rd H a (.lst xs) ∨
    ∃ (o : Obj) (its : Array Value) (n : Nat), K.lookup a = some o ∧ o.cls = .type "list" ∧ o.dict = none ∧ o.data = .seq its n ∧ its.size ≤ sizeLine ∧ Vals xs its.toList
noncomputable def SqT (K : PySem.W.Frag) (H : Hp) (a : Addr) (xs : List V) : Prop :=
  Rd H a (.tup xs) ∨
    ∃ (o : Obj) (its : Array Value) (n : Nat), K.lookup a = some o ∧ o.cls = .type "tuple" ∧ o.data = .seq its n ∧ its.size ≤ sizeLine ∧ Vals xs its.toList
noncomputable def absV : Value → Option V
  | .none => some .non
  | .bool b => some (.bl b)
  | .int i _ => some (.int i)
  | .str x _ => some (.str x)
  | .bytes b _ => some (.byt b)
  | .float b _ => some (.flt b)
  | .ref a => some (.ref a)
  | .type n => some (.ty n)
  | _ => none
private theorem RelV.abs {x : V} {u : Value} (r : RelV x u) : absV u = some x := by
  cases x with
  | non => cases r; rfl
  | bl _ => cases r; rfl
  | int _ => obtain ⟨t, rfl⟩ := r; rfl
  | str _ => obtain ⟨t, rfl⟩ := r; rfl
  | byt _ => obtain ⟨t, rfl⟩ := r; rfl
  | flt _ => obtain ⟨t, rfl⟩ := r; rfl
  | ref _ => cases r; rfl
  | ty _ => cases r; rfl
private theorem RelV.inj {x y : V} {u : Value} (r : RelV x u) (q : RelV y u) : x = y := Option.some.inj (r.abs.symm.trans q.abs)
private theorem Vals.inj {xs ys : List V} {us : List Value} (h : Vals xs us) (k : Vals ys us) : xs = ys := by
  induction h generalizing ys with
  | nil => cases k; rfl
  | cons r t ih =>
    cases k with
    | cons r' t' => rw [r.inj r', ih t']
section
variable {X : Cx} {pins : List (Addr × Obj)} {σ : St} {H : Hp} {s : Shared} {a : Addr} {xs ys : List V}
private theorem SqL.of {K : PySem.W.Frag} (h : H a = some (.lst xs)) : SqL K H a xs := .inl (.inl h)
private theorem SqT.of {K : PySem.W.Frag} (h : H a = some (.tup xs)) : SqT K H a xs := .inl (.inl h)
private theorem Inv.list (I : Inv X pins σ H s) (h : SqL X.K H a xs) : ∃ its : List Value, Vals xs its ∧ PlainL s.heap a its.toArray ∧ xs.length ≤ sizeLine := by
  rcases h with h | ⟨o, its, n, hk, hc, hd, hs, hz, r⟩
  · obtain ⟨z, its, n, r, e⟩ := h.ok I.hok
    exact ⟨its, r, ⟨_, n, e, rfl, rfl, rfl⟩, z⟩
  · refine ⟨its.toList, r, ⟨o, n, I.kIn a o hk, hc, hd, by simpa using hs⟩, ?_⟩
    have e := r.length
    simp only [Array.length_toList] at e
    omega
private theorem Inv.tuple (I : Inv X pins σ H s) (h : SqT X.K H a xs) : ∃ its : List Value, Vals xs its ∧ IsTup s.heap a its.toArray ∧ xs.length ≤ sizeLine := by
  rcases h with h | ⟨o, its, n, hk, hc, hs, hz, r⟩
  · obtain ⟨z, its, r, p⟩ := h.ok I.hok
    exact ⟨its, r, p, z⟩
  · refine ⟨its.toList, r, ⟨o, I.kIn a o hk, hc, n, by simpa using hs⟩, ?_⟩
    have e := r.length
    simp only [Array.length_toList] at e
    omega
private theorem Inv.list_inj (I : Inv X pins σ H s) (h : SqL X.K H a xs) (h' : SqL X.K H a ys) : xs = ys := by
  obtain ⟨its, r, ⟨o, n, e, _, _, d⟩, _⟩ := I.list h
  obtain ⟨its', r', ⟨o', n', e', _, _, d'⟩, _⟩ := I.list h'
  rw [e] at e'; cases e'
  rw [d] at d'
  injection d' with d1 _
  have : its = its' := by simpa using congrArg Array.toList d1
  subst this
  exact r.inj r'
private theorem Inv.tuple_inj (I : Inv X pins σ H s) (h : SqT X.K H a xs) (h' : SqT X.K H a ys) : xs = ys := by
  obtain ⟨its, r, ⟨o, e, _, n, d⟩, _⟩ := I.tuple h
  obtain ⟨its', r', ⟨o', e', _, n', d'⟩, _⟩ := I.tuple h'
  rw [e] at e'; cases e'
  rw [d] at d'
  injection d' with d1 _
  have : its = its' := by simpa using congrArg Array.toList d1
  subst this
  exact r.inj r'
end

noncomputable abbrev Cx.wish (X : Cx) (E : Value → Shared → Prop) : Cx := { X with xe := E }
noncomputable abbrev Cx.nox (X : Cx) : Cx := X.wish fun _ _ => False
private theorem Cx.Ok.wish {X : Cx} (ok : X.Ok) (E : Value → Shared → Prop) : (X.wish E).Ok :=
  ⟨ok.mod, ok.kind, ok.glob, ok.blt, ok.above, ok.inj, ok.has, ok.cab, ok.hd, ok.frames, ok.stk, ok.exf, ok.bs, ok.bsz, ok.noex, ok.exfs, ok.funs, ok.frf⟩
private theorem Cx.Ok.unwish {X : Cx} {E : Value → Shared → Prop} (ok : (X.wish E).Ok) : X.Ok :=
  ⟨ok.mod, ok.kind, ok.glob, ok.blt, ok.above, ok.inj, ok.has, ok.cab, ok.hd, ok.frames, ok.stk, ok.exf, ok.bs, ok.bsz, ok.noex, ok.exfs, ok.funs, ok.frf⟩
section
variable {X : Cx} {pins : List (Addr × Obj)} {σ : St} {H : Hp} {s : Shared} {E : Value → Shared → Prop}
private theorem Inv.wish (I : Inv X pins σ H s) (E : Value → Shared → Prop) : Inv (X.wish E) pins σ H s := ⟨I.ok.wish E, I.os, I.bare, I.base, I.loc, I.cell, I.free, I.freeC, I.pin, I.hok, I.len⟩
private theorem Inv.unwish (I : Inv (X.wish E) pins σ H s) : Inv X pins σ H s := ⟨I.ok.unwish, I.os, I.bare, I.base, I.loc, I.cell, I.free, I.freeC, I.pin, I.hok, I.len⟩
private theorem SP.unwish {D : Ends} {f : Flow} {s' : Shared} (h : SP (X.wish E) pins D f s') : SP X pins D f s' := by
  cases f with
  | next => obtain ⟨σ', H', I, q⟩ := h; exact ⟨σ', H', I.unwish, q⟩
  | brk => obtain ⟨σ', H', I, q⟩ := h; exact ⟨σ', H', I.unwish, q⟩
  | cont => obtain ⟨σ', H', I, q⟩ := h; exact ⟨σ', H', I.unwish, q⟩
  | ret u => obtain ⟨v, σ', H', I, r, q⟩ := h; exact ⟨v, σ', H', I.unwish, r, q⟩
private theorem PE.nox {e : Expr} {t : TE} (h : PE X.nox e t) : PE X e t := fun pins s σ H Q I hw =>
  wpAny_mono (h pins s σ H Q (I.wish _) hw) (fun _ _ ⟨v, H', I', r, q⟩ => ⟨v, H', I'.unwish, r, q⟩) fun _ _ z => False.elim z
private theorem PT.nox {e : Expr} {t : TT} (h : PT X.nox e t) : PT X e t := fun pins s σ H Q I hw =>
  wpAny_mono (h pins s σ H Q (I.wish _) hw) (fun _ _ ⟨H', I', q⟩ => ⟨H', I'.unwish, q⟩) fun _ _ z => False.elim z
private theorem PSs.nox {st : List Stmt} {t : TS} (h : PSs X.nox st t) : PSs X st t := fun pins s σ H D I hw =>
  wpAny_mono (h pins s σ H D (I.wish _) hw) (fun _ _ q => q.unwish) fun _ _ z => False.elim z
end

section
variable {X : Cx} {st : Stmt} {rest : List Stmt} {t u : TS} {e : Expr} {te : TE} {pos : Pos}
noncomputable def tNext : TS := fun D σ H => D.nx σ H
noncomputable def tSeq (t u : TS) : TS := fun D σ H => t { D with nx := u D } σ H
private theorem pss_nil : PSs X [] tNext := fun _ _ σ H _ I h => wpAny_execs_nil ⟨σ, H, I, h⟩
private theorem pss_cons (h1 : PS X st t) (h2 : PSs X rest u) : PSs X (st :: rest) (tSeq t u) := by
  intro pins s σ H D I h
  refine wpAny_execs_cons (thn (h1 pins s σ H { D with nx := u D } I h) fun f s1 q => ?_)
  cases f with
  | next =>
    obtain ⟨σ', H', I', q⟩ := q
    exact h2 pins s1 σ' H' D I' q
  | ret v => exact q
  | brk => exact q
  | cont => exact q
private theorem pss_one (h1 : PS X st t) : PSs X [st] t := by
  intro pins s σ H D I h
  refine wpAny_execs_cons (thn (h1 pins s σ H D I h) fun f s1 q => ?_)
  cases f with
  | next => exact wpAny_execs_nil q
  | ret v => exact q
  | brk => exact q
  | cont => exact q
private theorem Inv.quiet {pins : List (Addr × Obj)} {σ : St} {H : Hp} {s : Shared} (I : Inv X pins σ H s) : interactive X.env = false := by simp [interactive, I.ok.kind]
noncomputable def tDrop (te : TE) : TS := fun D σ H => te σ H fun _ H1 => D.nx σ H1
private theorem ps_expr (he : PE X e te) (hs : autoParam (swapsWith e none pos.line X.env = pure false) _root_.zt2) : PS X (.Expr e pos) (tDrop te) := by
  intro pins s σ H D I h
  exact wpAny_Expr_any (thn (he pins s σ H _ I h) fun v s1 ⟨x, H1, I1, r1, q1⟩ => ⟨σ, H1, I1, q1⟩) I.quiet hs
noncomputable def tRet (te : TE) : TS := fun D σ H => te σ H D.rt
private theorem ps_ret (he : PE X e te) : PS X (.Return (some e) pos) (tRet te) := by
  intro pins s σ H D I h
  exact wpAny_Return_some (thn (he pins s σ H _ I h) fun v s1 ⟨x, H1, I1, r1, q1⟩ => ⟨x, σ, H1, I1, r1, q1⟩)
noncomputable def tIfS (c : TT) (t u : TS) : TS := fun D σ H => c σ H fun b H1 => if b = true then t D σ H1 else u D σ H1
private theorem ps_if {c : Expr} {a b : List Stmt} {tc : TT} (hc : PT X c tc) (ha : PSs X a t) (hb : PSs X b u) : PS X (.If c a b pos) (tIfS tc t u) := by
  intro pins s σ H D I h
  refine wpAny_If (thn (hc pins s σ H _ I h) fun d s1 zq9 => ?_)
  obtain ⟨H1, I1, q1⟩ := zq9
  cases d with
  | true => exact ha pins s1 σ H1 D I1 q1
  | false => exact hb pins s1 σ H1 D I1 q1
end

noncomputable abbrev TG := V → St → Hp → (St → Hp → Prop) → Prop
noncomputable abbrev TGs := List V → St → Hp → (St → Hp → Prop) → Prop
noncomputable def PG (X : Cx) (target : Expr) (t : TG) : Prop :=
  ∀ (pins : List (Addr × Obj)) (s : Shared) (σ : St) (H : Hp) (v : V) (u : Value) (Q : St → Hp → Prop), Inv X pins σ H s → RelV v u → t v σ H Q →
    wpAny (model X.prog X.w) X.A (assign target X.env u) (fun _ s' => ∃ σ' H', Inv X pins σ' H' s' ∧ Q σ' H') X.xe s
noncomputable def PGs (X : Cx) (ts : List Expr) (t : TGs) : Prop :=
  ∀ (pins : List (Addr × Obj)) (s : Shared) (σ : St) (H : Hp) (vs : List V) (us : List Value) (Q : St → Hp → Prop), Inv X pins σ H s → Vals vs us → t vs σ H Q →
    wpAny (model X.prog X.w) X.A (assignInOrder ((assignEach ts X.env).map (·.2)) us) (fun _ s' => ∃ σ' H', Inv X pins σ' H' s' ∧ Q σ' H') X.xe s
noncomputable abbrev TSet := V → V → V → Hp → (Hp → Prop) → Prop
noncomputable def PSet (X : Cx) (t : TSet) : Prop :=
  ∀ (pins : List (Addr × Obj)) (s : Shared) (σ : St) (H : Hp) (o i v : V) (ov iv u : Value) (Q : Hp → Prop), Inv X pins σ H s → RelV o ov → RelV i iv → RelV v u → t o i v H Q →
    wpAny (model X.prog X.w) X.A (setItem ov iv u) (fun _ s' => ∃ H', Inv X pins σ H' s' ∧ Q H') X.xe s
section
variable {X : Cx} {pos : Pos}
noncomputable def gName (i : Nat) : TG := fun v σ H Q => Q (σ.set i (some v)) H
private theorem pg_name {i : Nat} {x : Str} (hN : X.N.Nodup) (hi : X.N[i]? = some x) (hx : Loc X.env.scope x) (hf : autoParam (X.fn x = true ∨ X.env.scope.names.lookup x = some .local) _root_.zt0) : PG X (.Name x pos) (gName i) := by
  intro pins s σ H v u Q I r h
  exact wpAny_assign_Name (store_ok I hN hi hx r (fun s' I' => ⟨_, H, I', h⟩) hf)
noncomputable def gNil : TGs := fun vs σ H Q => vs = [] ∧ Q σ H
noncomputable def gCons (t : TG) (u : TGs) : TGs := fun vs σ H Q => ∃ v r, vs = v :: r ∧ t v σ H fun σ' H' => u r σ' H' Q
private theorem pgs_nil : PGs X [] gNil := by
  intro pins s σ H vs us Q I r h
  obtain ⟨e, h⟩ := h
  subst e
  cases r
  exact assignInOrder_nil ⟨σ, H, I, h⟩
private theorem pgs_cons {e : Expr} {es : List Expr} {t : TG} {u : TGs} (h1 : PG X e t) (h2 : PGs X es u)
    (hs : autoParam ((assignEach (e :: es) X.env).map (·.2) = assign e X.env :: (assignEach es X.env).map (·.2)) _root_.zt2) : PGs X (e :: es) (gCons t u) := by
  intro pins s σ H vs us Q I r h
  obtain ⟨v, vr, e1, h⟩ := h
  subst e1
  cases r with
  | cons r rr =>
    rw [hs]
    refine assignInOrder_cons (thn (h1 pins s σ H _ _ _ I r h) fun _ s1 zq9 => ?_)
    obtain ⟨σ1, H1, I1, q1⟩ := zq9
    exact h2 pins s1 σ1 H1 _ _ Q I1 rr q1
noncomputable def gTup (K : PySem.W.Frag) (n : Nat) (t : TGs) : TG := fun v σ H Q => ∃ a xs, v = .ref a ∧ SqT K H a xs ∧ xs.length = n ∧ t xs σ H Q
private theorem pg_tup {es : List Expr} {k : Nat} {t : TGs} {n : Nat} (hc : X.calm = true) (h : PGs X es t)
    (hn : autoParam ((assignEach es X.env).length = n) _root_.zt2) (hst : autoParam ((assignEach es X.env).findIdx? (·.1) = none) _root_.zt2) : PG X (.Tuple es k pos) (gTup X.K n t) := by
  intro pins s σ H v u Q I r hw
  obtain ⟨a, xs, e1, hq, hl, hw⟩ := hw
  subst e1
  cases r
  obtain ⟨its, rv, ht, hz⟩ := I.tuple hq
  refine assign_Tuple_tuple (I.ok.hd hc) ht (by simp [hn, ← hl, rv.length]) hst fun h' hx => ?_
  have I1 : Inv X pins σ H { s with heap := h' } := I.kept (t' := s.toks) fun b o e => hx b o (Nat.ne_of_lt (Heap.lt_size e)) e
  exact h pins _ σ H xs _ Q I1 (by simpa using rv) hw
noncomputable def gSub (to ti : TE) (t : TSet) : TG := fun v σ H Q => to σ H fun o H1 => ti σ H1 fun i H2 => t o i v H2 fun H3 => Q σ H3
private theorem pg_sub {o i : Expr} {to ti : TE} {t : TSet} (ho : PE X o to) (hi : PE X i ti) (hs : PSet X t)
    (ha : autoParam (∀ v, assign (.Subscript o i pos) X.env v = (do
      let ov ← holding [v] (eval o X.env)
      let iv ← holding [v, ov] (eval i X.env)
      standAt pos
      holding [v, ov, iv] (setItem ov iv v)
      release [v, ov, iv] [])) _root_.zt3) : PG X (.Subscript o i pos) (gSub to ti t) := by
  intro pins s σ H v u Q I r h
  rw [ha]
  refine wpAny_bind (wpAny_holding (thn (ho pins s σ H _ I h) fun ov s1 zq9 => ?_))
  obtain ⟨x, H1, I1, r1, q1⟩ := zq9
  refine wpAny_bind (wpAny_holding (thn (hi pins s1 σ H1 _ I1 q1) fun iv s2 zq9 => ?_))
  obtain ⟨y, H2, I2, r2, q2⟩ := zq9
  refine wpAny_bind (wpAny_standAt (wpAny_bind (wpAny_holding (thn (hs pins s2 σ H2 x y v ov iv u _ I2 r1 r2 r q2) fun _ s3 zq9 => ?_))))
  obtain ⟨H3, I3, q3⟩ := zq9
  exact wpAny_release ⟨σ, H3, I3, q3⟩
noncomputable def tAsg (te : TE) (g : TG) : TS := fun D σ H => te σ H fun x H1 => g x σ H1 D.nx
private theorem ps_asg {tg e : Expr} {te : TE} {g : TG} (he : PE X e te) (hg : PG X tg g) (hs : autoParam (swapsWithSole [tg] e pos.line X.env = pure false) _root_.zt2) (hw : autoParam (swappedStores [tg] e X.env = pure none) _root_.zt2)
    (h1 : autoParam ((assignEach [tg] X.env).map (·.2) = [assign tg X.env]) _root_.zt2) : PS X (.Assign [tg] e pos) (tAsg te g) := by
  intro pins s σ H D I h
  refine wpAny_Assign_stores (thn (he pins s σ H _ I h) fun v s1 zq9 => ?_) hs hw
  obtain ⟨x, H1, I1, r1, q1⟩ := zq9
  rw [h1]
  exact thn (hg pins s1 σ H1 x v _ I1 r1 q1) fun _ s2 q => q
private theorem ps_set {i : Nat} {x : Str} {e : Expr} {te : TE} {pos' : Pos} (hN : X.N.Nodup) (hi : X.N[i]? = some x) (hx : Loc X.env.scope x) (he : PE X e te) (hs : autoParam (swapsWith e (some (.Name x pos')) pos.line X.env = pure false) _root_.zt2) (hf : autoParam (X.fn x = true ∨ X.env.scope.names.lookup x = some .local) _root_.zt0) :
    PS X (.Assign [.Name x pos'] e pos) (tAsg te (gName i)) := by
  intro pins s σ H D I h
  refine wpAny_Assign_Name (thn (he pins s σ H _ I h) fun v s1 zq9 => ?_) hs
  obtain ⟨y, H1, I1, r1, q1⟩ := zq9
  exact store_ok I1 hN hi hx r1 (fun s2 I2 => ⟨_, H1, I2, q1⟩) hf
end

section
variable {X : Cx} {pos : Pos}
end

structure It where
  go : Nat → Hp → Prop
  yld : Nat → Hp → V → Hp → Prop
  stop : Nat → Hp → Prop
noncomputable def FpOk (X : Cx) (pins : List (Addr × Obj)) (H : Hp) (b : Addr) : Prop :=
  H b = none ∧ b ≠ X.env.locals ∧ b ∉ X.fs ∧ (b ∈ X.ex ∨ X.s₀.heap.objs.size ≤ b) ∧ (∀ x c, X.env.cells.lookup x = some c → c ≠ b) ∧ ∀ p ∈ X.pn ++ pins, p.1 ≠ b
private theorem Inv.fpOk {X : Cx} {pins : List (Addr × Obj)} {σ : St} {H H' : Hp} {s : Shared} {b : Addr} (I : Inv X pins σ H s) (hb : s.heap.objs.size ≤ b) (hn : H' b = none) : FpOk X pins H' b := by
  refine ⟨hn, Nat.ne_of_gt (Nat.lt_of_lt_of_le I.lt hb), I.nofs hb, .inr (Nat.le_trans I.sz hb), fun x c e z => ?_, fun p hp z => ?_⟩
  · obtain ⟨v, q⟩ := I.cell x c e
    exact absurd (Nat.lt_of_lt_of_le q.lt (by rw [z]; exact hb)) (Nat.lt_irrefl _)
  · exact absurd (Nat.lt_of_lt_of_le (Heap.lt_size (I.pin p hp).1) (by rw [z]; exact hb)) (Nat.lt_irrefl _)
structure Turn (P : Program) (w : World) (K : PySem.W.Frag) (tg : Expr) (J : It) (fp : List Addr) (it : Addr) (tn : Nat → Heap → Prop) : Prop where
  mem : it ∈ fp
  obj : ∀ i h, tn i h → ∀ b ∈ fp, ∃ o, h.get? b = some o ∧ ∀ v, o.data ≠ .cell v
  keep : ∀ i h h', tn i h → (∀ b ∈ fp, ∀ o, h.get? b = some o → h'.get? b = some o) → tn i h'
  item : ∀ (X : Cx), X.prog = P → X.w = w → X.K = K → X.calm = true → ∀ (i : Nat) (pins : List (Addr × Obj)) (s : Shared) (σ : St) (H : Hp) (E : Value → Shared → Prop), Inv X pins σ H s → (∀ b ∈ fp, FpOk X pins H b) → tn i s.heap → J.go i H →
    wpAny (model P w) X.A (pyNext (.ref it)) (fun r s1 => ∃ u, r = some u ∧
      wpAny (model P w) X.A (letOwnedTupleGo tg (.ref it) u) (fun _ s2 => ∃ x H', Inv X pins σ H' s2 ∧ RelV x u ∧ J.yld i H x H' ∧ tn (i + 1) s2.heap ∧ ∀ b ∈ fp, H' b = none) E s1) E s
  done : ∀ (X : Cx), X.prog = P → X.w = w → X.K = K → X.calm = true → ∀ (i : Nat) (pins : List (Addr × Obj)) (s : Shared) (σ : St) (H : Hp) (E : Value → Shared → Prop), Inv X pins σ H s → (∀ b ∈ fp, FpOk X pins H b) → tn i s.heap → J.stop i H →
    wpAny (model P w) X.A (pyNext (.ref it)) (fun r s1 => r = none ∧ Inv X pins σ H s1) E s
  self : ∀ (A : Around) (i : Nat) (s : Shared) (Q : Value → Shared → Prop) (E : Value → Shared → Prop), tn i s.heap → Q (.ref it) s → wpAny (model P w) A (pyIter (.ref it)) Q E s
noncomputable abbrev TI := St → Hp → (It → Hp → Prop) → Prop
noncomputable def PIE (X : Cx) (pins : List (Addr × Obj)) (σ : St) (tg : Expr) (R : It → Hp → Prop) (itv : Value) (s2 : Shared) : Prop :=
  ∃ (it : Addr) (fp : List Addr) (tn : Nat → Heap → Prop) (J : It) (H' : Hp), itv = .ref it ∧ Inv X pins σ H' s2 ∧ Turn X.prog X.w X.K tg J fp it tn ∧ tn 0 s2.heap ∧ (∀ b ∈ fp, FpOk X pins H' b) ∧ R J H'
noncomputable def PI (X : Cx) (tg iter : Expr) (wi : TI) : Prop :=
  ∀ (pins : List (Addr × Obj)) (s : Shared) (σ : St) (H : Hp) (R : It → Hp → Prop), Inv X pins σ H s → wi σ H R →
    wpAny (model X.prog X.w) X.A (eval iter X.env) (fun v s1 => wpAny (model X.prog X.w) X.A (pyIter v) (PIE X pins σ tg R) X.xe s1) X.xe s

private theorem go_of {M : Model} {A : Around} {E : Value → Shared → Prop} {s : Shared} {tg : Expr} {it : Addr} {u : Value} {o : Obj} {n : String} {vs : Array Value} {Q : Unit → Shared → Prop} (ho : s.heap.get? it = some o) (hc : o.cls = .type n) (hd : o.data = .fields vs)
    (hn : ["enumerate", "zip", "dict_itemiterator", "dict_reverseitemiterator", "odict_iterator", "itertools.zip_longest", "itertools.pairwise"].contains n = false) (hQ : Q () s) : wpAny M A (letOwnedTupleGo tg (.ref it) u) Q E s := by
  unfold letOwnedTupleGo
  cases tg <;> first
    | exact wpAny_pure hQ
    | (cases u <;> first
        | exact wpAny_pure hQ
        | (refine wpAny_bind (wpAny_load ho ?_)
           rw [hc, hd]
           show wpAny M A (if (["enumerate", "zip", "dict_itemiterator", "dict_reverseitemiterator", "odict_iterator", "itertools.zip_longest", "itertools.pairwise"].contains n && vs[0]? == some (rawInt _)) = true then _ else _) Q E s
           rw [if_neg (by intro h; rw [hn, Bool.false_and] at h; cases h)]
           exact wpAny_pure hQ))

noncomputable def Itl (K : PySem.W.Frag) (a : Addr) : It :=
  ⟨fun i H => ∃ xs x, SqL K H a xs ∧ xs[i]? = some x, fun i H x H' => H' = H ∧ ∀ xs, SqL K H a xs → xs[i]? = some x, fun i H => ∃ xs, SqL K H a xs ∧ xs.length ≤ i⟩
noncomputable def Itt (K : PySem.W.Frag) (a : Addr) : It :=
  ⟨fun i H => ∃ xs x, SqT K H a xs ∧ xs[i]? = some x, fun i H x H' => H' = H ∧ ∀ xs, SqT K H a xs → xs[i]? = some x, fun i H => ∃ xs, SqT K H a xs ∧ xs.length ≤ i⟩
noncomputable def Itr (lo : Int) (n : Nat) : It := ⟨fun i _ => i < n, fun i H x H' => H' = H ∧ x = .int (lo + i), fun i _ => n ≤ i⟩
private theorem turn_list {P : Program} {w : World} {K : PySem.W.Frag} {tg : Expr} (a it : Addr) : Turn P w K tg (Itl K a) [it] it (fun i h => h.IsListIter it a i) where
  mem := by simp
  obj := fun i h st b hb => by
    have e : b = it := by simpa using hb
    subst e
    obtain ⟨o, e, c, d⟩ := st
    exact ⟨o, e, fun v z => by rw [d] at z; cases z⟩
  keep := fun i h h' st k => st.at fun o e => k it (by simp) o e
  item := by
    intro X hP hw hK hc i pins s σ H E I hf st hg
    subst hP hw hK
    obtain ⟨xs, x, hq, hx⟩ := hg
    obtain ⟨its, rv, p, hz⟩ := I.list hq
    obtain ⟨u, hu, ru⟩ := rv.get hx
    obtain ⟨f0, f1, f2, f3, f4, f5⟩ := hf it (by simp)
    refine wpAny_pyNext_list_item st p.isList (x := u) (by simpa using hu) fun h' st' sb => ?_
    have I1 : Inv X pins σ H { s with heap := h' } := I.turned (t' := s.toks) (fun b o hb e => (sb.2 b hb).trans e) f0 f1 f3 f4 f5
    obtain ⟨o, e, c, d⟩ := id st'
    exact ⟨u, rfl, go_of (s := { s with heap := h' }) e c d (by decide) ⟨x, H, I1, ru, ⟨rfl, fun ys hy => by rw [I.list_inj hy hq]; exact hx⟩, st', fun b hb => (hf b hb).1⟩⟩
  done := by
    intro X hP hw hK hc i pins s σ H E I hf st hg
    subst hP hw hK
    obtain ⟨xs, hq, hx⟩ := hg
    obtain ⟨its, rv, p, hz⟩ := I.list hq
    obtain ⟨f0, f1, f2, f3, f4, f5⟩ := hf it (by simp)
    have hl := rv.length
    exact wpAny_pyNext_list_end (I.ok.hd hc) st p.isList (by simp; omega) fun h' eb => ⟨rfl, I.turned (t' := s.toks) (fun b o hb e => eb b o hb e) f0 f1 f3 f4 f5⟩
  self := fun _ _ _ _ _ st h => wpAny_pyIter_listiter st h
private theorem turn_tuple {P : Program} {w : World} {K : PySem.W.Frag} {tg : Expr} (a it : Addr) : Turn P w K tg (Itt K a) [it] it (fun i h => h.IsTupleIter it a i) where
  mem := by simp
  obj := fun i h st b hb => by
    have e : b = it := by simpa using hb
    subst e
    obtain ⟨o, e, c, d⟩ := st
    exact ⟨o, e, fun v z => by rw [d] at z; cases z⟩
  keep := fun i h h' st k => st.at fun o e => k it (by simp) o e
  item := by
    intro X hP hw hK hc i pins s σ H E I hf st hg
    subst hP hw hK
    obtain ⟨xs, x, hq, hx⟩ := hg
    obtain ⟨its, rv, p, hz⟩ := I.tuple hq
    obtain ⟨u, hu, ru⟩ := rv.get hx
    obtain ⟨f0, f1, f2, f3, f4, f5⟩ := hf it (by simp)
    refine wpAny_pyNext_tuple_item st (show s.heap.IsTuple a its.toArray from p) (x := u) (by simpa using hu) fun h' st' sb => ?_
    have I1 : Inv X pins σ H { s with heap := h' } := I.turned (t' := s.toks) (fun b o hb e => (sb.2 b hb).trans e) f0 f1 f3 f4 f5
    obtain ⟨o, e, c, d⟩ := id st'
    exact ⟨u, rfl, go_of (s := { s with heap := h' }) e c d (by decide) ⟨x, H, I1, ru, ⟨rfl, fun ys hy => by rw [I.tuple_inj hy hq]; exact hx⟩, st', fun b hb => (hf b hb).1⟩⟩
  done := by
    intro X hP hw hK hc i pins s σ H E I hf st hg
    subst hP hw hK
    obtain ⟨xs, hq, hx⟩ := hg
    obtain ⟨its, rv, p, hz⟩ := I.tuple hq
    obtain ⟨f0, f1, f2, f3, f4, f5⟩ := hf it (by simp)
    have hl := rv.length
    exact wpAny_pyNext_tuple_end (I.ok.hd hc) st (show s.heap.IsTuple a its.toArray from p) (by simp; omega) fun h' eb => ⟨rfl, I.turned (t' := s.toks) (fun b o hb e => eb b o hb e) f0 f1 f3 f4 f5⟩
  self := fun _ _ _ _ _ st h => wpAny_pyIter_tupleiter st h
private theorem turn_range {P : Program} {w : World} {K : PySem.W.Frag} {tg : Expr} (it : Addr) (lo : Int) (n : Nat) : Turn P w K tg (Itr lo n) [it] it (fun i h => IsRangeIter h it (lo + (i : Nat) * 1) ((n : Int) - (i : Nat)) 1) where
  mem := by simp
  obj := fun i h st b hb => by
    have e : b = it := by simpa using hb
    subst e
    exact ⟨_, st, fun v z => by
      have z' : Data.fields _ = Data.cell v := z
      cases z'⟩
  keep := fun i h h' st k => k it (by simp) _ st
  item := by
    intro X hP hw hK hc i pins s σ H E I hf st hg
    subst hP hw hK
    obtain ⟨f0, f1, f2, f3, f4, f5⟩ := hf it (by simp)
    have W := Walks.range (prog := X.prog) (w := X.w) (I.ok.hd hc) it lo 1 n
    refine W.item i s _ _ hg st fun v h' tk hv st' kk => ?_
    obtain ⟨t, rfl⟩ := hv
    have I1 : Inv X pins σ H { s with heap := h', toks := tk } := I.turned (fun b o hb e => kk b o (by simpa using hb) e) f0 f1 f3 f4 f5
    refine ⟨_, rfl, go_of (s := { s with heap := h', toks := tk }) (n := "range_iterator") st' rfl rfl (by decide) ⟨.int (lo + i), H, I1, ⟨t, ?_⟩, ⟨rfl, rfl⟩, st', fun b hb => (hf b hb).1⟩⟩
    rw [Int.mul_one]
  done := by
    intro X hP hw hK hc i pins s σ H E I hf st hg
    subst hP hw hK
    obtain ⟨f0, f1, f2, f3, f4, f5⟩ := hf it (by simp)
    exact wpAny_pyNext_range_end (I.ok.hd hc) st (by have : n ≤ i := hg; omega) fun h' eb => ⟨rfl, I.turned (t' := s.toks) (fun b o hb e => eb b o hb e) f0 f1 f3 f4 f5⟩
  self := fun _ _ _ _ _ st h => wpAny_pyIter_rangeiter st h
end L2

namespace L2
open PySem PySem.Spec PyProof.Rows
section
variable {X : Cx} {tg : Expr}
private theorem range_it {pins : List (Addr × Obj)} {σ : St} {H : Hp} {s : Shared} {R : It → Hp → Prop} {E : Value → Shared → Prop} {lo hi : Int} {t u v : Tok} {tk : Nat} (I : Inv X pins σ H s) (h1 : -(2 ^ 62) ≤ lo) (h2 : lo < 2 ^ 62) (h3 : -(2 ^ 62) ≤ hi) (h4 : hi < 2 ^ 62)
    (q : R (Itr lo (hi - lo).toNat) H) : wpAny (model X.prog X.w) X.A (pyIter (.ref s.heap.objs.size)) (PIE X pins σ tg R) E { s with heap := s.heap.push { cls := .type "range", data := .fields #[.int lo t, .int hi u, .int 1 v] }, toks := tk } := by
  refine wpAny_pyIter_range (IsRange.new ..) (small_one h1 h2 h3 h4) ?_
  have I1 : Inv X pins σ H { s with heap := s.heap.push { cls := .type "range", data := .fields #[.int lo t, .int hi u, .int 1 v] }, toks := tk } := I.kept fun b o e => Heap.get?_push_of_some _ e
  refine ⟨(s.heap.push { cls := .type "range", data := .fields #[.int lo t, .int hi u, .int 1 v] }).objs.size, [(s.heap.push { cls := .type "range", data := .fields #[.int lo t, .int hi u, .int 1 v] }).objs.size], _, _, H, rfl,
    I1.kept (t' := tk) fun b o e => Heap.get?_push_of_some _ e, turn_range _ lo (hi - lo).toNat, ?_, fun b hb => ?_, q⟩
  · have e1 : lo + ((0 : Nat) : Int) * 1 = lo := by simp
    have e2 : (((hi - lo).toNat : Nat) : Int) - ((0 : Nat) : Int) = Builtin.Range.rangeSize lo hi 1 := by rw [rangeSize_one]; split <;> omega
    show IsRangeIter _ _ (lo + ((0 : Nat) : Int) * 1) ((((hi - lo).toNat : Nat) : Int) - ((0 : Nat) : Int)) 1
    rw [e1, e2]
    exact Heap.get?_push_size _ rfl
  · have e : b = (s.heap.push { cls := .type "range", data := .fields #[.int lo t, .int hi u, .int 1 v] }).objs.size := by simpa using hb
    subst e
    exact I1.fpOk (Nat.le_refl _) (I1.hok.fresh (Nat.le_refl _))
noncomputable def iRng1 (ta : TA) : TI := fun σ H R => ta σ H fun vs H1 => ∃ j : Int, vs = [.int j] ∧ -(2 ^ 62) ≤ j ∧ j < 2 ^ 62 ∧ R (Itr 0 j.toNat) H1
private theorem pi_range1 {a : Expr} {ta : TA} {p pos : Pos} (hg : Gl X "range") (hm : X.mg "range" = none) (ha : PA X [a] ta) (hs : autoParam (starEach [a] X.env = [(false, eval a X.env)]) _root_.zt2) : PI X tg (.Call (.Name "range" p) [a] [] pos) (iRng1 ta) := by
  intro pins s σ H R I h
  refine Call_ (ld_blt I hg hm boot_range (PyProof.Rows.callWith_type1 (thn (ha pos pins s σ H _ I h) fun us s1 zq9 => ?_) hs rfl))
  obtain ⟨vs, H1, I1, r1, q1⟩ := zq9
  obtain ⟨j, e, q1, q2, q⟩ := q1
  subst e
  cases r1 with
  | cons r rr =>
    cases rr
    obtain ⟨t, rfl⟩ := r
    exact call_range_1 (range_it I1 (by omega) (by omega) q1 q2 (by simpa using q))
noncomputable def tFor (wi : TI) (g : TG) (tb : TS) : TS := fun D σ H => wi σ H fun J H1 => ∃ W : Nat → Nat → St → Hp → Prop, (∃ m, W 0 m σ H1) ∧ ∀ i m σ H, W i m σ H →
  (J.stop i H ∧ D.nx σ H) ∨ (J.go i H ∧ ∃ N : St → Hp → Prop, (∀ σ' H', N σ' H' → ∃ m', m' < m ∧ W (i + 1) m' σ' H') ∧ ∀ x H', J.yld i H x H' → g x σ H' fun σ2 H2 => tb { D with nx := N, ct := N, bk := D.nx } σ2 H2)
noncomputable def pinsAt (fp : List Addr) (h : Heap) : List (Addr × Obj) := fp.filterMap fun b => (h.get? b).map fun o => (b, o)
private theorem mem_pinsAt {fp : List Addr} {h : Heap} {b : Addr} {o : Obj} (hb : b ∈ fp) (e : h.get? b = some o) : (b, o) ∈ pinsAt fp h := List.mem_filterMap.mpr ⟨b, hb, by rw [e]; rfl⟩
private theorem of_pinsAt {fp : List Addr} {h : Heap} {p : Addr × Obj} (hp : p ∈ pinsAt fp h) : p.1 ∈ fp ∧ h.get? p.1 = some p.2 := by
  obtain ⟨b, hb, e⟩ := List.mem_filterMap.mp hp
  cases q : h.get? b with
  | none => rw [q] at e; cases e
  | some o =>
    rw [q] at e
    have e' : (b, o) = p := Option.some.inj e
    subst e'
    exact ⟨hb, q⟩
private theorem Inv.pinned {pins : List (Addr × Obj)} {σ : St} {H : Hp} {s : Shared} {fp : List Addr} (I : Inv X pins σ H s) (hf : ∀ b ∈ fp, FpOk X pins H b) (ho : ∀ b ∈ fp, ∃ o, s.heap.get? b = some o ∧ ∀ v, o.data ≠ .cell v) : Inv X (pins ++ pinsAt fp s.heap) σ H s :=
  I.pins_of fun p hp => (List.mem_append.mp hp).elim (fun z => I.pin p (List.mem_append_right _ z)) fun z => by
    obtain ⟨hb, e⟩ := of_pinsAt z
    obtain ⟨f0, f1, f2, _⟩ := hf p.1 hb
    obtain ⟨o, e', d⟩ := ho p.1 hb
    rw [e] at e'; cases e'
    exact ⟨e, f0, f1, f2, d⟩
private theorem Inv.unpinned {pins pl : List (Addr × Obj)} {σ : St} {H : Hp} {s : Shared} (I : Inv X (pins ++ pl) σ H s) : Inv X pins σ H s := I.pins_of fun p hp => I.pin p (List.mem_append_right _ (List.mem_append_left _ hp))
private theorem ps_for {iter : Expr} {body : List Stmt} {wi : TI} {g : TG} {tb : TS} {pos : Pos} (hp : PassesOwn (model X.prog X.w) X.A X.env X.xe) (hc : X.calm = true) (hi : PI X tg iter wi) (hg : PG X tg g) (hb : PSs X body tb)
    (hs : autoParam (∀ x, foldedSetIterable iter X.env x = pure x) _root_.zt3) : PS X (.For tg iter body [] pos) (tFor wi g tb) := by
  intro pins s σ H D I h
  refine wpAny_For (thn (hi pins s σ H _ I h) fun v s1 h1 => thn h1 fun itv s2 h2 => ?_) hs
  obtain ⟨it, fp, tn, J, H2, e, I2, T, st2, f2, W, ⟨m0, w0⟩, turn⟩ := h2
  subst e
  -- what stays true of the iterator's objects through the loop
  have stat : ∀ {H' : Hp}, (∀ b ∈ fp, H' b = none) → ∀ b ∈ fp, FpOk X pins H' b := fun hn b hb => ⟨hn b hb, (f2 b hb).2⟩
  refine codeAny_forLoop_any (fun n s' => ∃ i σ' H', Inv X pins σ' H' s' ∧ tn i s'.heap ∧ (∀ b ∈ fp, H' b = none) ∧ W i n σ' H') ?_ m0 ⟨0, σ, H2, I2, st2, fun b hb => (f2 b hb).1, w0⟩
  rintro n s3 ⟨i, σ3, H3, I3, st3, fr3, w3⟩
  rcases turn i n σ3 H3 w3 with ⟨stop, qn⟩ | ⟨go, N, hN, step⟩
  · refine wpAny_passesOwn hp (thn (T.done X rfl rfl rfl hc i pins s3 σ3 H3 X.xe I3 (stat fr3) st3 stop) fun r s4 zq9 => ?_)
    obtain ⟨hr, I4⟩ := zq9
    subst hr
    exact wpAny_execs_nil ⟨σ3, H3, I4, qn⟩
  · refine wpAny_passesOwn hp (thn (T.item X rfl rfl rfl hc i pins s3 σ3 H3 X.xe I3 (stat fr3) st3 go) fun r s4 zq9 => ?_)
    obtain ⟨u, hr, h4⟩ := zq9
    subst hr
    refine wpAny_passesOwn hp (thn h4 fun _ s5 zq9 => ?_)
    obtain ⟨x, H5, I5, r5, y5, st5, fr5⟩ := zq9
    have I5' := I5.pinned (stat fr5) (T.obj _ _ st5)
    refine wpAny_passesOwn hp (thn (hg _ s5 σ3 H5 x u _ I5' r5 (step x H5 y5)) fun _ s6 zq9 => ?_)
    obtain ⟨σ6, H6, I6, q6⟩ := zq9
    refine wpAny_passesOwn hp (thn (hb _ s6 σ6 H6 _ I6 q6) fun f s7 q7 => ?_)
    have again : ∀ {σ7 : St} {H7 : Hp}, Inv X (pins ++ pinsAt fp s5.heap) σ7 H7 s7 → N σ7 H7 → ∃ m, m < n ∧ ∃ i σ' H', Inv X pins σ' H' s7 ∧ tn i s7.heap ∧ (∀ b ∈ fp, H' b = none) ∧ W i m σ' H' := fun {σ7 H7} I7 n7 => by
      obtain ⟨m', hm, w7⟩ := hN σ7 H7 n7
      refine ⟨m', hm, i + 1, σ7, H7, I7.unpinned, T.keep _ _ _ st5 fun b hb o e => (I7.pin (b, o) (List.mem_append_right _ (List.mem_append_right _ (mem_pinsAt hb e)))).1, fun b hb => ?_, w7⟩
      obtain ⟨o, e, d⟩ := T.obj _ _ st5 b hb
      exact (I7.pin (b, o) (List.mem_append_right _ (List.mem_append_right _ (mem_pinsAt hb e)))).2.1
    cases f with
    | next => obtain ⟨σ7, H7, I7, n7⟩ := q7; exact again I7 n7
    | cont => obtain ⟨σ7, H7, I7, n7⟩ := q7; exact again I7 n7
    | brk => obtain ⟨σ7, H7, I7, q7⟩ := q7; exact ⟨σ7, H7, I7.unpinned, q7⟩
    | ret v => obtain ⟨x7, σ7, H7, I7, r7, q7⟩ := q7; exact ⟨x7, σ7, H7, I7.unpinned, r7, q7⟩
end

end L2

namespace L2
open PySem PySem.Spec PyProof.Rows

noncomputable abbrev R2 := V → V → Hp → VK → Prop
noncomputable def OpR (X : Cx) (f : Value → Value → Sem Value) (r : R2) : Prop :=
  ∀ (pins : List (Addr × Obj)) (s : Shared) (σ : St) (H : Hp) (x y : V) (v u : Value) (Q : VK), Inv X pins σ H s → RelV x v → RelV y u → r x y H Q →
    wpAny (model X.prog X.w) X.A (f v u) (EP X pins σ Q) X.xe s
noncomputable def UnR (X : Cx) (f : Value → Sem Value) (r : V → Hp → VK → Prop) : Prop :=
  ∀ (pins : List (Addr × Obj)) (s : Shared) (σ : St) (H : Hp) (x : V) (v : Value) (Q : VK), Inv X pins σ H s → RelV x v → r x H Q →
    wpAny (model X.prog X.w) X.A (f v) (EP X pins σ Q) X.xe s
noncomputable def CallR (X : Cx) (f : Value) (r : List V → Hp → VK → Prop) : Prop :=
  ∀ (pins : List (Addr × Obj)) (s : Shared) (σ : St) (H : Hp) (xs : List V) (us : List Value) (Q : VK), Inv X pins σ H s → Vals xs us → r xs H Q →
    wpAny (model X.prog X.w) X.A (call f us) (EP X pins σ Q) X.xe s
noncomputable def TruR (X : Cx) (r : V → Hp → (Bool → Hp → Prop) → Prop) : Prop :=
  ∀ (pins : List (Addr × Obj)) (s : Shared) (σ : St) (H : Hp) (x : V) (v : Value) (Q : Bool → Hp → Prop), Inv X pins σ H s → RelV x v → r x H Q →
    wpAny (model X.prog X.w) X.A (truthy v) (TP X pins σ Q) X.xe s

noncomputable def tOp (r : R2) (ta tb : TE) : TE := fun σ H Q => ta σ H fun x H1 => tb σ H1 fun y H2 => r x y H2 Q
noncomputable def tUn (r : V → Hp → VK → Prop) (ta : TE) : TE := fun σ H Q => ta σ H fun x H1 => r x H1 Q
noncomputable def rI (C : Int → Int → Prop) (g : Int → Int → V) : R2 := fun x y H Q => ∃ i j, x = .int i ∧ y = .int j ∧ C i j ∧ Q (g i j) H
noncomputable def rI0 (g : Int → Int → V) : R2 := fun x y H Q => ∃ i j, x = .int i ∧ y = .int j ∧ Q (g i j) H
noncomputable def rU (g : Int → V) : V → Hp → VK → Prop := fun x H Q => ∃ i, x = .int i ∧ Q (g i) H

section
variable {X : Cx} {a b c : Expr} {ta tb tc : TE} {pos : Pos}

private theorem binT (ha : PE X a ta) (hb : PE X b tb) {pins : List (Addr × Obj)} {s : Shared} {σ : St} {H : Hp} {R : V → V → Hp → Prop} (I : Inv X pins σ H s)
    (h : ta σ H fun x H1 => tb σ H1 fun y H2 => R x y H2) {Q : Value → Shared → Prop} {f : Value → Value → Sem Value}
    (hf : ∀ v u s2 x y H2, Inv X pins σ H2 s2 → RelV x v → RelV y u → R x y H2 → wpAny (model X.prog X.w) X.A (f v u) Q X.xe s2) :
    wpAny (model X.prog X.w) X.A (eval a X.env) (fun v s₁ => wpAny (model X.prog X.w) X.A (eval b X.env) (fun u s₂ => wpAny (model X.prog X.w) X.A (f v u) Q X.xe s₂) X.xe s₁) X.xe s := by
  refine thn (ha pins s σ H _ I h) fun v s1 zq9 => ?_
  obtain ⟨x, H1, I1, r1, q1⟩ := zq9
  refine thn (hb pins s1 σ H1 _ I1 q1) fun u s2 zq9 => ?_
  obtain ⟨y, H2, I2, r2, q2⟩ := zq9
  exact hf v u s2 x y H2 I2 r1 r2 q2

private theorem pe_op {op : Operator} {r : R2} (ho : OpR X (binaryOp op) r) (ha : PE X a ta) (hb : PE X b tb) : PE X (.BinOp a op b pos) (tOp r ta tb) := by
  intro pins s σ H Q I h
  exact wpAny_BinOp (binT ha hb I h fun v u s2 x y H2 I2 rx ry q => ho pins s2 σ H2 x y v u Q I2 rx ry q)
private theorem pe_un {op : UnaryOp} {r : V → Hp → VK → Prop} (ho : UnR X (unaryOp op) r) (ha : PE X a ta) : PE X (.UnaryOp op a pos) (tUn r ta) := by
  intro pins s σ H Q I h
  exact UnaryOp_ (thn (ha pins s σ H _ I h) fun v s1 ⟨x, H1, I1, r1, q1⟩ => ho pins s1 σ H1 x v Q I1 r1 q1)
private theorem opI {f : Value → Value → Sem Value} {C : Int → Int → Prop} {g : Int → Int → Int}
    (rule : ∀ (i j : Int) (t u : Tok) (s : Shared) (Q : Value → Shared → Prop) (E : Value → Shared → Prop), C i j → Q (.int (g i j) s.toks) { s with toks := s.toks + 1 } → wpAny (model X.prog X.w) X.A (f (.int i t) (.int j u)) Q E s) :
    OpR X f (rI C fun i j => .int (g i j)) := by
  intro pins s σ H x y v u Q I rx ry h
  obtain ⟨i, j, rfl, rfl, hc, q⟩ := h
  obtain ⟨t, rfl⟩ := rx
  obtain ⟨t', rfl⟩ := ry
  exact rule i j t t' s _ _ hc ⟨.int (g i j), H, I.tok _, ⟨_, rfl⟩, q⟩
private theorem opI0 {f : Value → Value → Sem Value} {g : Int → Int → Int}
    (rule : ∀ (i j : Int) (t u : Tok) (s : Shared) (Q : Value → Shared → Prop) (E : Value → Shared → Prop), Q (.int (g i j) s.toks) { s with toks := s.toks + 1 } → wpAny (model X.prog X.w) X.A (f (.int i t) (.int j u)) Q E s) :
    OpR X f (rI0 fun i j => .int (g i j)) := by
  intro pins s σ H x y v u Q I rx ry h
  obtain ⟨i, j, rfl, rfl, q⟩ := h
  obtain ⟨t, rfl⟩ := rx
  obtain ⟨t', rfl⟩ := ry
  exact rule i j t t' s _ _ ⟨.int (g i j), H, I.tok _, ⟨_, rfl⟩, q⟩
private theorem opB0 {f : Value → Value → Sem Value} {g : Int → Int → Bool}
    (rule : ∀ (i j : Int) (t u : Tok) (s : Shared) (Q : Value → Shared → Prop) (E : Value → Shared → Prop), Q (.bool (g i j)) s → wpAny (model X.prog X.w) X.A (f (.int i t) (.int j u)) Q E s) :
    OpR X f (rI0 fun i j => .bl (g i j)) := by
  intro pins s σ H x y v u Q I rx ry h
  obtain ⟨i, j, rfl, rfl, q⟩ := h
  obtain ⟨t, rfl⟩ := rx
  obtain ⟨t', rfl⟩ := ry
  exact rule i j t t' s _ _ ⟨.bl (g i j), H, I, rfl, q⟩

noncomputable def CMul (i j : Int) : Prop := (-(2 ^ 64) < i ∧ i < 2 ^ 64) ∨ (-(2 ^ 64) < j ∧ j < 2 ^ 64)
private theorem CMul.ok {i j : Int} (h : CMul i j) : IntMulOk i j := by
  rcases h with ⟨h1, h2⟩ | ⟨h1, h2⟩
  · exact .of_left (intBits_le_64 h1 h2)
  · exact .of_right (intBits_le_64 h1 h2)
private theorem op_add : OpR X (binaryOp .Add) (rI0 fun i j => .int (i + j)) := opI0 fun _ _ _ _ _ _ _ q => add_int q
private theorem op_sub : OpR X (binaryOp .Sub) (rI0 fun i j => .int (i - j)) := opI0 fun _ _ _ _ _ _ _ q => sub_int q
private theorem op_mod : OpR X (binaryOp .Mod) (rI (fun _ j => 0 < j) fun i j => .int (i % j)) := opI fun i j _ _ _ _ _ hc q => by
  have h1 : (0 : Int) < j := hc
  exact mod_int' (by omega) (by rw [Int.fmod_eq_emod_of_nonneg i (by omega)]; exact q)
private theorem unI {f : Value → Sem Value} {g : Int → Int}
    (rule : ∀ (i : Int) (t : Tok) (s : Shared) (Q : Value → Shared → Prop) (E : Value → Shared → Prop), Q (.int (g i) s.toks) { s with toks := s.toks + 1 } → wpAny (model X.prog X.w) X.A (f (.int i t)) Q E s) :
    UnR X f (rU fun i => .int (g i)) := by
  intro pins s σ H x v Q I rx h
  obtain ⟨i, rfl, q⟩ := h
  obtain ⟨t, rfl⟩ := rx
  exact rule i t s _ _ ⟨.int (g i), H, I.tok _, ⟨_, rfl⟩, q⟩
private theorem un_neg : UnR X (unaryOp .USub) (rU fun i => .int (-i)) := unI fun _ _ _ _ _ q => neg_int q
end

section
variable {X : Cx} {a b c : Expr} {ta tb tc : TE} {pos : Pos}
private theorem fin_bl {pins : List (Addr × Obj)} {σ : St} {H : Hp} {s : Shared} {Q : VK} {k k' : Bool} (I : Inv X pins σ H s) (q : Q (.bl k) H) (e : k = k') : EP X pins σ Q (.bool k') s := by
  subst e
  exact ⟨.bl k, H, I, rfl, q⟩
private theorem op_lt : OpR X (compareOp .Lt) (rI0 fun i j => .bl (decide (i < j))) := opB0 fun _ _ _ _ _ _ _ q => lt_int q
private theorem op_gt : OpR X (compareOp .Gt) (rI0 fun i j => .bl (decide (j < i))) := opB0 fun _ _ _ _ _ _ _ q => gt_int q
private theorem op_in_str : OpR X (compareOp .In) (fun x y H Q => ∃ i j, x = .str i ∧ y = .str j ∧ Q (.bl (!(Builtin.Str.occurrences j i 0 j.length 1).isEmpty)) H) := by
  intro pins s σ H x y v u Q I rx ry h
  obtain ⟨i, j, rfl, rfl, q⟩ := h
  obtain ⟨t, rfl⟩ := rx
  obtain ⟨t', rfl⟩ := ry
  exact in_str (fin_bl I q rfl)

private theorem op_isN : OpR X (compareOp .Is) (fun x y H Q => y = .non ∧ Q (.bl (decide (x = .non))) H) := by
  intro pins s σ H x y v u Q I rx ry h
  obtain ⟨rfl, q⟩ := h
  cases ry
  refine is_none_gen (fin_bl I q ?_)
  cases x <;> first
    | (cases rx; rfl)
    | (obtain ⟨t, rfl⟩ := rx; rfl)
private theorem op_notN : OpR X (compareOp .IsNot) (fun x y H Q => y = .non ∧ Q (.bl (!decide (x = .non))) H) := by
  intro pins s σ H x y v u Q I rx ry h
  obtain ⟨rfl, q⟩ := h
  cases ry
  refine isnot_none_gen (fin_bl I q ?_)
  cases x <;> first
    | (cases rx; rfl)
    | (obtain ⟨t, rfl⟩ := rx; rfl)

private theorem OpR.or {f : Value → Value → Sem Value} {r r' : R2} (h : OpR X f r) (h' : OpR X f r') : OpR X f (fun x y H Q => r x y H Q ∨ r' x y H Q) := by
  intro pins s σ H x y v u Q I rx ry q
  rcases q with q | q
  · exact h pins s σ H x y v u Q I rx ry q
  · exact h' pins s σ H x y v u Q I rx ry q

private theorem nomark (b : Expr) {op : CmpOp} (h : autoParam (op ≠ .In) _root_.zt1) (h2 : autoParam (op ≠ .NotIn) _root_.zt1) : behindInMarks op b = false := by
  have e1 : (op == CmpOp.In) = false := by cases op <;> first | rfl | exact absurd rfl h
  have e2 : (op == CmpOp.NotIn) = false := by cases op <;> first | rfl | exact absurd rfl h2
  cases b <;> simp [behindInMarks, e1, e2]
private theorem pe_cmpR {op : CmpOp} {r : R2} (ho : OpR X (compareOp op) r) (ha : PE X a ta) (hb : PE X b tb) (hm : behindInMarks op b = false) : PE X (.Compare a [op] [b] pos) (tOp r ta tb) := by
  intro pins s σ H Q I h
  exact wpAny_Compare1 (binT ha hb I h fun v u s2 x y H2 I2 rx ry q => ho pins s2 σ H2 x y v u Q I2 rx ry q) hm
noncomputable def tTest (t : TE) : TT := fun σ H Q => t σ H fun x H' => ∃ k, x = .bl k ∧ Q k H'
private theorem pt_cmpR {op : CmpOp} {r : R2} (ho : OpR X (compareOp op) r) (ha : PE X a ta) (hb : PE X b tb) (hm : behindInMarks op b = false) : PT X (.Compare a [op] [b] pos) (tTest (tOp r ta tb)) := by
  intro pins s σ H Q I h
  refine wpAny_isTrue_Compare1 (thn (ha pins s σ H _ I h) fun v s1 ⟨x, H1, I1, r1, q1⟩ => thn (hb pins s1 σ H1 _ I1 q1) fun u s2 ⟨y, H2, I2, r2, q2⟩ =>
    thn (ho pins s2 σ H2 x y v u _ I2 r1 r2 q2) fun c s3 ⟨z, H3, I3, r3, k, e, q3⟩ => ?_) hm
  subst e
  cases r3
  exact wpAny_truthy_bool ⟨H3, I3, q3⟩
noncomputable def TruV (K : PySem.W.Frag) (x : V) (H : Hp) (k : Bool) : Prop :=
  match x with
  | .non => k = false
  | .bl b => k = b
  | .int i => k = (i != 0)
  | .str y => y.length ≤ sizeLine ∧ k = ((y.length : Int) != 0)
  | .byt y => y.size ≤ sizeLine ∧ k = ((y.size : Int) != 0)
  | .ref p => (∃ xs, SqL K H p xs ∧ k = !xs.isEmpty) ∨ (∃ xs, SqT K H p xs ∧ k = !xs.isEmpty) ∨ ∃ kvs, H p = some (.dK kvs) ∧ k = !kvs.isEmpty
  | _ => False
private theorem isEmpty_kv {κ : Type} {kvs : List (κ × V)} {vs : List (κ × Value)} (r : KV kvs vs) : (!vs.isEmpty) = !kvs.isEmpty := by
  cases r <;> rfl
private theorem isEmpty_of {xs : List V} {its : List Value} (r : Vals xs its) : (!its.toArray.isEmpty) = !xs.isEmpty := by
  cases r <;> simp
private theorem line63 : (sizeLine : Nat) < 2 ^ 63 := by rw [sizeLine_eq]; decide
private theorem tru_ok : TruR X (fun x H Q => ∃ k, TruV X.K x H k ∧ Q k H) := by
  intro pins s σ H x v Q I rx h
  obtain ⟨k, e, q⟩ := h
  have hl := line63
  have hs : sizeLine = 16777216 := sizeLine_eq
  cases x with
  | non =>
    cases rx
    have e' : k = false := e
    subst e'
    exact truthy_none ⟨H, I, q⟩
  | bl b =>
    cases rx
    have e' : k = b := e
    subst e'
    exact wpAny_truthy_bool ⟨H, I, q⟩
  | int i =>
    obtain ⟨t, rfl⟩ := rx
    have e' : k = (i != 0) := e
    subst e'
    exact PySem.P.truthy_int ⟨H, I, q⟩
  | str y =>
    obtain ⟨t, rfl⟩ := rx
    obtain ⟨hy, e'⟩ : y.length ≤ sizeLine ∧ k = ((y.length : Int) != 0) := e
    subst e'
    exact PySem.P.truthy_str (by omega) ⟨H, I.tok _, q⟩
  | byt y =>
    obtain ⟨t, rfl⟩ := rx
    obtain ⟨hy, e'⟩ : y.size ≤ sizeLine ∧ k = ((y.size : Int) != 0) := e
    subst e'
    exact PySem.W.truthy_bytes (by omega) ⟨H, I.tok _, q⟩
  | ref p =>
    cases rx
    have e' : (∃ xs, SqL X.K H p xs ∧ k = !xs.isEmpty) ∨ (∃ xs, SqT X.K H p xs ∧ k = !xs.isEmpty) ∨ ∃ kvs, H p = some (.dK kvs) ∧ k = !kvs.isEmpty := e
    rcases e' with ⟨xs, hx, e'⟩ | ⟨xs, hx, e'⟩ | ⟨kvs, hx, e'⟩
    · subst e'
      obtain ⟨its, r, pl, hz⟩ := I.list hx
      have hlen := r.length
      exact wpAny_truthy_list pl.isList (by simp only [List.size_toArray]; omega) ⟨H, I.tok _, by rw [isEmpty_of r]; exact q⟩
    · subst e'
      obtain ⟨its, r, pl, hz⟩ := I.tuple hx
      have hlen := r.length
      exact truthy_tuple pl (by simp only [List.size_toArray]; omega) ⟨H, I.tok _, by rw [isEmpty_of r]; exact q⟩
    · subst e'
      obtain ⟨hz, hS, vs, r, m⟩ : kvs.length ≤ sizeLine ∧ (p == sysModules) = false ∧ ∃ vs, KV kvs vs ∧ s.heap.DictOf (mixKind X.prog X.w) p vs := I.hok p _ hx
      have hlen : kvs.length = vs.length := Paired.length r
      exact wpAny_truthy_dict hS m (by omega) ⟨H, I.tok _, by rw [isEmpty_kv r]; exact q⟩
  | _ => exact (show False from e).elim
private theorem pt_truth (ha : PE X a ta) (he : ∀ whole, isTrue a X.env whole = (do let v ← whole; standAt a.pos; holding [v] (truthy v))) :
    PT X a (fun σ H Q => ta σ H fun x H' => ∃ k, TruV X.K x H' k ∧ Q k H') := by
  intro pins s σ H Q I h
  exact isTrue_plain (thn (ha pins s σ H _ I h) fun v s1 ⟨x, H1, I1, r1, q1⟩ => tru_ok pins s1 σ H1 x v Q I1 r1 q1) (he _)

private theorem vals1 {x : V} {us : List Value} (r : Vals [x] us) : ∃ u, us = [u] ∧ RelV x u := by
  cases r with
  | cons r1 r2 => cases r2; exact ⟨_, rfl, r1⟩
private theorem vals2 {x y : V} {us : List Value} (r : Vals [x, y] us) : ∃ u w', us = [u, w'] ∧ RelV x u ∧ RelV y w' := by
  cases r with
  | cons r1 r2 =>
    cases r2 with
    | cons r3 r4 => cases r4; exact ⟨_, _, rfl, r1, r3⟩
private theorem call_abs : CallR X (.builtin "abs") (fun xs H Q => ∃ i, xs = [.int i] ∧ Q (.int (if i < 0 then -i else i)) H) := by
  intro pins s σ H xs us Q I r h
  obtain ⟨i, rfl, q⟩ := h
  obtain ⟨u, rfl, t, rfl⟩ := vals1 r
  exact call_abs_int fun u tk => ⟨.int (if i < 0 then -i else i), H, I.tok _, ⟨_, rfl⟩, q⟩
private theorem call_max2 (hc : X.calm = true) : CallR X (.builtin "max") (fun xs H Q => ∃ i j, xs = [.int i, .int j] ∧ Q (.int (if j > i then j else i)) H) := by
  intro pins s σ H xs us Q I r h
  obtain ⟨i, j, rfl, q⟩ := h
  obtain ⟨u, w', rfl, ⟨t, rfl⟩, ⟨t', rfl⟩⟩ := vals2 r
  refine max_two_ints (I.ok.hd hc) fun h' tk k => ⟨_, H, I.kept k, ?_, q⟩
  by_cases hj : j > i
  · rw [if_pos hj, if_pos hj]; exact ⟨_, rfl⟩
  · rw [if_neg hj, if_neg hj]; exact ⟨_, rfl⟩
private theorem call_min2 (hc : X.calm = true) : CallR X (.builtin "min") (fun xs H Q => ∃ i j, xs = [.int i, .int j] ∧ Q (.int (if j < i then j else i)) H) := by
  intro pins s σ H xs us Q I r h
  obtain ⟨i, j, rfl, q⟩ := h
  obtain ⟨u, w', rfl, ⟨t, rfl⟩, ⟨t', rfl⟩⟩ := vals2 r
  refine min_two_ints (I.ok.hd hc) fun h' tk k => ⟨_, H, I.kept k, ?_, q⟩
  by_cases hj : j < i
  · rw [if_pos hj, if_pos hj]; exact ⟨_, rfl⟩
  · rw [if_neg hj, if_neg hj]; exact ⟨_, rfl⟩
private theorem call_int1 : CallR X (.type "int") (fun xs H Q => (∃ i, xs = [.int i] ∧ Q (.int i) H) ∨ ∃ k, xs = [.bl k] ∧ Q (.int (if k then 1 else 0)) H) := by
  intro pins s σ H xs us Q I r h
  rcases h with ⟨i, rfl, q⟩ | ⟨k, rfl, q⟩
  · obtain ⟨u, rfl, t, rfl⟩ := vals1 r
    exact call_int_int ⟨.int i, H, I, ⟨_, rfl⟩, q⟩
  · obtain ⟨u, rfl, r1⟩ := vals1 r
    cases r1
    exact call_int_bool ⟨.int (if k then 1 else 0), H, I.tok _, ⟨_, rfl⟩, q⟩
end
end L2

namespace L2
open PySem PySem.Spec PyProof.Rows

structure ObjM (h : Heap) (x dx C : Addr) (mA : Str → Option Value) : Prop where
  obj : h.get? x = some (PySem.W.instObj C dx)
  ns : h.Ns1 dx mA
  ne : dx ≠ x

private theorem lookIn_ns {h : Heap} {dx : Addr} {mA : Str → Option Value} (n : h.Ns1 dx mA) : ∃ od, h.get? dx = some od ∧ ∀ name, PySem.W.lookIn name od = some (mA name) := by
  obtain ⟨o, es, ep, ho, hd, hk, _, hm⟩ := n
  refine ⟨o, ho, fun name => ?_⟩
  have e := hm name
  unfold nsFind findBy at e
  rw [← Array.find?_toList] at e
  unfold PySem.W.lookIn
  rw [hd]
  dsimp only
  split
  · rename_i y q
    rw [q] at e
    exact congrArg some e
  · rename_i q
    rw [q] at e
    have a : es.toList.any (·.refKey) = false := by
      rw [List.any_eq_false]
      intro y hy
      obtain ⟨z, t, hkey⟩ := hk y (Array.mem_toList_iff.mp hy)
      simp [DictEntry.refKey, hkey]
    have a' : ¬ es.toList.any (·.refKey) = true := by rw [a]; exact Bool.false_ne_true
    rw [if_neg a']
    exact congrArg some e

private theorem ObjM.look {h : Heap} {x dx C : Addr} {mA : Str → Option Value} (I : ObjM h x dx C mA) : ∃ od, PySem.W.InstAt h x (PySem.W.instObj C dx) C (some od) ∧ ∀ name, PySem.W.lookIn name od = some (mA name) :=
  let ⟨od, ho, hl⟩ := lookIn_ns I.ns
  ⟨od, ⟨I.obj, rfl, rfl, ho⟩, hl⟩

section
variable {prog : Program} {w : World} {A : Around} {E : Value → Shared → Prop} {s : Shared} {K : PySem.W.Frag} {x dx C f : Addr} {mA : Str → Option Value} {name : Str} {v : Value}

private theorem get_meth {pl : Sem Bool} {Q : Value × List Value → Shared → Prop} (X : K.In s.heap) (I : ObjM s.heap x dx C mA) (hg : PySem.W.plainGet K C name = true)
    (hf : PySem.W.findIn K (.ref C) name = some (some (.ref f))) (ht : PySem.W.isFn K (.ref f) = true) (hv : mA name = none) (h : Q (.ref f, [.ref x]) s) :
    wpAny (model prog w) A (getMethod (.ref x) name pl) Q E s := by
  obtain ⟨od, J, hl⟩ := I.look
  exact PySem.W.method_fn X J (PySem.W.plainGet_of hg).1 (PySem.W.plainGet_of hg).2 hf (beq_iff_eq.mp ht) (by show (PySem.W.lookIn name od).map (·.isSome) = some false; rw [hl, hv]; rfl) h

private theorem make_map0 {R : Result → Shared → Prop} (X : K.In s.heap) (hm : PySem.W.makesIn K C = true)
    (hi : PySem.W.findIn K (.ref C) "__init__" = some (some (.builtin "object.__init__")))
    (hb : ∀ self, PySem.W.Looks (model prog w) s.heap (bindSpecial (.builtin "object.__init__") self) (.builtin "object.__init__", [self]))
    (h : codeAny (model prog w) (A.under (.builtin "type.__call__" ⟨[.ref C], []⟩)) (.call (.builtin "object.__init__") ⟨[.ref (s.heap.objs.size + 1)], []⟩) (PySem.W.InitBack (s.heap.objs.size + 1) R)
      { s with heap := (s.heap.push PySem.W.emptyDict).push (PySem.W.instObj C s.heap.objs.size) }) :
    codeAny (model prog w) A (.call (.ref C) ⟨[], []⟩) R s := by
  obtain ⟨hh, g, d, t, os⟩ := s
  exact PySem.W.make_core (PySem.W.makes_of X hm) (PySem.W.looks_findIn X hi) hb (.inr ⟨rfl, rfl⟩) h
end

private theorem RelO.some_of {v : V} {o : Option Value} (r : RelO (some v) o) : ∃ u, o = some u ∧ RelV v u := by
  cases o with
  | none => exact (show False from r).elim
  | some u => exact ⟨u, rfl, r⟩
private theorem RelO.none_of {o : Option Value} (r : RelO none o) : o = none := by
  cases o with
  | none => rfl
  | some u => exact (show False from r).elim
private theorem handed_of {v : V} {u : Value} (r : RelV v u) : PySem.W.handedIn u = true := by
  cases v with
  | non => cases (show u = Value.none from r); rfl
  | bl b => cases (show u = Value.bool b from r); rfl
  | int i => obtain ⟨t, e⟩ := (show ∃ t, u = Value.int i t from r); cases e; rfl
  | str x => obtain ⟨t, e⟩ := (show ∃ t, u = Value.str x t from r); cases e; rfl
  | byt b => obtain ⟨t, e⟩ := (show ∃ t, u = Value.bytes b t from r); cases e; rfl
  | flt b => obtain ⟨t, e⟩ := (show ∃ t, u = Value.float b t from r); cases e; rfl
  | ref a => cases (show u = Value.ref a from r); rfl
  | ty n => cases (show u = Value.type n from r); rfl

section
variable {P : Program} {w : World} {H H' : Hp} {h h' : Heap} {a C dx : Addr} {fs fs' : List (Str × V)}
private theorem ins_get (hok : HOk P w H h) (e : H a = some (.ins C dx fs)) : ∃ mA, ObjM h a dx C mA ∧ (∀ f, RelO (fs.lookup f) (mA f)) ∧ PySem.Within mA (fs.map (·.1)) ∧ fs.length ≤ 1000 ∧ H dx = some (.own a) := by
  obtain ⟨d, z, ne, ob, mA, n, r, q⟩ := (show ObjOk P w H h a (.ins C dx fs) from hok a _ e)
  exact ⟨mA, ⟨ob, n, ne⟩, r, q, z, d⟩
end

structure Cls (K : PySem.W.Frag) (C : Addr) : Prop where
  pg : PySem.W.plainGet K C Str.empty = true
  hd : PySem.W.hasDictIn K C = true
  po : PySem.W.plainOver K C = true
  sa : PySem.W.findIn K (.ref C) "__setattr__" = some (some (.builtin "object.__setattr__"))
private theorem Cls.get {K : PySem.W.Frag} {C : Addr} (c : Cls K C) (f : Str) : PySem.W.plainGet K C f = true := c.pg
noncomputable def NoAttr (K : PySem.W.Frag) (C : Addr) (f : Str) : Prop := PySem.W.findIn K (.ref C) f = some none
private theorem NoAttr.taker {K : PySem.W.Frag} {C : Addr} {f : Str} (n : NoAttr K C f) : PySem.W.takerIn K C f = some none := by
  unfold PySem.W.takerIn
  rw [show PySem.W.findIn K (.ref C) f = some none from n]
  rfl
structure Meth (K : PySem.W.Frag) (C : Addr) (m : Str) (f : Addr) : Prop where
  at_ : PySem.W.findIn K (.ref C) m = some (some (.ref f))
  fn : PySem.W.isFn K (.ref f) = true
  kp : PySem.W.keepIn K (.ref f) = true

section
variable {X : Cx} {pins : List (Addr × Obj)} {σ : St} {H : Hp} {s : Shared} {a C dx : Addr} {fs : List (Str × V)} {f : Str} {v : V} {A : Around} {E : Value → Shared → Prop}

private theorem getmeth_ok {m : Str} {g : Addr} {pl : Sem Bool} {Q : Value × List Value → Shared → Prop} (I : Inv X pins σ H s) (e : H a = some (.ins C dx fs)) (c : Cls X.K C) (k : Meth X.K C m g) (l : fs.lookup m = none)
    (h : Q (.ref g, [.ref a]) s) : wpAny (model X.prog X.w) A (getMethod (.ref a) m pl) Q E s := by
  obtain ⟨mA, O, r, _, _, _⟩ := ins_get I.hok e
  have hn : mA m = none := RelO.none_of (by rw [← l]; exact r m)
  exact get_meth I.kIn O (c.get m) k.at_ k.fn hn h

private theorem Inv.made (I : Inv X pins σ H s) : Inv X pins σ (upd (upd H s.heap.objs.size (.own (s.heap.objs.size + 1))) (s.heap.objs.size + 1) (.ins C s.heap.objs.size []))
    { s with heap := (s.heap.push PySem.W.emptyDict).push (PySem.W.instObj C s.heap.objs.size) } := by
  have e1 : (s.heap.push PySem.W.emptyDict).get? s.heap.objs.size = some PySem.W.emptyDict := Heap.get?_push_size s.heap rfl
  have e2 : ((s.heap.push PySem.W.emptyDict).push (PySem.W.instObj C s.heap.objs.size)).get? (s.heap.objs.size + 1) = some (PySem.W.instObj C s.heap.objs.size) := by
    have := Heap.get?_push_size (s.heap.push PySem.W.emptyDict) (o := PySem.W.instObj C s.heap.objs.size) rfl
    rwa [Heap.size_push] at this
  have e3 : (s.heap.push PySem.W.emptyDict).Ns s.heap.objs.size (fun _ => none) := ⟨PySem.W.emptyDict, #[], _, e1, rfl, (fun e he => absurd he (by simp)), fun _ => rfl⟩
  have I1 := I.laid (a := s.heap.objs.size) (o := .own (s.heap.objs.size + 1)) (h' := s.heap.push PySem.W.emptyDict) (t' := s.toks) (fun b u q => Heap.get?_push_of_some _ q) (Nat.le_refl _) ⟨_, e1⟩
  refine I1.laid (a := s.heap.objs.size + 1) (o := .ins C s.heap.objs.size []) (t' := s.toks) (fun b u q => Heap.get?_push_of_some _ q) (Nat.le_of_eq (Heap.size_push _ _)) ?_
  have ne : s.heap.objs.size ≠ s.heap.objs.size + 1 := Nat.ne_of_lt (Nat.lt_succ_self _)
  refine ⟨by rw [upd_ne ne, upd_same], Nat.zero_le _, ne, e2, fun _ => none, (Heap.Ns1.of_empty e3).at fun o q => Heap.get?_push_of_some _ q, fun _ => True.intro, fun y hy => absurd rfl hy⟩

private theorem attr_of {prog : Program} {w : World} {env : Env} {e : Expr} {f : Str} {pos : Pos} {s : Shared} {Q : Value → Shared → Prop} (hb : attributeBase e f env (eval e env) = eval e env)
    (h : wpAny (model prog w) A (eval e env) (fun o s₁ => wpAny (model prog w) A (getAttr o f true) Q E s₁) E s) : wpAny (model prog w) A (eval (.Attribute e f pos) env) Q E s :=
  Attribute_any_ h (by rw [arm_eval_Attribute, hb])
end

section
variable {X : Cx} {o e value : Expr} {f : Str} {pos pos' tpos : Pos} {ta tv : TE}
end

section
variable {X : Cx} {pins : List (Addr × Obj)} {σ : St} {H : Hp} {s : Shared} {A : Around} {E : Value → Shared → Prop} {Q : Value → Shared → Prop} {c : Value} {b : Bool}
end
end L2

namespace L2
open PySem PySem.Spec PyProof.Rows

structure Room (k : Nat) (A : Around) : Prop where
  hd : A.handled = none
  dp : A.depth + 3 * k + 5 < recursionLimit
  un : A.units + 16 * k + 200 < cLine
private theorem Room.mono {j k : Nat} {A : Around} (r : Room k A) (h : j ≤ k) : Room j A := ⟨r.hd, by have := r.dp; omega, by have := r.un; omega⟩
private theorem Room.deeper {k : Nat} {A : Around} (r : Room (k + 1) A) (env : Env) : Room k (A.deeper env) :=
  ⟨r.hd, by have := r.dp; show A.depth + 1 + 3 * k + 5 < _; omega, by have := r.un; show A.units + 3 + 16 * k + 200 < _; omega⟩
private theorem Room.in1 {k : Nat} {A : Around} (r : Room (k + 1) A) : Room k A.in1 :=
  ⟨r.hd, by have := r.dp; show A.depth + 3 * k + 5 < _; omega, by have := r.un; show A.units + 1 + 16 * k + 200 < _; omega⟩
private theorem make_depth {A : Around} {C : Addr} {us : List Value} {kw : List (Str × Value)} : (A.under (.builtin "type.__call__" ⟨.ref C :: us, kw⟩)).depth = A.depth + 1 := by
  first | rfl | simp [Around.under, Code.weight, Code.isCreation, Code.isGuard, Code.isCaller, Code.frames, Code.isFrame, guardIds]
private theorem make_units {A : Around} {C : Addr} {us : List Value} {kw : List (Str × Value)} : (A.under (.builtin "type.__call__" ⟨.ref C :: us, kw⟩)).units = A.units + 1 := by
  first | rfl | simp [Around.under, Code.cUnits, Code.frames, Code.isFrame]
private theorem Room.make {k : Nat} {A : Around} (r : Room (k + 1) A) (C : Addr) (us : List Value) (kw : List (Str × Value)) : Room k (A.under (.builtin "type.__call__" ⟨.ref C :: us, kw⟩)) :=
  ⟨r.hd, by have := r.dp; rw [make_depth]; omega, by have := r.un; rw [make_units]; omega⟩
private theorem Room.depth {k : Nat} {A : Around} (r : Room k A) : A.depth < recursionLimit := by have := r.dp; omega
private theorem Room.units {k : Nat} {A : Around} (r : Room k A) : A.units + 64 < cLine := by have := r.un; omega
noncomputable def tNil : TA := fun _ H Q => Q [] H
noncomputable def tCons (ta : TE) (tr : TA) : TA := fun σ H Q => ta σ H fun x H1 => tr σ H1 fun xs H2 => Q (x :: xs) H2
section
variable {X : Cx} {e : Expr} {es : List Expr} {te : TE} {t : TA} {pos : Pos}
private theorem pa_nil : PA X [] tNil := fun _ _ _ _ H Q I h => Calls.spliced_nil ⟨[], H, I, .nil, h⟩
private theorem pa_cons (ha : PE X e te) (hr : PA X es t) (hs : autoParam (starEach (e :: es) X.env = (false, eval e X.env) :: starEach es X.env) _root_.zt2) : PA X (e :: es) (tCons te t) := by
  intro pos pins s σ H Q I h
  rw [hs]
  show wpAny _ _ (spliced ((false, eval e X.env) :: backTo pos (starEach es X.env))) _ _ s
  refine Calls.spliced_cons (thn (ha pins s σ H _ I h) fun u s1 zq9 => ?_)
  obtain ⟨x, H1, I1, r1, q1⟩ := zq9
  exact thn (hr pos pins s1 σ H1 _ I1 q1) fun us s2 ⟨xs, H2, I2, r2, q2⟩ => ⟨x :: xs, H2, I2, .cons r1 r2, q2⟩

noncomputable def tTup (t : TA) : TE := fun σ H Q => t σ H fun xs H1 => xs.length ≤ sizeLine ∧ ∀ p, H1 p = none → Q (.ref p) (upd H1 p (.tup xs))
noncomputable def tLst (t : TA) : TE := fun σ H Q => t σ H fun xs H1 => xs.length ≤ sizeLine ∧ ∀ p, H1 p = none → Q (.ref p) (upd H1 p (.lst xs))
private theorem pe_tup {x1} (h : PA X es t) : PE X (.Tuple es x1 pos) (tTup t) := by
  intro pins s σ H Q I hq
  refine wpAny_Tuple_spliced (thn (h pos pins s σ H _ I hq) fun us s1 ⟨xs, H1, I1, r, z, q⟩ => ⟨by rw [← r.length]; exact z, ?_⟩)
  have hf : H1 s1.heap.objs.size = none := I1.hok.fresh (Nat.le_refl _)
  refine ⟨.ref s1.heap.objs.size, upd H1 s1.heap.objs.size (.tup xs), I1.laid (t' := s1.toks) (fun b u e => Heap.get?_push_of_some _ e) (Nat.le_refl _) ?_, rfl, q _ hf⟩
  exact ⟨z, us, r, ⟨_, Heap.get?_push_size _ rfl, rfl, _, rfl⟩⟩
private theorem pe_lst (h : PA X es t) : PE X (.List es pos) (tLst t) := by
  intro pins s σ H Q I hq
  refine wpAny_List_spliced (thn (h pos pins s σ H _ I hq) fun us s1 ⟨xs, H1, I1, r, z, q⟩ => ⟨by rw [← r.length]; exact z, ?_⟩)
  have hf : H1 s1.heap.objs.size = none := I1.hok.fresh (Nat.le_refl _)
  refine ⟨.ref s1.heap.objs.size, upd H1 s1.heap.objs.size (.lst xs), I1.laid (t' := s1.toks) (fun b u e => Heap.get?_push_of_some _ e) (Nat.le_refl _) ?_, rfl, q _ hf⟩
  exact ⟨z, us, 0, r, Heap.get?_push_size _ rfl⟩
end

noncomputable abbrev Sp := List V → Hp → VK → XK → Prop
noncomputable abbrev CXT := List Env → Hp → Shared → XK → Value → Shared → Prop

structure Env0 (P : Program) (w : World) (K : PySem.W.Frag) (mg : Str → Option Value) (base : Heap) (A : Around) (outer : List Env) (s : Shared) (H : Hp) : Prop where
  frames : A.frames = some outer
  mod : Mod K mg base
  bs : ∀ b o, base.get? b = some o → s.heap.get? b = some o ∧ H b = none
  bsz : base.objs.size ≤ s.heap.objs.size
  funs : s.heap.FunFrames base outer
  frf : ∀ b ∈ frs outer, H b = none
  hok : HOk P w H s.heap
  bare : AllBare s.gens
noncomputable def CE (outer : List Env) (P : Program) (w : World) (H : Hp) (s : Shared) (Q : VK) (u : Value) (s' : Shared) : Prop :=
  ∃ v H', s'.os = s.os ∧ AllBare s'.gens ∧ Un (frs outer) [] H H' s.heap s'.heap ∧ HOk P w H' s'.heap ∧ RelV v u ∧ Q v H'
noncomputable def CR (CX : CXT) (outer : List Env) (P : Program) (w : World) (H : Hp) (s : Shared) (Q : VK) (E : XK) (r : Result) (s' : Shared) : Prop :=
  match r with
  | .ok (.ret u) => CE outer P w H s Q u s'
  | .ok _ => False
  | .error e => CX outer H s E e s'
structure FnOk (P : Program) (w : World) (K : PySem.W.Frag) (mg : Str → Option Value) (base : Heap) (CX : CXT) (k : Nat) (f : Addr) (fd : FuncData) (ps : List Str) (sp : Sp) : Prop where
  len : ∀ vs H Q E, sp vs H Q E → vs.length = ps.length
  run : ∀ (A : Around) (outer : List Env) (s : Shared) (H : Hp) (args : Args) (us : List Value) (vs : List V) (Q : VK) (E : XK), Room k A → Env0 P w K mg base A outer s H → BindsTo s fd args (ps.zip us) → Vals vs us → sp vs H Q E →
    codeAny (model P w) A (.call (.ref f) args) (CR CX outer P w H s Q E) s
private theorem FnOk.mono {P : Program} {w : World} {K : PySem.W.Frag} {mg : Str → Option Value} {base : Heap} {CX : CXT} {j k : Nat} {f : Addr} {fd : FuncData} {ps : List Str} {sp : Sp} (F : FnOk P w K mg base CX j f fd ps sp) (h : j ≤ k) :
    FnOk P w K mg base CX k f fd ps sp := ⟨F.len, fun A outer s H args us vs Q E hr => F.run A outer s H args us vs Q E (hr.mono h)⟩
private theorem FnOk.imp {P : Program} {w : World} {K : PySem.W.Frag} {mg : Str → Option Value} {base : Heap} {CX : CXT} {k : Nat} {f : Addr} {fd : FuncData} {ps : List Str} {sp sp' : Sp} (F : FnOk P w K mg base CX k f fd ps sp)
    (h : ∀ vs H Q E, sp' vs H Q E → sp vs H Q E) : FnOk P w K mg base CX k f fd ps sp' :=
  ⟨fun vs H Q E q => F.len vs H Q E (h _ _ _ _ q), fun A outer s H args us vs Q E hr he hb hv hs => F.run A outer s H args us vs Q E hr he hb hv (h _ _ _ _ hs)⟩

private theorem Env0.make {P : Program} {w : World} {K : PySem.W.Frag} {mg : Str → Option Value} {base : Heap} {A : Around} {outer : List Env} {s : Shared} {H : Hp} (e : Env0 P w K mg base A outer s H) (C : Addr) (us : List Value) (kw : List (Str × Value)) :
    Env0 P w K mg base (A.under (.builtin "type.__call__" ⟨.ref C :: us, kw⟩)) outer s H := ⟨by first | exact e.frames | (simpa [Around.under, Code.envs, Code.isFrame, pushEnvs] using e.frames), e.mod, e.bs, e.bsz, e.funs, e.frf, e.hok, e.bare⟩
private theorem Env0.in1 {P : Program} {w : World} {K : PySem.W.Frag} {mg : Str → Option Value} {base : Heap} {A : Around} {outer : List Env} {s : Shared} {H : Hp} (e : Env0 P w K mg base A outer s H) :
    Env0 P w K mg base A.in1 outer s H := ⟨e.frames, e.mod, e.bs, e.bsz, e.funs, e.frf, e.hok, e.bare⟩

section
variable {X : Cx} {pins : List (Addr × Obj)} {σ : St} {H : Hp} {s s' : Shared}
private theorem Inv.env0 (I : Inv X pins σ H s) : Env0 X.prog X.w X.K X.mg X.base X.A X.stack s H :=
  ⟨I.ok.frames, I.ok.mod, I.bs, Nat.le_trans I.ok.bsz I.sz, I.stack, I.stkFree, I.hok, I.bare⟩
private theorem Inv.after {Q : VK} {u : Value} (I : Inv X pins σ H s) (h : CE X.stack X.prog X.w H s Q u s') : EP X pins σ Q u s' := by
  obtain ⟨v, H', os, bare, un, hok, r, q⟩ := h
  obtain ⟨hh, g, d, t, os'⟩ := s'
  obtain rfl : os' = s.os := os
  exact ⟨v, H', I.call (h' := hh) (g' := g) (d' := d) (t' := t) (ch := []) un hok bare (fun b z => absurd z (by simp)), r, q⟩
end

noncomputable def tCall (sp : Sp) (dvs : List V) (E : XK) (t : TA) : TE := fun σ H Q => t σ H fun vs H1 => sp (vs ++ dvs) H1 Q E
noncomputable def Binds (K : PySem.W.Frag) (fd : FuncData) (ps : List Str) (ds : List Value) : Prop :=
  ∀ (s : Shared) (us : List Value), K.In s.heap → (us ++ ds).length = ps.length → BindsTo s fd ⟨us, []⟩ (ps.zip (us ++ ds))
private theorem Binds.all {K : PySem.W.Frag} {fd : FuncData} {ps : List Str} (h : ∀ us : List Value, us.length = ps.length → bindArgs fd ⟨us, []⟩ = pure (ps.zip us)) : Binds K fd ps [] := fun s us _ hl => by
  rw [List.append_nil] at hl ⊢
  exact .of_eq (h us hl)

noncomputable def Passes (CX : CXT) (X : Cx) (E : XK) : Prop := ∀ (pins : List (Addr × Obj)) (σ : St) (H : Hp) (s : Shared) (e : Value) (s' : Shared), Inv X pins σ H s → CX X.stack H s E e s' → X.xe e s'

section
variable {X : Cx} {CX : CXT} {k : Nat} {f C : Addr} {fd : FuncData} {ps : List Str} {sp : Sp} {dvs : List V} {ds : List Value} {E : XK} {x m : Str} {p pos apos : Pos} {e o : Expr} {es : List Expr} {ta : TE} {t : TA}

private theorem run_fn {pins : List (Addr × Obj)} {σ : St} {H : Hp} {s : Shared} {Q : VK} {us : List Value} {vs : List V} (F : FnOk X.prog X.w X.K X.mg X.base CX k f fd ps sp) (hr : Room k X.A) (hb : Binds X.K fd ps ds) (hd : Vals dvs ds) (hx : Passes CX X E)
    (I : Inv X pins σ H s) (r : Vals vs us) (h : sp (vs ++ dvs) H Q E) : wpAny (model X.prog X.w) X.A (call (.ref f) us) (EP X pins σ Q) X.xe s := by
  have r2 : Vals (vs ++ dvs) (us ++ ds) := r.append hd
  have hl : (us ++ ds).length = ps.length := by rw [← r2.length]; exact F.len _ _ _ _ h
  refine wpAny_call (codeAny_mono (F.run X.A X.stack s H ⟨us, []⟩ (us ++ ds) (vs ++ dvs) Q E hr I.env0 (hb s us I.kIn hl) r2 h) fun r s' hq => ?_)
  cases r with
  | error e => exact hx pins σ H s e s' I hq
  | ok fl =>
    cases fl with
    | ret u => exact I.after hq
    | next => exact False.elim hq
    | brk => exact False.elim hq
    | cont => exact False.elim hq

private theorem pe_call (F : FnOk X.prog X.w X.K X.mg X.base CX k f fd ps sp) (hr : Room k X.A) (hg : Gl X x) (hm : X.mg x = some (.ref f)) (hk : PySem.W.keepIn X.K (.ref f) = true) (hb : Binds X.K fd ps ds) (hd : Vals dvs ds) (hx : Passes CX X E)
    (ha : PA X (e :: es) t) (hdb : autoParam ((x == ("__debug__" : Str)) = false) _root_.zt1) (he : autoParam (starEach (e :: es) X.env = (false, eval e X.env) :: starEach es X.env) _root_.zt2) (hpl : autoParam ((backTo pos (starEach es X.env)).any (·.1) = false) _root_.zt2) :
    PE X (.Call (.Name x p) (e :: es) [] pos) (tCall sp dvs E t) := by
  intro pins s σ H Q I h
  refine wpAny_Call_Name_kw (ld_glob I hg hm ?_ hdb)
  refine PySem.W.callWith_K (h₀ := X.base) I.ok.mod.kin hk (thn (ha pos pins s σ H _ I h) fun us s1 ⟨vs, H1, I1, r, q⟩ => ⟨I1.kIn, ?_⟩) he hpl
  exact run_fn F hr hb hd hx I1 r q
end

section
variable {X : Cx} {CX : CXT} {k : Nat} {f C : Addr} {fd : FuncData} {ps ks : List Str} {sp : Sp} {E : XK} {x m : Str} {p pos apos kpos : Pos} {e o : Expr} {es : List Expr} {kws : List Keyword} {te ta : TE} {t tk : TA} {nm : Option Str}
variable {g : List Value → List Value → List Value} {gV : List V → List V → List V}
end

structure FnScope (N P : List Str) (sc : Scope) : Prop where
  kind : sc.kind = .function
  co : sc.isCoroutine = false
  gen : sc.isGenerator = false
  nd : N.Nodup
  pre : N.take P.length = P
  par : ∀ x ∈ P, sc.names.lookup x = some .local ∨ sc.names.lookup x = some .cell
  nofree : ∀ y ∈ sc.names, y.2 ≠ .free

private theorem bindL_out {kindOf : Str → Option NameKind} {x : Str} : ∀ {binds : List (Str × Value)} {m : Str → Option Value}, (∀ v, (x, v) ∉ binds) → bindL kindOf binds m x = m x
  | [], _, _ => rfl
  | (n, v) :: r, m, h => by
    unfold bindL
    rw [bindL_out fun w hw => h w (List.mem_cons_of_mem _ hw)]
    split
    · have : x ≠ n := by rintro rfl; exact h v List.mem_cons_self
      simp [this]
    · rfl
private theorem bindC_out {kindOf : Str → Option NameKind} {x : Str} : ∀ {binds : List (Str × Value)} {m : Str → Option Value}, (∀ v, (x, v) ∉ binds) → bindC kindOf binds m x = m x
  | [], _, _ => rfl
  | (n, v) :: r, m, h => by
    unfold bindC
    rw [bindC_out fun w hw => h w (List.mem_cons_of_mem _ hw)]
    split
    · rfl
    · have : x ≠ n := by rintro rfl; exact h v List.mem_cons_self
      simp [this]
private theorem bindL_get {kindOf : Str → Option NameKind} {x : Str} {v : Value} : ∀ {P : List Str} {vs : List Value} {i : Nat} {m : Str → Option Value}, P.Nodup → P[i]? = some x → vs[i]? = some v → kindOf x = some .local →
    bindL kindOf (P.zip vs) m x = some v
  | [], _, _, _, _, h, _, _ => by simp at h
  | _ :: _, [], _, _, _, _, h, _ => by simp at h
  | p :: P, w :: vs, 0, m, nd, h1, h2, hk => by
    simp at h1 h2; subst h1; subst h2
    show bindL kindOf ((p, w) :: P.zip vs) m p = _
    unfold bindL
    rw [bindL_out fun v hv => (List.nodup_cons.mp nd).1 (List.of_mem_zip hv).1, if_pos hk]
    simp
  | p :: P, w :: vs, i + 1, m, nd, h1, h2, hk => by
    show bindL kindOf ((p, w) :: P.zip vs) m x = _
    unfold bindL
    exact bindL_get (i := i) (List.nodup_cons.mp nd).2 (by simpa using h1) (by simpa using h2) hk
private theorem bindC_get {kindOf : Str → Option NameKind} {x : Str} {v : Value} : ∀ {P : List Str} {vs : List Value} {i : Nat} {m : Str → Option Value}, P.Nodup → P[i]? = some x → vs[i]? = some v → kindOf x ≠ some .local →
    bindC kindOf (P.zip vs) m x = some v
  | [], _, _, _, _, h, _, _ => by simp at h
  | _ :: _, [], _, _, _, _, h, _ => by simp at h
  | p :: P, w :: vs, 0, m, nd, h1, h2, hk => by
    simp at h1 h2; subst h1; subst h2
    show bindC kindOf ((p, w) :: P.zip vs) m p = _
    unfold bindC
    rw [bindC_out fun v hv => (List.nodup_cons.mp nd).1 (List.of_mem_zip hv).1, if_neg hk]
    simp
  | p :: P, w :: vs, i + 1, m, nd, h1, h2, hk => by
    show bindC kindOf ((p, w) :: P.zip vs) m x = _
    unfold bindC
    exact bindC_get (i := i) (List.nodup_cons.mp nd).2 (by simpa using h1) (by simpa using h2) hk

noncomputable def start (N : List Str) (vs : List V) : St := vs.map some ++ List.replicate (N.length - vs.length) none

noncomputable def cxOf (CX : CXT) (P : Program) (w : World) (K : PySem.W.Frag) (mg : Str → Option Value) (base : Heap) (N : List Str) (qual : Str) (scope : Scope) (f : Addr) (cd : Value) (A : Around) (outer : List Env) (s : Shared) (H : Hp) (E : XK) : Cx where
  prog := P
  w := w
  K := K
  mg := mg
  base := base
  A := A.deeper (envOfC qual scope s.heap.objs.size f cd)
  N := N
  s₀ := s
  H₀ := H
  env := envOfC qual scope s.heap.objs.size f cd
  outer := outer
  stack := envOfC qual scope s.heap.objs.size f cd :: outer
  ex := []
  calm := true
  fn := fun _ => true
  pn := []
  xe := fun e s' => wpAny (model P w) (A.deeper (envOfC qual scope s.heap.objs.size f cd)) (leaving (envOfC qual scope s.heap.objs.size f cd) e) (fun _ s'' => CX outer H s E e s'') (fun e' s'' => CX outer H s E e' s'') s'

private theorem cell_has {sc : Scope} {n : Nat} {x : Str} (h : sc.names.lookup x = some .cell) : ∃ c, (cellsFrom n sc.names []).lookup x = some c := by
  have q := PySem.W.cellsFrom_some sc.names n [] (.inl h)
  exact Option.isSome_iff_exists.mp q

private theorem inv_start {CX : CXT} {P : Program} {w : World} {K : PySem.W.Frag} {mg : Str → Option Value} {base : Heap} {N ps : List Str} {qual : Str} {scope : Scope} {f : Addr} {cd : Value} {A : Around} {outer : List Env} {s s1 : Shared} {H : Hp} {E : XK} {us : List Value} {vs : List V}
    (S : FnScope N ps scope) (hd : A.handled = none) (e0 : Env0 P w K mg base A outer s H) (hl : vs.length = ps.length) (r : Vals vs us)
    (x : InCallC s s.heap.objs.size (bindL (envOfC qual scope s.heap.objs.size f cd).kindOf (ps.zip us) fun _ => none) (cellsFrom (s.heap.objs.size + 1) scope.names []) (bindC (envOfC qual scope s.heap.objs.size f cd).kindOf (ps.zip us) fun _ => none) s1) :
    Inv (cxOf CX P w K mg base N qual scope f cd A outer s H E) [] (start N vs) H s1 := by
  have hpl : ps.length ≤ N.length := by have := congrArg List.length S.pre; rw [List.length_take] at this; omega
  obtain ⟨h1, tk, rfl, hk⟩ := x.done
  have noA : ∀ b : Addr, b ∉ (cxOf CX P w K mg base N qual scope f cd A outer s H E).ex := fun b z => absurd (show b ∈ ([] : List Addr) from z) (by simp)
  refine ⟨⟨e0.mod, S.kind, rfl, rfl, Nat.le_refl _, fun y z c h1 h2 => ?_, fun y hy => ?_, fun y c _ h => ?_, fun _ => hd, Around.frames_deeper e0.frames, .inr ⟨rfl, rfl⟩, fun b z => absurd z (noA b), e0.bs, e0.bsz, fun b _ _ => noA b, fun b z => absurd z (noA b), e0.funs, e0.frf⟩,
    rfl, e0.bare, Un.kept hk, ⟨_, x.toInCall.ns, fun i y v h1 h2 h3 => ?_⟩, fun y c h => ⟨_, x.cell y c h⟩, e0.hok.fresh (Nat.le_refl _), fun y c h => ?_, fun p hp => absurd (show p ∈ ([] : List (Addr × Obj)) from hp) (by simp), e0.hok.kept hk, ?_⟩
  · exact name_of_addr x.apart (PySem.mem_of_lookup h1) (PySem.mem_of_lookup h2)
  · have hy : scope.names.lookup y = some .cell ∨ scope.names.lookup y = some .free := hy
    rcases hy with hy | hy
    · exact cell_has hy
    · exact absurd rfl (S.nofree _ (PySem.mem_of_lookup hy))
  · exact Nat.le_of_lt (x.above y c (PySem.mem_of_lookup h))
  · have hi : i < vs.length := by
      unfold start at h2
      by_cases hi : i < vs.length
      · exact hi
      · rw [List.getElem?_append_right (by simpa using hi)] at h2
        rw [List.getElem?_replicate] at h2
        split at h2 <;> cases h2
    have ha : vs[i]? = some v := by
      unfold start at h2
      rw [List.getElem?_append_left (by simpa using hi), List.getElem?_map] at h2
      cases e : vs[i]? with
      | none => rw [e] at h2; cases h2
      | some a => rw [e] at h2; cases h2; rfl
    obtain ⟨u, hu, rv⟩ := r.get ha
    have hp : ps[i]? = some y := by
      rw [← S.pre, List.getElem?_take_of_lt (by omega)]; exact h1
    have ndP : ps.Nodup := by rw [← S.pre]; exact S.nd.sublist (List.take_sublist _ _)
    refine ⟨u, rv, ?_⟩
    rcases S.par y (List.mem_of_getElem? hp) with k | k
    · exact .inl ⟨k, bindL_get ndP hp hu k⟩
    · obtain ⟨c, e⟩ := cell_has (n := s.heap.objs.size + 1) k
      refine .inr ⟨.inl k, c, e, ?_⟩
      have q := x.cell y c e
      rw [bindC_get ndP hp hu (by show scope.names.lookup y ≠ _; rw [k]; decide)] at q
      exact q
  · exact e0.hok.fresh (Nat.le_of_lt (x.above y c (PySem.mem_of_lookup h)))
  · unfold start
    show _ = N.length
    rw [List.length_append, List.length_map, List.length_replicate]
    omega

private theorem fn_of {CX : CXT} {P : Program} {w : World} {K : PySem.W.Frag} {mg : Str → Option Value} {base : Heap} {k : Nat} {f : Addr} {name qual : Str} {params : Arguments} {body : List Stmt} {scope : Scope} {dV kV doc pm cdv ct oc : Value} {an od : Option Addr}
    {osl : Array (Option Value)} {N ps : List Str} {sp : Sp} (lk : K.lookup f = some ⟨oc, od, .func (PySem.W.fnOf name qual params body scope dV kV doc pm an cdv ct), osl⟩) (hcd : PySem.W.codeIn K cdv qual = true) (S : FnScope N ps scope)
    (len : ∀ vs H Q E, sp vs H Q E → vs.length = ps.length)
    (hbody : ∀ (A : Around) (outer : List Env) (s : Shared) (H : Hp) (vs : List V) (Q : VK) (E : XK), Room k (A.deeper (envOfC qual scope s.heap.objs.size f cdv)) → sp vs H Q E →
      ∃ t, PSs (cxOf CX P w K mg base N qual scope f cdv A outer s H E) body t ∧ t { nx := fun _ H' => Q .non H', rt := Q } (start N vs) H) :
    FnOk P w K mg base CX (k + 1) f (PySem.W.fnOf name qual params body scope dV kV doc pm an cdv ct) ps sp := by
  refine ⟨len, fun A outer s H args us vs Q E hr e0 hb r hsp => ?_⟩
  have hl := len _ _ _ _ hsp
  have KX : K.In s.heap := e0.mod.kin.keeps fun b o e => (e0.bs b o e).1
  have lim : s.heap.NoLimit := e0.mod.nolimit.keeps fun b o e => (e0.bs b o e).1
  have hkind : ∀ y ∈ ps.zip us, scope.names.lookup y.1 = some .local ∨ (scope.names.lookup y.1 = some .cell ∧ ((cellsFrom (s.heap.objs.size + 1) scope.names []).lookup y.1).isSome = true) := fun ⟨n, v⟩ hy => by
    rcases S.par n (List.of_mem_zip hy).1 with q | q
    · exact .inl q
    · exact .inr ⟨q, PySem.W.cellsFrom_some _ _ _ (.inl q)⟩
  refine codeAny_call_function hr.depth (KX _ _ lk) rfl S.co S.gen rfl (PySem.W.codeRec_of KX hcd) (hb _ _ _ _ ?_)
  refine wpAny_newFunctionEnv_cells S.kind hkind fun env he s1 x => ?_
  subst he
  refine ⟨lim.keeps x.toInCall.keep, codeAny_func ?_⟩
  obtain ⟨t, ht, hq⟩ := hbody A outer s H vs Q E (hr.deeper _) hsp
  have I : Inv (cxOf CX P w K mg base N qual scope f cdv A outer s H E) [] (start N vs) H s1 := inv_start S hr.hd e0 hl r x
  refine wpAny_mono (ht [] s1 (start N vs) H _ I hq) (fun fl s' hs => ?_) fun e s' hs => hs
  have fin : ∀ {σ' : St} {H' : Hp} {v : V} {u : Value}, Inv (cxOf CX P w K mg base N qual scope f cdv A outer s H E) [] σ' H' s' → RelV v u → Q v H' → CE outer P w H s Q u s' :=
    fun {σ' H' v u} J rv q => ⟨v, H', J.os, J.bare, J.base, J.hok, rv, q⟩
  cases fl with
  | ret u =>
    obtain ⟨v, σ', H', J, rv, q⟩ := hs
    exact fin J rv q
  | next =>
    obtain ⟨σ', H', J, q⟩ := hs
    exact fin (v := V.non) (u := Value.none) J rfl q
  | brk =>
    obtain ⟨_, _, _, q⟩ := hs
    exact False.elim q
  | cont =>
    obtain ⟨_, _, _, q⟩ := hs
    exact False.elim q
end L2

namespace L2
open PySem PySem.Spec PyProof.Rows
section
variable {X : Cx} {x : Str} {p pos : Pos} {e : Expr} {es : List Expr} {t : TA} {id T : String} {r : List V → Hp → VK → Prop}

noncomputable def tCB (r : List V → Hp → VK → Prop) (t : TA) : TE := fun σ H Q => t σ H fun vs H1 => r vs H1 Q
private theorem pe_callB (hc : CallR X (.builtin id) r) (hg : Gl X x) (hm : X.mg x = none) (hv : bootBuiltins x = some (.builtin id)) (ha : PA X (e :: es) t) (hn : autoParam (x ≠ "__name__") _root_.zt1) (hdb : autoParam ((x == ("__debug__" : Str)) = false) _root_.zt1)
    (he : autoParam (starEach (e :: es) X.env = (false, eval e X.env) :: starEach es X.env) _root_.zt2) (hpl : autoParam ((backTo pos (starEach es X.env)).any (·.1) = false) _root_.zt2) : PE X (.Call (.Name x p) (e :: es) [] pos) (tCB r t) := by
  intro pins s σ H Q I h
  refine wpAny_Call_Name_kw (ld_blt I hg hm hv ?_ hn hdb)
  exact PyProof.Rows.callWith_builtin1 (thn (ha pos pins s σ H _ I h) fun us s1 ⟨vs, H1, I1, r1, q1⟩ => hc pins s1 σ H1 vs us Q I1 r1 q1) he hpl
private theorem pe_callTy (hc : CallR X (.type T) r) (hg : Gl X x) (hm : X.mg x = none) (hv : bootBuiltins x = some (.type T)) (ha : PA X (e :: es) t) (hn : autoParam (x ≠ "__name__") _root_.zt1) (hdb : autoParam ((x == ("__debug__" : Str)) = false) _root_.zt1)
    (he : autoParam (starEach (e :: es) X.env = (false, eval e X.env) :: starEach es X.env) _root_.zt2) (hpl : autoParam ((backTo pos (starEach es X.env)).any (·.1) = false) _root_.zt2) : PE X (.Call (.Name x p) (e :: es) [] pos) (tCB r t) := by
  intro pins s σ H Q I h
  refine wpAny_Call_Name_kw (ld_blt I hg hm hv ?_ hn hdb)
  exact PyProof.Rows.callWith_type1 (thn (ha pos pins s σ H _ I h) fun us s1 ⟨vs, H1, I1, r1, q1⟩ => hc pins s1 σ H1 vs us Q I1 r1 q1) he hpl
end
end L2

namespace HT
open PySem PyProof.Rows

private theorem rcLt_int (A : Around) (s : Shared) (a : Int) (t : Tok) (c : Int) (u : Tok) (prog : Program) (w : World) (E : Value → Shared → Prop) (Q : Value → Shared → Prop) (h : Q (.bool (decide (a < c))) s) :
    wpAny (model prog w) A (richCompare .Lt (.int a t) (.int c u)) Q E s :=
  (PyProof.Rows.lt_int h : wpAny (model prog w) A (compareOp .Lt (.int a t) (.int c u)) Q E s)

section
open PySem.SeqAt
open PySem.AutoSeq1 (wpAny_loadPart')
open PySem.MeetsSeq PySem.MeetsSeq2 PySem.MeetsSeq3

end

section
variable {prog : Program} {w : World} {A : Around} {E : Value → Shared → Prop} {s : Shared}

end
end HT

namespace L2
open PySem PySem.Spec PyProof.Rows

noncomputable abbrev TO := St → Hp → (Option Int → Hp → Prop) → Prop
noncomputable def PO (X : Cx) (e : Option Expr) (t : TO) : Prop :=
  ∀ (pins : List (Addr × Obj)) (s : Shared) (σ : St) (H : Hp) (Q : Option Int → Hp → Prop), Inv X pins σ H s → t σ H Q →
    wpAny (model X.prog X.w) X.A (evalPart e X.env) (fun u s' => ∃ o H', Inv X pins σ H' s' ∧ IsPart u o ∧ Q o H') X.xe s
private theorem intsAre_of {ns : List Int} : ∀ {us : List Value}, Vals (ns.map V.int) us → IntsAre us ns := by
  induction ns with
  | nil => intro us r; rw [List.map_nil] at r; cases r; exact .nil
  | cons n ns ih =>
    intro us r
    rw [List.map_cons] at r
    cases r with
    | cons r1 r2 =>
      obtain ⟨t, e⟩ := r1
      subst e
      exact .cons n t (ih r2)

section
variable {X : Cx} {e : Expr} {te : TE} {lo hi : Option Expr} {tl th : TO} {pos p2 : Pos}

noncomputable def SlR (X : Cx) (r : V → Option Int → Option Int → Hp → VK → Prop) : Prop :=
  ∀ (pins : List (Addr × Obj)) (s : Shared) (σ : St) (H : Hp) (x : V) (v vl vu : Value) (lo hi : Option Int) (sl : Addr) (Q : VK), Inv X pins σ H s → RelV x v → s.heap.IsSliceOf sl vl vu .none → IsPart vl lo → IsPart vu hi → r x lo hi H Q →
    ∃ T id, typeLookup (.type T) "__getitem__" = pure (some (.builtin id)) ∧ s.TypeIs v T ∧ wpAny (model X.prog X.w) X.A (getItem v (.ref sl)) (EP X pins σ Q) X.xe s
private theorem SlR.or {r r' : V → Option Int → Option Int → Hp → VK → Prop} (h : SlR X r) (h' : SlR X r') : SlR X (fun x lo hi H Q => r x lo hi H Q ∨ r' x lo hi H Q) := by
  intro pins s σ H x v vl vu lo hi sl Q I rx hs pl pu q
  rcases q with q | q
  · exact h pins s σ H x v vl vu lo hi sl Q I rx hs pl pu q
  · exact h' pins s σ H x v vl vu lo hi sl Q I rx hs pl pu q
end
end L2

namespace L2
open PySem PySem.Spec PyProof.Rows

noncomputable def ixN (n : Nat) (i : Int) : Option Nat := if 0 ≤ i then (if i < n then some i.toNat else none) else if -(n : Int) ≤ i then some (i + n).toNat else none
noncomputable def atI {α : Type} (xs : List α) (i : Int) : Option α := (ixN xs.length i).bind fun j => xs[j]?
private theorem ixN_seq {n : Nat} {i : Int} {j : Nat} (h : ixN n i = some j) : seqIndex? i n = some j ∧ j < n ∧ -(n : Int) ≤ i ∧ i < n := by
  unfold ixN at h
  by_cases h0 : 0 ≤ i
  · rw [if_pos h0] at h
    by_cases h1 : i < n
    · rw [if_pos h1] at h
      have e : i.toNat = j := Option.some.inj h
      exact ⟨by rw [seqIndex_of h0 h1, e], by omega, by omega, h1⟩
    · rw [if_neg h1] at h; cases h
  · rw [if_neg h0] at h
    by_cases h1 : -(n : Int) ≤ i
    · rw [if_pos h1] at h
      have e : (i + n).toNat = j := Option.some.inj h
      exact ⟨by rw [seqIndex_neg (by omega) h1, e], by omega, h1, by omega⟩
    · rw [if_neg h1] at h; cases h
private theorem atI_get {α : Type} {xs : List α} {i : Int} {v : α} (h : atI xs i = some v) : ∃ j, seqIndex? i xs.length = some j ∧ xs[j]? = some v ∧ j < xs.length ∧ -(xs.length : Int) ≤ i ∧ i < xs.length := by
  unfold atI at h
  cases e : ixN xs.length i with
  | none => rw [e] at h; cases h
  | some j =>
    rw [e] at h
    obtain ⟨h1, h2, h3, h4⟩ := ixN_seq e
    exact ⟨j, h1, h, h2, h3, h4⟩
private theorem atI_nat {α : Type} {xs : List α} {j : Nat} {v : α} (h : xs[j]? = some v) : atI xs (j : Int) = some v := by
  have hj : j < xs.length := (List.getElem?_eq_some_iff.mp h).1
  have e : ixN xs.length (j : Int) = some j := by
    unfold ixN
    rw [if_pos (by omega), if_pos (by omega)]; simp
  unfold atI; rw [e]; exact h
noncomputable def PlainIx (b : Expr) : Prop := ∀ o i, subscripted b false o i = operate [o, i] (getItem o i)
noncomputable def IxR (X : Cx) (r : R2) : Prop :=
  ∀ (value slice : Expr) (pins : List (Addr × Obj)) (s : Shared) (σ : St) (H : Hp) (x y : V) (v u : Value) (Q : VK), Inv X pins σ H s → RelV x v → RelV y u → r x y H Q →
    subscripted slice false v u = operate [v, u] (getItem v u) → wpAny (model X.prog X.w) X.A (subscriptTail value slice v u) (EP X pins σ Q) X.xe s
noncomputable def MtR (X : Cx) (id : String) (r : V → List V → Hp → VK → Prop) : Prop :=
  ∀ (pins : List (Addr × Obj)) (s : Shared) (σ : St) (H : Hp) (x : V) (xs : List V) (v : Value) (us : List Value) (Q : VK), Inv X pins σ H s → RelV x v → Vals xs us → r x xs H Q →
    wpAny (model X.prog X.w) X.A (call (.builtin id) (v :: us)) (EP X pins σ Q) X.xe s
section
variable {X : Cx} {a b : Expr} {ta tb : TE} {pos : Pos}
private theorem IxR.or {r r' : R2} (h : IxR X r) (h' : IxR X r') : IxR X (fun x y H Q => r x y H Q ∨ r' x y H Q) := by
  intro value slice pins s σ H x y v u Q I rx ry q hs
  rcases q with q | q
  · exact h value slice pins s σ H x y v u Q I rx ry q hs
  · exact h' value slice pins s σ H x y v u Q I rx ry q hs
private theorem MtR.or {id : String} {r r' : V → List V → Hp → VK → Prop} (h : MtR X id r) (h' : MtR X id r') : MtR X id (fun x xs H Q => r x xs H Q ∨ r' x xs H Q) := by
  intro pins s σ H x xs v us Q I rx rs q
  rcases q with q | q
  · exact h pins s σ H x xs v us Q I rx rs q
  · exact h' pins s σ H x xs v us Q I rx rs q
private theorem pe_ix {r : R2} (hr : IxR X r) (ha : PE X a ta) (hb : PE X b tb) (hs : PlainIx b) : PE X (.Subscript a b pos) (tOp r ta tb) := by
  intro pins s σ H Q I h
  exact Subscript_ (binT ha hb I h fun v u s2 x y H2 I2 rx ry q => hr a b pins s2 σ H2 x y v u Q I2 rx ry q (hs _ _))

noncomputable def rIxL (K : PySem.W.Frag) : R2 := fun x y H Q => ∃ p xs i v, x = .ref p ∧ y = .int i ∧ SqL K H p xs ∧ atI xs i = some v ∧ Q v H
noncomputable def rIxT (K : PySem.W.Frag) : R2 := fun x y H Q => ∃ p xs i v, x = .ref p ∧ y = .int i ∧ SqT K H p xs ∧ atI xs i = some v ∧ Q v H
noncomputable def rIxS : R2 := fun x y H Q => ∃ z i c, x = .str z ∧ y = .int i ∧ z.length ≤ sizeLine ∧ atI z.cps.toList i = some c ∧ Q (.str ⟨#[c]⟩) H
private theorem ix_list : IxR X (rIxL X.K) := by
  intro value slice pins s σ H x y v u Q I rx ry h hs
  obtain ⟨p, xs, i, z, rfl, rfl, hq, he, q⟩ := h
  cases rx
  obtain ⟨t, rfl⟩ := ry
  obtain ⟨its, r, pl, hz⟩ := I.list hq
  obtain ⟨j, h1, h2, h3, h4, h5⟩ := atI_get he
  obtain ⟨w, ew, rw'⟩ := r.get h2
  have hl := r.length
  have hn := line63
  have fin : EP X pins σ Q w s := ⟨z, H, I, rw', q⟩
  by_cases h0 : 0 ≤ i
  · have hj : i.toNat = j := by
      rw [seqIndex_of h0 h5] at h1
      exact Option.some.inj h1
    exact item_listR pl.isList h0 (by omega) (by rw [hj]; simpa using ew) fin hs
  · have hj : (i + (its.toArray.size : Int)).toNat = j := by
      rw [seqIndex_neg (by omega) h4] at h1
      rw [List.size_toArray, ← hl]
      exact Option.some.inj h1
    exact subscriptTail_builtinR (x := w) pl.isList.typeIs slot_list_getitem.lookup
      (wpAny_getItem_list_neg (Q := fun r s' => r = w ∧ EP X pins σ Q r s') pl.isList (by omega) (by rw [List.size_toArray] <;> omega) (by omega) (by rw [hj]; simpa using ew) ⟨rfl, fin⟩) hs
private theorem ix_tup : IxR X (rIxT X.K) := by
  intro value slice pins s σ H x y v u Q I rx ry h hs
  obtain ⟨p, xs, i, z, rfl, rfl, hq, he, q⟩ := h
  cases rx
  obtain ⟨t, rfl⟩ := ry
  obtain ⟨its, r, pl, hz⟩ := I.tuple hq
  obtain ⟨j, h1, h2, h3, h4, h5⟩ := atI_get he
  obtain ⟨w, ew, rw'⟩ := r.get h2
  have hl := r.length
  have hn := line63
  have fin : EP X pins σ Q w s := ⟨z, H, I, rw', q⟩
  exact subscriptTail_builtinR (x := w) pl.typeIs slot_tuple_getitem.lookup
    (getItem_tuple (j := j) (Q := fun r s' => r = w ∧ EP X pins σ Q r s') pl (by omega) (by omega) (by rw [List.size_toArray, ← hl]; exact h1) (by simpa using ew) ⟨rfl, fin⟩) hs
private theorem ix_str : IxR X rIxS := by
  intro value slice pins s σ H x y v u Q I rx ry h hs
  obtain ⟨z, i, c, rfl, rfl, hz, he, q⟩ := h
  obtain ⟨t, rfl⟩ := rx
  obtain ⟨t', rfl⟩ := ry
  obtain ⟨j, h1, h2, h3, h4, h5⟩ := atI_get he
  have hl : z.cps.toList.length = z.length := by simp [Str.length]
  rw [hl] at h1 h4 h5
  have hn := line63
  exact tail_any (typeIs_str s z t) slot_str_getitem.lookup (getItem_str (c := c) (by
    have e1 : decide (i < -(2 ^ 63 : Int)) = false := decide_eq_false (by omega)
    have e2 : decide (i ≥ 2 ^ 63) = false := decide_eq_false (by omega)
    rw [e1, e2, Bool.or_false]) (by rw [h1]; simpa using h2) ⟨.str ⟨#[c]⟩, H, I.tok _, ⟨_, rfl⟩, q⟩) hs
private theorem mapSeq_set (its : List Value) (n j : Nat) (u : Value) : Obj.mapSeq (·.setIfInBounds j u) { cls := .type "list", data := .seq its.toArray n } = { cls := .type "list", data := .seq (its.set j u).toArray n } := by
  simp [Obj.mapSeq]
private theorem Inv.lst {pins : List (Addr × Obj)} {σ : St} {H : Hp} {s : Shared} {p : Addr} {xs : List V} (I : Inv X pins σ H s) (h : H p = some (.lst xs)) :
    ∃ (its : List Value) (n : Nat), Vals xs its ∧ s.heap.get? p = some { cls := .type "list", data := .seq its.toArray n } ∧ xs.length ≤ sizeLine := by
  obtain ⟨z, its, n, r, e⟩ := I.hok p _ h
  exact ⟨its, n, r, e, z⟩
private theorem Inv.lstUpd {pins : List (Addr × Obj)} {σ : St} {H : Hp} {s : Shared} {p : Addr} {xs ys : List V} {its its' : List Value} {n n' : Nat} {f : Obj → Obj} (I : Inv X pins σ H s) (h : H p = some (.lst xs))
    (ho : s.heap.get? p = some { cls := .type "list", data := .seq its.toArray n }) (hf : f { cls := .type "list", data := .seq its.toArray n } = { cls := .type "list", data := .seq its'.toArray n' }) (r : Vals ys its') (hz : ys.length ≤ sizeLine) (t : Nat) :
    Inv X pins σ (upd H p (.lst ys)) { s with heap := s.heap.update p f, toks := t } := by
  have e : (s.heap.update p f).get? p = some { cls := .type "list", data := .seq its'.toArray n' } := by
    rw [Heap.get?_update_self f ho (by rw [hf] <;> rfl), hf]
  refine I.write (x := p) (e := p) (by rw [h]; trivial) (.inl rfl) (fun b u hb q => (Heap.get?_update_other _ _ (Ne.symm hb)).trans q) ⟨_, e⟩ ?_
  exact ⟨hz, its', n', r, e⟩
noncomputable def rSetL : V → V → V → Hp → (Hp → Prop) → Prop := fun o i v H Q => ∃ p xs k j, o = .ref p ∧ i = .int k ∧ H p = some (.lst xs) ∧ ixN xs.length k = some j ∧ Q (upd H p (.lst (xs.set j v)))
private theorem set_list : PSet X rSetL := by
  intro pins s σ H o i v ov iv u Q I ro ri rv h
  obtain ⟨p, xs, k, j, rfl, rfl, hp, hj, q⟩ := h
  cases ro
  obtain ⟨t, rfl⟩ := ri
  obtain ⟨its, n, r, ho, hz⟩ := I.lst hp
  obtain ⟨h1, h2, h3, h4⟩ := ixN_seq hj
  have hl := r.length
  have hn := line63
  have I' : Inv X pins σ (upd H p (.lst (xs.set j v))) { s with heap := s.heap.update p (Obj.mapSeq (·.setIfInBounds j u)) } :=
    I.lstUpd hp ho (mapSeq_set its n j u) (r.set rv j) (by rw [List.length_set]; exact hz) s.toks
  by_cases h0 : 0 ≤ k
  · have hk : k.toNat = j := by
      rw [seqIndex_of h0 h4] at h1
      exact Option.some.inj h1
    exact PySem.W.ki_setAt ho h0 (by omega) (by rw [List.size_toArray, ← hl]; exact h4) (by rw [hk]; exact ⟨_, I', q⟩)
  · have hk : (k + (its.toArray.size : Int)).toNat = j := by
      rw [seqIndex_neg (by omega) h3] at h1
      rw [List.size_toArray, ← hl]
      exact Option.some.inj h1
    exact PySem.W.ki_setBack ho (by omega) (by rw [List.size_toArray, ← hl]; exact h3) (by omega) (by rw [hk]; exact ⟨_, I', q⟩)

noncomputable def flatV : V → Bool
  | .non => true
  | .bl _ => true
  | .int _ => true
  | .str _ => true
  | _ => false
noncomputable def eqV : V → V → Bool
  | .non, .non => true
  | .bl a, .bl b => a == b
  | .bl a, .int b => (if a then 1 else 0) == b
  | .int a, .bl b => a == (if b then 1 else 0)
  | .int a, .int b => a == b
  | .str a, .str b => a == b
  | _, _ => false
private theorem eqAt_V {A : Around} {s : Shared} {y x : V} {u v : Value} (ry : RelV y u) (rx : RelV x v) (fy : flatV y = true) (fx : flatV x = true) : SeqAt.EqAt A s u v (eqV y x) := by
  cases y with
  | non =>
    cases ry
    cases x with
    | non => cases rx; exact SeqAt.EqAt.same _
    | bl b => cases rx; exact SeqAt.EqAt.none_bool b
    | int b => obtain ⟨t, rfl⟩ := rx; exact SeqAt.EqAt.none_int b t
    | str b => obtain ⟨t, rfl⟩ := rx; exact SeqAt.EqAt.none_str b t
    | _ => exact absurd (show false = true from fx) Bool.false_ne_true
  | bl a =>
    cases ry
    cases x with
    | non => cases rx; exact SeqAt.EqAt.bool_none a
    | bl b => cases rx; exact SeqAt.EqAt.bool_bool a b
    | int b => obtain ⟨t, rfl⟩ := rx; exact SeqAt.EqAt.bool_int a b t
    | str b => obtain ⟨t, rfl⟩ := rx; exact SeqAt.EqAt.bool_str a b t
    | _ => exact absurd (show false = true from fx) Bool.false_ne_true
  | int a =>
    obtain ⟨t', rfl⟩ := ry
    cases x with
    | non => cases rx; exact SeqAt.EqAt.int_none a t'
    | bl b => cases rx; exact SeqAt.EqAt.int_bool a t' b
    | int b => obtain ⟨t, rfl⟩ := rx; exact SeqAt.EqAt.int_int a t' b t
    | str b => obtain ⟨t, rfl⟩ := rx; exact SeqAt.EqAt.int_str a t' b t
    | _ => exact absurd (show false = true from fx) Bool.false_ne_true
  | str a =>
    obtain ⟨t', rfl⟩ := ry
    cases x with
    | non => cases rx; exact SeqAt.EqAt.str_none a t'
    | bl b => cases rx; exact SeqAt.EqAt.str_bool a t' b
    | int b => obtain ⟨t, rfl⟩ := rx; exact SeqAt.EqAt.str_int a t' b t
    | str b => obtain ⟨t, rfl⟩ := rx; exact SeqAt.EqAt.str_str a t' b t
    | _ => exact absurd (show false = true from fx) Bool.false_ne_true
  | _ => exact absurd (show false = true from fy) Bool.false_ne_true
noncomputable def eqU (x : V) (u : Value) : Bool := match u with
  | .none => eqV .non x
  | .bool b => eqV (.bl b) x
  | .int i _ => eqV (.int i) x
  | .str z _ => eqV (.str z) x
  | _ => false
private theorem eqU_of {x y : V} {u : Value} (r : RelV y u) (f : flatV y = true) : eqU x u = eqV y x := by
  cases y with
  | non => cases r; rfl
  | bl b => cases r; rfl
  | int i => obtain ⟨t, rfl⟩ := r; rfl
  | str z => obtain ⟨t, rfl⟩ := r; rfl
  | _ => exact absurd (show false = true from f) Bool.false_ne_true
private theorem any_eqU {x : V} : ∀ {xs : List V} {us : List Value}, Vals xs us → xs.all flatV = true → us.any (eqU x) = xs.any fun y => eqV y x
  | _, _, .nil, _ => rfl
  | y :: xs, u :: us, .cons r t, f => by
    rw [List.all_cons, Bool.and_eq_true] at f
    rw [List.any_cons, List.any_cons, eqU_of r f.1, any_eqU t f.2]
private theorem mem_eqAt {A : Around} {s : Shared} {x : V} {v : Value} (rx : RelV x v) (fx : flatV x = true) : ∀ {xs : List V} {us : List Value}, Vals xs us → xs.all flatV = true → ∀ u ∈ us, SeqAt.EqAt A s u v (eqU x u)
  | _, _, .nil, _ => fun u hu => by cases hu
  | y :: xs, u :: us, .cons r t, f => fun u' hu => by
    rw [List.all_cons, Bool.and_eq_true] at f
    rcases List.mem_cons.mp hu with rfl | hu
    · rw [eqU_of r f.1]; exact eqAt_V r rx f.1 fx
    · exact mem_eqAt rx fx t f.2 u' hu
noncomputable def inV (x : V) (xs : List V) : Bool := xs.any fun y => eqV y x
noncomputable def rIn (K : PySem.W.Frag) (neg : Bool) : R2 := fun x y H Q => ∃ p xs, y = .ref p ∧ (SqL K H p xs ∨ SqT K H p xs) ∧ flatV x = true ∧ xs.all flatV = true ∧ Q (.bl (if neg then !inV x xs else inV x xs)) H
private theorem op_in_seq : OpR X (compareOp .In) (rIn X.K false) := by
  intro pins s σ H x y v u Q I rx ry h
  obtain ⟨p, xs, rfl, hq, fx, fs, q⟩ := h
  cases ry
  rcases hq with hq | hq
  · obtain ⟨its, r, pl, hz⟩ := I.list hq
    refine SeqAt.in_listAt (eqU x) pl.isList (fun w hw => mem_eqAt rx fx r fs w (by simpa using hw)) ⟨.bl _, H, I, rfl, ?_⟩
    rw [show its.toArray.any (eqU x) = its.any (eqU x) by simp, any_eqU r fs]
    exact q
  · obtain ⟨its, r, pl, hz⟩ := I.tuple hq
    refine SeqAt.in_tupleAt (eqU x) pl (fun w hw => mem_eqAt rx fx r fs w (by simpa using hw)) ⟨.bl _, H, I, rfl, ?_⟩
    rw [show its.toArray.any (eqU x) = its.any (eqU x) by simp, any_eqU r fs]
    exact q
private theorem call_len_seq : CallR X (.builtin "len") (fun xs H Q => ∃ p ys, xs = [.ref p] ∧ (SqL X.K H p ys ∨ SqT X.K H p ys) ∧ Q (.int ys.length) H) := by
  intro pins s σ H xs us Q I r h
  obtain ⟨p, ys, rfl, hq, q⟩ := h
  obtain ⟨u, rfl, rx⟩ := vals1 r
  cases rx
  have hn := line63
  rcases hq with hq | hq
  · obtain ⟨its, r', pl, hz⟩ := I.list hq
    have hlen := r'.length
    exact Calls.call_len_list pl.isList (by simp only [List.size_toArray] <;> omega) ⟨.int ys.length, H, I.tok _, ⟨s.toks + 1, by rw [List.size_toArray, hlen]⟩, q⟩
  · obtain ⟨its, r', pl, hz⟩ := I.tuple hq
    have hlen := r'.length
    exact len_tuple pl (by simp only [List.size_toArray] <;> omega) ⟨.int ys.length, H, I.tok _, ⟨s.toks + 1, by rw [List.size_toArray, hlen]⟩, q⟩
private theorem call_len_str : CallR X (.builtin "len") (fun xs H Q => ∃ z, xs = [.str z] ∧ z.length ≤ sizeLine ∧ Q (.int z.length) H) := by
  intro pins s σ H xs us Q I r h
  obtain ⟨z, rfl, hz, q⟩ := h
  obtain ⟨u, rfl, t, rfl⟩ := vals1 r
  have hn := line63
  exact len_str (by omega) ⟨.int z.length, H, I.tok _, ⟨_, rfl⟩, q⟩
private theorem CallR.or {f : Value} {r r' : List V → Hp → VK → Prop} (h : CallR X f r) (h' : CallR X f r') : CallR X f (fun xs H Q => r xs H Q ∨ r' xs H Q) := by
  intro pins s σ H xs us Q I rs q
  rcases q with q | q
  · exact h pins s σ H xs us Q I rs q
  · exact h' pins s σ H xs us Q I rs q
private theorem call_list_of : CallR X (.type "list") (fun xs H Q => ∃ p ys, xs = [.ref p] ∧ (SqL X.K H p ys ∨ SqT X.K H p ys) ∧ ∀ l, H l = none → Q (.ref l) (upd H l (.lst ys))) := by
  intro pins s σ H xs us Q I r h
  obtain ⟨p, ys, rfl, hq, q⟩ := h
  obtain ⟨u, rfl, rx⟩ := vals1 r
  cases rx
  have fin : ∀ (its : List Value), Vals ys its → ys.length ≤ sizeLine → ∀ (h' : Heap) (c' : Nat), (∀ b o', s.heap.get? b = some o' → h'.get? b = some o') →
      h'.get? s.heap.objs.size = some { cls := .type "list", dict := none, data := .seq its.toArray c', slots := #[] } → EP X pins σ Q (.ref s.heap.objs.size) { s with heap := h' } := fun its r' hz h' c' kp e =>
    ⟨.ref s.heap.objs.size, _, I.laid (t' := s.toks) kp (Nat.le_refl _) (show ObjOk X.prog X.w _ h' _ (.lst ys) from ⟨hz, its, c', r', e⟩), rfl, q _ (I.hok.fresh (Nat.le_refl _))⟩
  rcases hq with hq | hq
  · obtain ⟨its, r', pl, hz⟩ := I.list hq
    have hlen := r'.length
    obtain ⟨o, ho, hc, n, hd⟩ := pl.isList
    exact call_list_seq p (.inl rfl) ho hc hd (fun h' c' kp e => fin its r' hz h' c' kp e) (by simp only [List.size_toArray] <;> omega)
  · obtain ⟨its, r', pl, hz⟩ := I.tuple hq
    have hlen := r'.length
    obtain ⟨o, ho, hc, n, hd⟩ := pl
    exact call_list_seq p (.inr rfl) ho hc hd (fun h' c' kp e => fin its r' hz h' c' kp e) (by simp only [List.size_toArray] <;> omega)
noncomputable def tyV (K : PySem.W.Frag) (T : String) (x : V) (H : Hp) : Prop := match x with
  | .str _ => T = "str"
  | .int _ => T = "int"
  | .ref p => (T = "list" ∧ ∃ xs, SqL K H p xs) ∨ (T = "tuple" ∧ ∃ o, K.lookup p = some o ∧ o.cls = .type "tuple" ∧ o.dict = none) ∨
      (T = "dict" ∧ ((∃ kvs, H p = some (.dK kvs)) ∨ ∃ kvs, H p = some (.dT kvs))) ∨ (T = "set" ∧ ∃ S n, H p = some (.set S n))
  | _ => False
private theorem tyV_is {pins : List (Addr × Obj)} {σ : St} {H : Hp} {s : Shared} {T : String} {x : V} {v : Value} (I : Inv X pins σ H s) (r : RelV x v) (ty : tyV X.K T x H) :
    s.TypeIs v T ∧ ∀ a, v = .ref a → ∃ ob, s.heap.get? a = some ob ∧ ob.dict = none := by
  cases x with
  | str z =>
    obtain ⟨t, rfl⟩ := r
    cases (show T = "str" from ty)
    exact ⟨typeIs_str s z t, fun _ e => nomatch e⟩
  | int i =>
    obtain ⟨t, rfl⟩ := r
    cases (show T = "int" from ty)
    exact ⟨typeIs_int s i t, fun _ e => nomatch e⟩
  | ref p =>
    cases r
    rcases ty with ⟨rfl, xs, hq⟩ | ⟨rfl, o, hk, hc, hd⟩ | ⟨rfl, hk⟩ | ⟨rfl, S, n, hk⟩
    · obtain ⟨its, _, pl, _⟩ := I.list hq
      refine ⟨pl.isList.typeIs, fun a e => ?_⟩
      cases e
      obtain ⟨o, n, e, c, hd, _⟩ := pl
      exact ⟨o, e, hd⟩
    · refine ⟨⟨o, I.kIn p o hk, hc⟩, fun a e => ?_⟩
      cases e
      exact ⟨o, I.kIn _ o hk, hd⟩
    · have z : ∃ o, s.heap.get? p = some o ∧ o.ExactDict := by
        rcases hk with ⟨kvs, hk⟩ | ⟨kvs, hk⟩
        · obtain ⟨_, _, _, _, o, _, _, e, ex, _⟩ := I.hok p _ hk
          exact ⟨o, e, ex⟩
        · obtain ⟨_, _, _, _, o, _, _, e, ex, _⟩ := I.hok p _ hk
          exact ⟨o, e, ex⟩
      obtain ⟨o, e, ex⟩ := z
      refine ⟨⟨o, e, ex.1⟩, fun a e2 => ?_⟩
      cases e2
      exact ⟨o, e, ex.2.1⟩
    · obtain ⟨o, _, _, _, e, ex, _⟩ := I.hok p _ hk
      refine ⟨⟨o, e, ex.1⟩, fun a e2 => ?_⟩
      cases e2
      exact ⟨o, e, ex.2.1⟩
  | _ => exact False.elim ty
noncomputable def tBM (K : PySem.W.Frag) (T : String) (r : V → List V → Hp → VK → Prop) (to : TE) (t : TA) : TE := fun σ H Q => to σ H fun x H1 => tyV K T x H1 ∧ t σ H1 fun xs H2 => r x xs H2 Q
variable {o e : Expr} {es : List Expr} {to : TE} {t : TA} {name : Str} {apos cpos : Pos} {T id : String} {r : V → List V → Hp → VK → Prop}
private theorem pe_bm (pa : PlainAttrs T) (slot : Slot T name id) (hty : typeOf (.builtin id) = pure (.type "method_descriptor")) (hm : MtR X id r) (ho : PE X o to) (ha : PA X (e :: es) t)
    (hbase : autoParam (attributeBase o name X.env (eval o X.env) = eval o X.env) _root_.zt2)
    (hfew : autoParam (((backTo cpos (starEach (e :: es) X.env)).all (fun x => !x.1) && (backToKw cpos (keywordEach [] X.env)).all (fun x => x.1.isSome)
      && decide ((e :: es).length + ([] : List Keyword).length + (if ([] : List Keyword).isEmpty then 0 else 1) < 30)) = true) _root_.zt2)
    (hline : autoParam ((apos.endLine == cpos.line) = true) _root_.zt2) (hs : autoParam (starEach (e :: es) X.env = (false, eval e X.env) :: starEach es X.env) _root_.zt2) (hplain : autoParam ((backTo cpos (starEach es X.env)).any (·.1) = false) _root_.zt2) :
    PE X (.Call (.Attribute o name apos) (e :: es) [] cpos) (tBM X.K T r to t) := by
  intro pins s σ H Q I h
  refine wpAny_Call_method_late hbase hfew hline rfl (thn (ho pins s σ H _ I h) fun v s1 zq9 => ?_)
  obtain ⟨x, H1, I1, r1, ty, q1⟩ := zq9
  obtain ⟨h1, h2⟩ := tyV_is I1 r1 ty
  refine ⟨T, id, pa, slot, hty, h1, h2, ?_⟩
  have hA := ha cpos pins s1 σ H1 _ I1 q1
  rw [hs] at hA ⊢
  refine Calls.callWith_builtin (by show (false || (backTo cpos (starEach es X.env)).any (·.1)) = false; rw [hplain] <;> rfl) (Calls.evalArgs_plain ?_)
  exact thn hA fun us s2 ⟨vs, H2, I2, r2, q2⟩ => hm pins s2 σ H2 x vs v us Q I2 r1 r2 q2
/- xs.append(e), list.index on a module's tuple .. are MtR facts of 06m -/
end
end L2

namespace L2
open PySem PySem.Spec PyProof.Rows

noncomputable def MtM (X : Cx) (id : String) (r : V → List V → Hp → VK → Prop) : Prop :=
  ∀ (pins : List (Addr × Obj)) (s : Shared) (σ : St) (H : Hp) (x : V) (xs : List V) (v : Value) (us : List Value) (Q : VK), Inv X pins σ H s → RelV x v → Vals xs us → r x xs H Q →
    wpAny (model X.prog X.w) X.A (call (.builtin id) (v :: us)) (EP X pins σ Q) X.xe s

private theorem Vals.one {x : V} {us : List Value} (h : Vals [x] us) : ∃ u, us = [u] ∧ RelV x u := by
  cases h with
  | cons r q =>
    cases q
    exact ⟨_, rfl, r⟩
private theorem Vals.two {x y : V} {us : List Value} (h : Vals [x, y] us) : ∃ u v, us = [u, v] ∧ RelV x u ∧ RelV y v := by
  cases h with
  | cons r q =>
    cases q with
    | cons q z =>
      cases z
      exact ⟨_, _, rfl, r, q⟩
private theorem Vals.zero : ∀ {us : List Value}, Vals [] us → us = []
  | _, .nil => rfl
private theorem Vals.dropLast {xs : List V} {us : List Value} (h : Vals xs us) : Vals xs.dropLast us.dropLast := by
  induction h with
  | nil => exact .nil
  | cons r t ih =>
    cases t with
    | nil => exact .nil
    | cons q t' => exact .cons r ih
private theorem Vals.reverse {xs : List V} {us : List Value} (h : Vals xs us) : Vals xs.reverse us.reverse := by
  induction h with
  | nil => exact .nil
  | cons r t ih => rw [List.reverse_cons, List.reverse_cons]; exact Vals.append ih (.cons r .nil)
private theorem Vals.rep {xs : List V} {us : List Value} (h : Vals xs us) : ∀ k : Nat, Vals (List.replicate k xs).flatten (List.replicate k us).flatten
  | 0 => .nil
  | k + 1 => by
    rw [List.replicate_succ, List.replicate_succ, List.flatten_cons, List.flatten_cons]
    exact Vals.append h (Vals.rep h k)
section
variable {X : Cx} {pins : List (Addr × Obj)} {σ : St} {H : Hp} {s : Shared} {l b : Addr} {xs ys zs : List V}

private theorem Inv.lset {its its' : List Value} {n : Nat} {f : Array Value → Array Value} {t' : Nat} (I : Inv X pins σ H s) (hH : H l = some (.lst xs))
    (e : s.heap.get? l = some { cls := .type "list", data := .seq its.toArray n }) (hf : f its.toArray = its'.toArray) (hv : Vals ys its') (hz : ys.length ≤ sizeLine) :
    Inv X pins σ (upd H l (.lst ys)) { s with heap := s.heap.update l (Obj.mapSeq f), toks := t' } := by
  have q := PySem.IsL.update e f
  rw [hf] at q
  refine I.write (x := l) (e := l) (by rw [hH]; exact trivial) (.inl rfl) (fun b' u hb hu => (Heap.get?_update_other s.heap (Obj.mapSeq f) (Ne.symm hb)).trans hu) ⟨_, q⟩ ?_
  exact ⟨hz, its', _, hv, q⟩
private theorem Inv.lnew {its : List Value} {t' : Nat} (I : Inv X pins σ H s) (hv : Vals ys its) (hz : ys.length ≤ sizeLine) :
    Inv X pins σ (upd H s.heap.objs.size (.lst ys)) { s with heap := s.heap.push { cls := .type "list", data := .seq its.toArray }, toks := t' } :=
  I.laid (fun _ _ q => Heap.get?_push_of_some _ q) (Nat.le_refl _) ⟨hz, its, 0, hv, Heap.get?_push_size _ rfl⟩
private theorem Inv.fresh (I : Inv X pins σ H s) : H s.heap.objs.size = none := I.hok.fresh (Nat.le_refl _)
private theorem Inv.lstM (I : Inv X pins σ H s) (hH : H l = some (.lst xs)) : xs.length ≤ sizeLine ∧ ∃ (its : List Value) (n : Nat), Vals xs its ∧ xs.length = its.length ∧ s.heap.get? l = some { cls := .type "list", data := .seq its.toArray n } := by
  obtain ⟨z, its, n, r, e⟩ := I.hok l _ hH
  exact ⟨z, its, n, r, r.length, e⟩

private theorem notLongL {n : Nat} (h : n ≤ sizeLine) : Builtin.List.listTooLong n = false := by
  unfold Builtin.List.listTooLong
  exact decide_eq_false (by omega)
end

section
variable {X : Cx}

noncomputable def rAppend : V → List V → Hp → VK → Prop := fun x vs H Q => ∃ l xs y, x = .ref l ∧ vs = [y] ∧ H l = some (.lst xs) ∧ xs.length < sizeLine ∧ Q .non (upd H l (.lst (xs ++ [y])))
private theorem mt_append : MtM X "list.append" rAppend := by
  intro pins s σ H x vs v us Q I rx rv h
  obtain ⟨l, xs, y, rfl, rfl, hH, hz, q⟩ := h
  cases rx
  obtain ⟨u, rfl, ru⟩ := rv.one
  obtain ⟨z, its, n, r, hl, e⟩ := I.lstM hH
  refine call_meets F.slot_list_append ⟨_, e, rfl⟩ F.entry_list_append (F.args_list_append_2 _ _) (PySem.list_append l its.toArray n u (by rw [List.size_toArray]; omega)) ⟨e, ?_⟩
  refine ⟨.non, _, I.lset (its' := its ++ [u]) hH e (by simp) (r.append (.cons ru .nil)) ?_, rfl, q⟩
  rw [List.length_append, List.length_singleton]
  omega

noncomputable def rExtend : V → List V → Hp → VK → Prop := fun x vs H Q => ∃ l b xs zs, x = .ref l ∧ vs = [.ref b] ∧ H l = some (.lst xs) ∧ H b = some (.lst zs) ∧ xs.length + zs.length ≤ sizeLine ∧ Q .non (upd H l (.lst (xs ++ zs)))
private theorem mt_extend : MtM X "list.extend" rExtend := by
  intro pins s σ H x vs v us Q I rx rv h
  obtain ⟨l, b, xs, zs, rfl, rfl, hH, hB, hz, q⟩ := h
  cases rx
  obtain ⟨u, rfl, ru⟩ := rv.one
  cases ru
  obtain ⟨z, its, n, r, hl, e⟩ := I.lstM hH
  obtain ⟨z2, its2, n2, r2, hl2, e2⟩ := I.lstM hB
  have hsz : its.toArray.size + its2.toArray.size ≤ sizeLine := by rw [List.size_toArray, List.size_toArray]; omega
  have hlong : ¬ (!its.toArray.isEmpty && Builtin.List.listTooLong (its.toArray.size + its2.toArray.size)) = true := by
    rw [notLongL hsz, Bool.and_false]
    exact Bool.false_ne_true
  refine call_meets F.slot_list_extend ⟨_, e, rfl⟩ F.entry_list_extend (F.args_list_extend_2 _ _)
    (AutoSeq1.list_extend_list_list_0 l its.toArray n b its2.toArray n2 hlong (by rw [List.size_toArray]; omega) (by omega)) ⟨e, e2, ?_⟩
  refine ⟨.non, _, I.lset (its' := its ++ its2) hH e (by simp) (r.append r2) ?_, rfl, q⟩
  rw [List.length_append]
  omega

end

section
variable {prog : Program} {w : World} {A : Around} {E : Value → Shared → Prop} {s : Shared}
end

section
variable {X : Cx}
end
end L2

namespace L2
open PySem PySem.Spec PyProof.Rows

section
variable {κ : Type} [DecidableEq κ]
noncomputable def valV (kvs : List (κ × V)) (k : κ) : Option V := (kvs.find? fun kv => decide (kv.1 = k)).map (·.2)
noncomputable def putK (kvs : List (κ × V)) (k : κ) (v : V) : List (κ × V) :=
  if (kvs.any fun kv => decide (kv.1 = k)) = true then kvs.map (fun kv => if kv.1 = k then (kv.1, v) else kv) else kvs ++ [(k, v)]
noncomputable def dropK (kvs : List (κ × V)) (k : κ) : List (κ × V) := kvs.filter fun kv => decide (kv.1 ≠ k)

private theorem valV_pos {p : κ × V} {r : List (κ × V)} {k : κ} (e : p.1 = k) : valV (p :: r) k = some p.2 := by simp [valV, List.find?_cons, e]
private theorem valV_neg {p : κ × V} {r : List (κ × V)} {k : κ} (e : ¬ p.1 = k) : valV (p :: r) k = valV r k := by simp [valV, List.find?_cons, e]
private theorem valV_any (k : κ) : ∀ kvs : List (κ × V), (kvs.any fun kv => decide (kv.1 = k)) = (valV kvs k).isSome
  | [] => rfl
  | p :: r => by
    rw [List.any_cons]
    by_cases e : p.1 = k
    · simp only [valV_pos e, decide_eq_true e, Bool.true_or, Option.isSome_some]
    · rw [valV_neg e, decide_eq_false e, Bool.false_or]; exact valV_any k r
private theorem length_putK (kvs : List (κ × V)) (k : κ) (v : V) : (putK kvs k v).length ≤ kvs.length + 1 := by
  unfold putK
  split
  · rw [List.length_map]; omega
  · rw [List.length_append, List.length_cons, List.length_nil]; omega
private theorem RelO.isSome_eq {o : Option V} {u : Option Value} (r : RelO o u) : o.isSome = u.isSome := by
  cases o with
  | none => cases u with
    | none => rfl
    | some _ => exact (show False from r).elim
  | some _ => cases u with
    | none => exact (show False from r).elim
    | some _ => rfl
private theorem RelO.getD {o : Option V} {u : Option Value} {d : V} {d' : Value} (r : RelO o u) (rd : RelV d d') : RelV (o.getD d) (u.getD d') := by
  cases o with
  | none => cases u with
    | none => exact rd
    | some _ => exact (show False from r).elim
  | some _ => cases u with
    | none => exact (show False from r).elim
    | some _ => exact r

private theorem KV.val {kvs : List (κ × V)} {vs : List (κ × Value)} (r : KV kvs vs) (k : κ) : RelO (valV kvs k) (valueAt vs k) := by
  unfold KV at r
  induction r with
  | nil => exact True.intro
  | @cons p q ps qs h t ih =>
    obtain ⟨h1, h2⟩ := h
    by_cases e : p.1 = k
    · have e' : q.1 = k := h1.symm.trans e
      have b : valueAt (q :: qs) k = some q.2 := by simp [valueAt, List.find?_cons, e']
      rw [valV_pos e, b]; exact h2
    · have e' : ¬ q.1 = k := fun z => e (h1.trans z)
      have b : valueAt (q :: qs) k = valueAt qs k := by simp [valueAt, List.find?_cons, e']
      rw [valV_neg e, b]; exact ih
private theorem KV.any {kvs : List (κ × V)} {vs : List (κ × Value)} (r : KV kvs vs) (k : κ) : (kvs.any fun kv => decide (kv.1 = k)) = vs.any fun kv => decide (kv.1 = k) := by
  unfold KV at r
  induction r with
  | nil => rfl
  | cons h t ih => rw [List.any_cons, List.any_cons, ih, h.1]
private theorem KV.repl {kvs : List (κ × V)} {vs : List (κ × Value)} (r : KV kvs vs) (k : κ) {y : V} {u : Value} (ry : RelV y u) :
    KV (kvs.map fun kv => if kv.1 = k then (kv.1, y) else kv) (vs.map fun kv => if kv.1 = k then (kv.1, u) else kv) := by
  unfold KV at r ⊢
  induction r with
  | nil => exact .nil
  | @cons p q ps qs h t ih =>
    rw [List.map_cons, List.map_cons]
    refine .cons ?_ ih
    obtain ⟨h1, h2⟩ := h
    by_cases e : p.1 = k
    · rw [if_pos e, if_pos (h1.symm.trans e)]; exact ⟨h1, ry⟩
    · rw [if_neg e, if_neg (fun z => e (h1.trans z))]; exact ⟨h1, h2⟩
private theorem KV.put {kvs : List (κ × V)} {vs : List (κ × Value)} (r : KV kvs vs) (k : κ) {y : V} {u : Value} (ry : RelV y u) : KV (putK kvs k y) (stored vs k u) := by
  unfold putK stored
  rw [r.any k]
  by_cases e : (vs.any fun kv => decide (kv.1 = k)) = true
  · rw [if_pos e, if_pos e]; exact r.repl k ry
  · rw [if_neg e, if_neg e]; exact Paired.snoc r ⟨rfl, ry⟩
private theorem KV.drop {kvs : List (κ × V)} {vs : List (κ × Value)} (r : KV kvs vs) (k : κ) : KV (dropK kvs k) (without vs k) := by
  unfold KV at r ⊢
  unfold dropK without
  induction r with
  | nil => exact .nil
  | @cons p q ps qs h t ih =>
    obtain ⟨h1, h2⟩ := h
    rw [List.filter_cons, List.filter_cons]
    by_cases e : p.1 = k
    · have a : ¬ decide (p.1 ≠ k) = true := by simp [e]
      have b : ¬ decide (q.1 ≠ k) = true := by simp [h1.symm.trans e]
      rw [if_neg a, if_neg b]; exact ih
    · have e' : ¬ q.1 = k := fun z => e (h1.trans z)
      have a : decide (p.1 ≠ k) = true := by simp [e]
      have b : decide (q.1 ≠ k) = true := by simp [e']
      rw [if_pos a, if_pos b]; exact .cons ⟨h1, h2⟩ ih
private theorem KV.keys {kvs : List (κ × V)} {vs : List (κ × Value)} (r : KV kvs vs) : kvs.map (·.1) = vs.map (·.1) := by
  unfold KV at r
  induction r with
  | nil => rfl
  | cons h t ih => rw [List.map_cons, List.map_cons, ih, h.1]
private theorem KV.length {kvs : List (κ × V)} {vs : List (κ × Value)} (r : KV kvs vs) : kvs.length = vs.length := Paired.length r
end


private theorem kV_is {P : Program} {w : World} {k : Key} {u : Value} (r : RelV (kV k) u) : (mixKind P w).is k u = true := by
  cases k with
  | inl i => obtain ⟨t, e⟩ := (show ∃ t, u = Value.int i t from r); subst e; exact mixKind_int P w i t
  | inr x => obtain ⟨t, e⟩ := (show ∃ t, u = Value.str x t from r); subst e; exact mixKind_str P w x t
private theorem items_are {P : Program} {w : World} : ∀ {ks : List Key} {us : List Value}, Vals (ks.map kV) us → ItemsAre (mixKind P w) ks us
  | [], _, r => by rw [List.map_nil] at r; cases r; exact .nil
  | k :: ks, _, r => by
    rw [List.map_cons] at r
    cases r with
    | cons h t => exact .cons (kV_is h) (items_are t)

noncomputable abbrev KT (H : Hp) : List (List Key × V) → List (List Key × Addr × Value) → Prop := Paired fun p q => p.1 = q.1 ∧ H q.2.1 = some (.tup (p.1.map kV)) ∧ RelV p.2 q.2.2
private theorem KT.val {H : Hp} {kvs : List (List Key × V)} {xs : List (List Key × Addr × Value)} (r : KT H kvs xs) (k : List Key) : RelO (valV kvs k) ((atKey xs k).map (·.2)) := by
  induction r with
  | nil => exact True.intro
  | @cons p q ps qs h t ih =>
    obtain ⟨h1, _, h2⟩ := h
    by_cases e : p.1 = k
    · have e' : q.1 = k := h1.symm.trans e
      have b : atKey (q :: qs) k = some q.2 := by simp [atKey, List.find?_cons, e']
      rw [valV_pos e, b]; exact h2
    · have e' : ¬ q.1 = k := fun z => e (h1.trans z)
      have b : atKey (q :: qs) k = atKey qs k := by simp [atKey, List.find?_cons, e']
      rw [valV_neg e, b]; exact ih
private theorem KT.repl {H : Hp} {kvs : List (List Key × V)} {xs : List (List Key × Addr × Value)} (r : KT H kvs xs) (k : List Key) {y : V} {u : Value} (ry : RelV y u) :
    KT H (kvs.map fun kv => if kv.1 = k then (kv.1, y) else kv) (xs.map (putAt k u)) := by
  induction r with
  | nil => exact .nil
  | @cons p q ps qs h t ih =>
    rw [List.map_cons, List.map_cons]
    refine .cons ?_ ih
    obtain ⟨h1, h2, h3⟩ := h
    unfold putAt
    by_cases e : p.1 = k
    · rw [if_pos e, if_pos (h1.symm.trans e)]; exact ⟨h1, h2, ry⟩
    · rw [if_neg e, if_neg (fun z => e (h1.trans z))]; exact ⟨h1, h2, h3⟩
private theorem KT.put {H : Hp} {kvs : List (List Key × V)} {xs : List (List Key × Addr × Value)} (r : KT H kvs xs) (k : List Key) {b : Addr} {y : V} {u : Value} (hb : H b = some (.tup (k.map kV))) (ry : RelV y u) :
    KT H (putK kvs k y) (storedH xs k b u) := by
  have e : (kvs.any fun kv => decide (kv.1 = k)) = (atKey xs k).isSome := by
    rw [valV_any, (r.val k).isSome_eq, Option.isSome_map]
  unfold putK storedH
  rw [e]
  by_cases q : (atKey xs k).isSome = true
  · rw [if_pos q, if_pos q]; exact r.repl k ry
  · rw [if_neg q, if_neg q]; exact Paired.snoc r ⟨rfl, hb, ry⟩
private theorem KT.keeps {H H' : Hp} {kvs : List (List Key × V)} {xs : List (List Key × Addr × Value)} (r : KT H kvs xs) (ht : ∀ b ys, H b = some (.tup ys) → H' b = some (.tup ys)) : KT H' kvs xs :=
  Paired.mapP r fun _ _ z => ⟨z.1, ht _ _ z.2.1, z.2.2⟩

section
variable {P : Program} {w : World} {H : Hp} {h : Heap} {a : Addr}
private theorem rd_of {u : HO} (ok : HOk P w H h) (e : Rd H a u) : ObjOk P w H h a u := e.ok ok
private theorem dk_rd {kvs : List (Key × V)} (ok : HOk P w H h) (e : Rd H a (.dK kvs)) : kvs.length ≤ sizeLine ∧ (a == sysModules) = false ∧ ∃ vs, KV kvs vs ∧ h.DictOf (mixKind P w) a vs :=
  show ObjOk P w H h a (.dK kvs) from rd_of ok e
private theorem dk_of {kvs : List (Key × V)} (ok : HOk P w H h) (e : H a = some (.dK kvs)) : kvs.length ≤ sizeLine ∧ (a == sysModules) = false ∧ ∃ vs, KV kvs vs ∧ h.DictOf (mixKind P w) a vs := dk_rd ok (.inl e)
private theorem key_of {ks : List Key} (ok : HOk P w H h) (e : H a = some (.tup (ks.map kV))) : (tupleKind (mixKind P w)).is h ks a := by
  obtain ⟨_, its, r, o, h1, h2, n, h3⟩ := (show ObjOk P w H h a (.tup (ks.map kV)) from ok a _ e)
  exact ⟨o, its.toArray, n, h1, h2, h3, by simpa using items_are r⟩
private theorem dt_rd {kvs : List (List Key × V)} (ok : HOk P w H h) (e : Rd H a (.dT kvs)) : kvs.length ≤ sizeLine ∧ (a == sysModules) = false ∧
    ∃ xs, KT H kvs xs ∧ h.DictOfH (tupleKind (mixKind P w)) a xs := by
  obtain ⟨z, y, xs, r, o, es, ep, h1, h2, h3, h4, h5⟩ := (show ObjOk P w H h a (.dT kvs) from rd_of ok e)
  refine ⟨z, y, xs, r, o, es, ep, h1, h2, h3, h4, fun x hx => ?_, h5⟩
  have all : ∀ {l : List (List Key × V)} {m : List (List Key × Addr × Value)}, KT H l m → ∀ x ∈ m, (tupleKind (mixKind P w)).is h x.1 x.2.1 := by
    intro l m q
    induction q with
    | nil => intro x hx; exact nomatch hx
    | @cons p q ps qs hq t ih =>
      intro x hx
      rcases List.mem_cons.mp hx with e | hx
      · subst e
        exact key_of ok (by rw [← hq.1]; exact hq.2.1)
      · exact ih x hx
  exact all r x hx
end

noncomputable def DGet (H : Hp) (a : Addr) (y : V) (r : Option V) : Prop :=
  ∃ kvs k, Rd H a (.dK kvs) ∧ y = kV k ∧ r = valV kvs k
noncomputable def DPut (H : Hp) (a : Addr) (y v : V) (H' : Hp) : Prop :=
  ∃ kvs k, H a = some (.dK kvs) ∧ y = kV k ∧ kvs.length < sizeLine ∧ H' = upd H a (.dK (putK kvs k v))
private theorem DGet.k {H : Hp} {a : Addr} {kvs : List (Key × V)} {k : Key} (e : H a = some (.dK kvs)) : DGet H a (kV k) (valV kvs k) := ⟨kvs, k, .inl e, rfl, rfl⟩
private theorem DPut.k {H : Hp} {a : Addr} {kvs : List (Key × V)} {k : Key} {v : V} (e : H a = some (.dK kvs)) (hl : kvs.length < sizeLine) : DPut H a (kV k) v (upd H a (.dK (putK kvs k v))) := ⟨kvs, k, e, rfl, hl, rfl⟩
section
variable {X : Cx} {pins : List (Addr × Obj)} {σ : St} {H : Hp} {s : Shared} {a : Addr} {y v : V} {u r : Value} {o : Option V} {A : Around} {E : Value → Shared → Prop}

private theorem Inv.big (I : Inv X pins σ H s) : sysModules < s.heap.objs.size := by
  have h : mainGlobals < s.heap.objs.size := (I.mod.glob.keeps I.bk).lt
  exact Nat.lt_trans (by decide) h

private theorem d_getItem {Q : Value → Shared → Prop} (hu : A.units + 1 < cLine) (I : Inv X pins σ H s) (g : DGet H a y (some v)) (ry : RelV y u) (h : ∀ w' s', Inv X pins σ H s' → RelV v w' → Q w' s') :
    wpAny (model X.prog X.w) A (getItem (.ref a) u) Q E s := by
  obtain ⟨kvs, k, e, ey, l⟩ := g
  · subst ey
    obtain ⟨z, hd, vs, rel, dd⟩ := dk_rd I.hok e
    obtain ⟨w', hw, rw'⟩ := RelO.some_of (v := v) (o := valueAt vs k) (by rw [l]; exact rel.val k)
    exact wpAny_getItem_of (kV_is ry) dd.mapOf hw (h w' _ (I.tok _) rw')
private theorem d_in {Q : Value → Shared → Prop} (hu : A.units + 1 < cLine) (I : Inv X pins σ H s) (g : DGet H a y o) (ry : RelV y u) (h : ∀ s', Inv X pins σ H s' → Q (.bool o.isSome) s') :
    wpAny (model X.prog X.w) A (compareOp .In u (.ref a)) Q E s := by
  obtain ⟨kvs, k, e, ey, l⟩ := g
  · subst ey
    obtain ⟨z, hd, vs, rel, dd⟩ := dk_rd I.hok e
    refine wpAny_in_of (kV_is ry) hd dd.mapOf ?_
    rw [← (rel.val k).isSome_eq, ← l]
    exact h _ (I.tok _)
private theorem d_write {h' : Heap} {t' : Nat} {ob : HO} (I : Inv X pins σ H s) (mu : Mut (H a)) (hs : Heap.SameBut a s.heap h') (he : ∃ q, h'.get? a = some q) (new : ObjOk X.prog X.w (upd H a ob) h' a ob) :
    Inv X pins σ (upd H a ob) { s with heap := h', toks := t' } :=
  I.write (x := a) (e := a) mu (.inl rfl) (fun b q hb z => (hs.2 b hb).trans z) he new
private theorem dk_new {P : Program} {w : World} {H' : Hp} {h' : Heap} {kvs : List (Key × V)} {vs : List (Key × Value)} (z : kvs.length ≤ sizeLine) (hd : (a == sysModules) = false) (rel : KV kvs vs) (dd : h'.DictOf (mixKind P w) a vs) :
    ObjOk P w H' h' a (.dK kvs) := ⟨z, hd, vs, rel, dd⟩
private theorem d_setItem {H' : Hp} {Q : Unit → Shared → Prop} (hu : A.units + 1 < cLine) (I : Inv X pins σ H s) (g : DPut H a y v H') (ry : RelV y u) (rv : RelV v r) (h : ∀ s', Inv X pins σ H' s' → Q () s') :
    wpAny (model X.prog X.w) A (setItem (.ref a) u r) Q E s := by
  obtain ⟨kvs, k, e, ey, l, eH⟩ := g
  · subst ey eH
    obtain ⟨z, hd, vs, rel, dd⟩ := dk_of I.hok e
    have hz : vs.length ≤ sizeLine := by rw [← rel.length]; exact z
    have hl : (putK kvs k v).length ≤ sizeLine := by have := length_putK kvs k v; omega
    refine wpAny_setItem_pairs (hsz := hz) (kV_is ry) dd fun h' dd' hs => h _ ?_
    have he : ∃ q, h'.get? a = some q := let ⟨q, _, _, hq, _⟩ := dd'; ⟨q, hq⟩
    exact d_write I (by rw [e]; exact True.intro) hs he (dk_new hl hd (rel.put k rv) dd')
end

section
variable {X : Cx} {pins : List (Addr × Obj)} {σ : St} {H : Hp} {s : Shared} {a : Addr} {kvs : List (Key × V)} {k : Key} {u : Value} {A : Around} {E : Value → Shared → Prop}
end


private theorem dict_typeIs {X : Cx} {pins : List (Addr × Obj)} {σ : St} {H : Hp} {s : Shared} {a : Addr} {y : V} {o : Option V} (I : Inv X pins σ H s) (g : DGet H a y o) : s.TypeIs (.ref a) "dict" := by
  obtain ⟨kvs, k, e, _, _⟩ := g
  · obtain ⟨_, _, vs, _, dd⟩ := dk_rd I.hok e
    exact dd.typeIs
section
variable {X : Cx} {o i e value : Expr} {pos pos' tpos : Pos} {td ty tv : TE}
end


private theorem dk_empty {P : Program} {w : World} {H : Hp} (h : Heap) (hb : sysModules < h.objs.size) : ObjOk P w H (h.push { cls := .type "dict", data := .dict #[] }) h.objs.size (.dK []) :=
  ⟨Nat.zero_le _, beq_eq_false_iff_ne.mpr (Ne.symm (Nat.ne_of_lt hb)), [], .nil, Heap.DictOf.new h⟩
noncomputable def tDNewK : TE := fun _ H Q => ∀ p, H p = none → Q (.ref p) (upd H p (.dK []))
section
variable {X : Cx} {pos : Pos}
private theorem pe_dnewK : PE X (.Dict [] [] pos) tDNewK := fun pins s σ H Q I h =>
  wpAny_Dict_empty ⟨.ref s.heap.objs.size, _, I.laid (a := s.heap.objs.size) (o := .dK []) (t' := s.toks) (fun _ _ q => Heap.get?_push_of_some _ q) (Nat.le_refl _) (dk_empty s.heap I.big), rfl, h _ (I.hok.fresh (Nat.le_refl _))⟩
end

noncomputable def tPairs : List (TE × TE) → St → Hp → (List (V × V) → Hp → Prop) → Prop
  | [], _, H, Q => Q [] H
  | (tk, tv) :: r, σ, H, Q => tk σ H fun x H1 => tv σ H1 fun y H2 => tPairs r σ H2 fun ps H3 => Q ((x, y) :: ps) H3
noncomputable abbrev VV : List (V × V) → List (Value × Value) → Prop := Paired fun p q => RelV p.1 q.1 ∧ RelV p.2 q.2
noncomputable def PPs (X : Cx) (pos : Pos) (keys : List (Option Expr)) (values : List Expr) (trs : List (TE × TE)) : Prop :=
  ∀ (pins : List (Addr × Obj)) (s : Shared) (σ : St) (H : Hp) (Q : List (V × V) → Hp → Prop), Inv X pins σ H s → tPairs trs σ H Q →
    wpAny (model X.prog X.w) X.A (evalPairs (pairTrees keys values X.env pos)) (fun vs s' => ∃ ps H', Inv X pins σ H' s' ∧ VV ps vs ∧ Q ps H') X.xe s
private theorem pps_nil {X : Cx} {pos : Pos} : PPs X pos [] [] [] := fun pins s σ H Q I h => pairTrees_nil_walk ⟨[], H, I, .nil, h⟩
private theorem pps_cons {X : Cx} {pos : Pos} {k v : Expr} {ks : List (Option Expr)} {vs : List Expr} {tk tv : TE} {trs : List (TE × TE)} (hk : PE X k tk) (hv : PE X v tv) (hr : PPs X pos ks vs trs) :
    PPs X pos (some k :: ks) (v :: vs) ((tk, tv) :: trs) := fun pins s σ H Q I h =>
  pairTrees_cons_walk (thn (hk pins s σ H _ I h) fun u s1 ⟨x, H1, I1, rx, q1⟩ => thn (hv pins s1 σ H1 _ I1 q1) fun w2 s2 ⟨y, H2, I2, ry, q2⟩ =>
    thn (hr pins s2 σ H2 _ I2 q2) fun ws s3 ⟨ps, H3, I3, rel, q3⟩ => ⟨(x, y) :: ps, H3, I3, .cons ⟨rx, ry⟩ rel, q3⟩)

structure M2 (X : Cx) (o : Expr) (m : Str) (apos : Pos) (e f : Expr) (cpos : Pos) : Prop where
  base : attributeBase o m X.env (eval o X.env) = eval o X.env
  few : ((backTo cpos (starEach [e, f] X.env)).all (fun x => !x.1) && (backToKw cpos (keywordEach [] X.env)).all (fun x => x.1.isSome)
    && decide (([e, f] : List Expr).length + ([] : List Keyword).length + (if ([] : List Keyword).isEmpty then 0 else 1) < 30)) = true
  line : (apos.endLine == cpos.line) = true
  trees : backTo cpos (starEach [e, f] X.env) = [(false, eval e X.env), (false, eval f X.env)]

noncomputable def IsD (H : Hp) (a : Addr) : Prop := (∃ kvs, Rd H a (.dK kvs)) ∨ ∃ kvs, Rd H a (.dT kvs)
private theorem isD_at {X : Cx} {pins : List (Addr × Obj)} {σ : St} {H : Hp} {s : Shared} {a : Addr} (I : Inv X pins σ H s) (d : IsD H a) :
    s.TypeIs (.ref a) "dict" ∧ (∀ b, Value.ref a = .ref b → ∃ ob, s.heap.get? b = some ob ∧ ob.dict = none) ∧ (a == sysModules) = false := by
  rcases d with ⟨kvs, e⟩ | ⟨kvs, e⟩
  · obtain ⟨_, hd, vs, _, dd⟩ := dk_rd I.hok e
    refine ⟨dd.typeIs, fun b q => ?_, hd⟩
    cases q
    obtain ⟨ob, _, _, h1, h2, _⟩ := dd
    exact ⟨ob, h1, h2.2.1⟩
  · obtain ⟨_, hd, xs, _, dd⟩ := dt_rd I.hok e
    refine ⟨dd.typeIs, fun b q => ?_, hd⟩
    cases q
    obtain ⟨ob, _, _, h1, h2, _⟩ := dd
    exact ⟨ob, h1, h2.2.1⟩

section
variable {X : Cx} {pins : List (Addr × Obj)} {σ : St} {H : Hp} {s : Shared} {a : Addr} {y d : V} {u r : Value} {o : Option V} {A : Around} {E : Value → Shared → Prop}
private theorem d_get2 {Q : Value → Shared → Prop} (hu : A.units + 1 < cLine) (I : Inv X pins σ H s) (g : DGet H a y o) (ry : RelV y u) (rd : RelV d r) (h : ∀ w' s', Inv X pins σ H s' → RelV (o.getD d) w' → Q w' s') :
    wpAny (model X.prog X.w) A (call (.builtin "dict.get") [.ref a, u, r]) Q E s := by
  obtain ⟨kvs, k, e, ey, l⟩ := g
  · subst ey
    obtain ⟨z, hd, vs, rel, dd⟩ := dk_rd I.hok e
    refine call_meetsIn PySem.F.slot_dict_get dd.typeIs PySem.F.entry_dict_get (PySem.F.args_dict_get_3 _ _ _) (meets_dict_get_default (mixKind X.prog X.w) a (kV_is ry) hd r) ⟨_, dd.mapOf, h _ _ (I.tok _) ?_⟩
    rw [l]
    exact (rel.val k).getD rd
end

noncomputable def tDGet2 (td ty tx : TE) : TE := fun σ H Q => td σ H fun x H1 => ∃ a, x = .ref a ∧ IsD H1 a ∧ ty σ H1 fun y H2 => tx σ H2 fun z H3 => ∃ o, DGet H3 a y o ∧ Q (o.getD z) H3
section
variable {X : Cx} {o e f : Expr} {apos cpos : Pos} {td ty tx : TE}
private theorem pe_dget2 (hu : X.A.units + 1 < cLine) (ho : PE X o td) (he : PE X e ty) (hf : PE X f tx) (m : M2 X o "get" apos e f cpos) : PE X (.Call (.Attribute o "get" apos) [e, f] [] cpos) (tDGet2 td ty tx) := by
  intro pins s σ H Q I h
  refine wpAny_Call_method m.base m.few m.line PySem.F.plainAttrs_dict PySem.F.slot_dict_get PySem.F.type_dict_get (thn (ho pins s σ H _ I h) fun u s1 zq9 => ?_)
  obtain ⟨x, H1, I1, rx, a, ex, d, q1⟩ := zq9
  subst ex
  obtain rfl : u = Value.ref a := rx
  obtain ⟨t1, t2, _⟩ := isD_at I1 d
  refine ⟨t1, t2, ?_⟩
  rw [m.trees]
  refine Calls.callWith_builtin rfl (Calls.evalArgs_plain (Calls.spliced_cons (thn (he pins s1 σ H1 _ I1 q1) fun iv s2 ⟨y, H2, I2, ry, q2⟩ =>
    Calls.spliced_cons (thn (hf pins s2 σ H2 _ I2 q2) fun fv s3 ⟨z, H3, I3, rz, ov, g, q3⟩ => Calls.spliced_nil ?_))))
  exact d_get2 hu I3 g ry rz fun w' s4 I4 rw' => ⟨_, H3, I4, rw', q3⟩
end

section
variable {X : Cx} {pins : List (Addr × Obj)} {σ : St} {H : Hp} {s : Shared} {a : Addr} {kvs : List (Key × V)} {A : Around} {E : Value → Shared → Prop}
end


section
variable {X : Cx} {pins : List (Addr × Obj)} {σ : St} {H : Hp} {s : Shared} {a : Addr} {y : V} {u : Value} {A : Around} {E : Value → Shared → Prop}
end
end L2

namespace Att
open PySem PySem.W PySem.Calls PyProof.Rows

private theorem ints_of_wellAll {P : Params} {h : Heap} : ∀ (ns : List Int) (vs : List Value), WellAll P h vs (ns.map WData.int) → IntsAre vs ns := by
  intro ns
  induction ns with
  | nil =>
    intro vs w
    rw [List.map_nil] at w
    cases w
    exact .nil
  | cons n ns ih =>
    intro vs w
    rw [List.map_cons] at w
    cases w with
    | cons a b =>
      cases a
      exact .cons _ _ (ih _ b)

private theorem script_of {l : OpenLaw} {n : Nat} (hn : l.most = some n) {P : Params} {h : Heap} {args : List WData} {vals : List Value}
    (hpre : l.row.toRowW.claim.pre args = true) (hwl : WellAll P h vals args) :
    ∃ a vs ns, vals = [Value.ref a] ∧ args = [WData.list (ns.map WData.int)] ∧ h.get? a = some { cls := .type "list", data := .seq vs.toArray } ∧ IntsAre vs ns ∧ ns.length ≤ n := by
  have hsh : WShape.hasAll [] args [.list .int] = true := (pre_splitW hpre).1
  have hc : l.pre.holds [] { args := args } = true := (pre_splitW hpre).2
  obtain ⟨d, r, rfl, h1, h2⟩ := hasAllW_cons hsh
  obtain rfl := hasAllW_nil h2
  obtain ⟨xs, rfl, h3⟩ := hasW_list h1
  obtain ⟨ns, rfl⟩ := items_int h3
  have hlen : ns.length ≤ n := by
    unfold OpenLaw.pre at hc
    have h4 : (WTm.not (.lt (.lit (.int (n : Int))) (.len (.arg 0)))).holds [] { args := [.list (ns.map .int)] } = true := by
      have h4 := (holds_andW hc).1
      rw [hn] at h4
      exact h4
    have h5 := condW_of h4 (w_not (w_lt w_lit (w_len_list (w_arg rfl))))
    rw [List.length_map] at h5
    refine Nat.le_of_not_lt fun q => ?_
    have q' : (n : Int) < ((ns.length : Nat) : Int) := by omega
    first
      | (rw [decide_eq_true q'] at h5; exact absurd h5 (by decide))
      | (simp at h5; omega)
  cases hwl with
  | cons w1 w2 =>
    cases w2
    cases w1 with
    | list ho hall => exact ⟨_, _, ns, rfl, rfl, ho, ints_of_wellAll ns _ hall, hlen⟩

private theorem post_true (l : OpenLaw) (args : List WData) : l.row.toRowW.claim.post args (.bool true) args = true :=
  postW_of (r := l.row.toRowW) (X := (true == true))
    (show WShape.has [] (.bool true) .bool = true by first | rfl | decide | simp [WShape.has, WShape.arms, WShape.armsAll])
    (show (WTm.eq .res (.lit (.bool true))).value [] { args := args, res := some (.bool true), after := args } = some (.bool (true == true)) from w_eq_bool (w_res rfl) w_lit) rfl

private theorem attach_call {l : OpenLaw} {n : Nat} {q : Program} {loose : List Str} {XP : (Str → Option Value) → Heap → Prop} {YP : World → Heap → Prop} {d : DefRec}
    (hn : l.most = some n) (hdf : d.params.defaults = [])
    (call : ∀ (w : World) (s₀ s₁ : Shared) (mg mb : Str → Option Value) (fa : Addr) (o : Obj) (pm cd doc : Value) (a : Addr) (vs : List Value) (ns : List Int),
      Ground q loose [] XP w s₀ mg mb s₁.heap → YP w s₁.heap →
      s₁.heap.get? fa = some o → o.data = .func (docDef d.name d.params d.body d.scope pm cd doc) → s₁.heap.CodeRec cd d.name → mg d.name = some (.ref fa) →
      s₁.heap.get? a = some { cls := .type "list", data := .seq vs.toArray } → IntsAre vs ns → ns.length ≤ n → s₁.gens = #[] →
      codeAny (model l.prog w) callerA (.call (.ref fa) ⟨[.ref a], []⟩) (fun r s' => r = .ok (.ret (.bool true)) ∧ OldK s₁.heap s'.heap ∧ s'.os = s₁.os ∧ AllBare s'.gens) s₁) :
    WalkO q loose XP YP l.row.toRowW d [] (fun f vs => PySem.call f vs) := by
  intro w s₀ s₁ mg mb G Y fa o pm cd doc dV kV ho hd hcd hD hmg hg args vals as hpre hlay hrd hwl hlo
  obtain rfl : dV = .none := Dflts.none hD hdf
  obtain rfl : kV = .none := Dflts.noKw hD
  obtain ⟨a, vs, ns, rfl, rfl, hobj, hints, hlen⟩ := script_of hn hpre hwl
  refine enter_call (codeAny_mono (call w s₀ s₁ mg mb fa o pm cd doc a vs ns G Y ho (fd_plain hd) hcd hmg hobj hints hlen hg) fun r s' hq => ?_)
  obtain ⟨rfl, h2, h3, h4⟩ := hq
  exact ⟨.inl ⟨.bool true, .bool true, [], rfl, fun _ => rfl, .bool true, post_true l _, fun _ => ⟨List.Pairwise.nil, fun _ hm => (nomatch hm)⟩⟩, h2, h3, h4⟩

section
variable {prog : Program} {w : World} {A : Around} {E : Value → Shared → Prop} {s : Shared} {K : Frag}

noncomputable def ledger (h : Heap) (L d : Addr) : List (Addr × Obj) := (List.range h.objs.size).filterMap fun a => if a = L ∨ a = d then none else (h.get? a).map fun o => (a, o)
end
end Att

namespace L2
open PySem PySem.Spec PyProof.Rows

private theorem vals_ints : ∀ {vs : List Value} {ns : List Int}, IntsAre vs ns → Vals (ns.map V.int) vs
  | _, _, .nil => .nil
  | _, _, .cons n t h => .cons ⟨t, rfl⟩ (vals_ints h)

noncomputable def Only (H : Hp) : Prop := ∀ b, H b = none ∨ ∃ o xs, H b = some (.frz o (.lst xs))

private theorem law_call {P : Program} {w : World} {K : PySem.W.Frag} {mg mb : Str → Option Value} {CX : CXT} {k : Nat} {fa a : Addr} {fd : FuncData} {x : Str} {sp : Sp} {s₁ : Shared} {vs : List Value} {ns : List Int}
    (KX : K.In s₁.heap) (hns : s₁.heap.Ns mainGlobals mg) (hb : s₁.heap.Ns builtinsNs mb) (hbb : ∀ x : Str, x ≠ "__name__" → mb x = bootBuiltins x) (hlim : s₁.heap.NoLimit) (hg : s₁.gens = #[])
    (ha : s₁.heap.get? a = some { cls := .type "list", data := .seq vs.toArray }) (hi : IntsAre vs ns) (hl : ns.length ≤ sizeLine) (hr : Room k callerA)
    (F : ∀ base : Heap, K.In base → base.Ns mainGlobals mg → FnOk P w K mg base CX k fa fd [x] sp) (hbind : ∀ (s : Shared) (u : Value), BindsTo s fd ⟨[u], []⟩ [(x, u)])
    (hsp : ∀ H : Hp, Only H → SqL K H a (ns.map V.int) → sp [.ref a] H (fun v _ => v = .bl true) fun _ _ _ => False)
    (hCX : ∀ H e s', CX [] H s₁ (fun _ _ _ => False) e s' → False) :
    codeAny (model P w) callerA (.call (.ref fa) ⟨[.ref a], []⟩) (fun r s' => r = .ok (.ret (.bool true)) ∧ OldK s₁.heap s'.heap ∧ s'.os = s₁.os ∧ AllBare s'.gens) s₁ := by
  have rv := vals_ints hi
  have lenV := hi.length
  -- from an abstract heap in which nothing but the script may be tracked
  have core : ∀ H : Hp, Only H → SqL K H a (ns.map V.int) → HOk P w H s₁.heap → (∀ b, H b ≠ none → b = a) → (H a ≠ none → K.lookup a = none) →
      codeAny (model P w) callerA (.call (.ref fa) ⟨[.ref a], []⟩) (fun r s' => r = .ok (.ret (.bool true)) ∧ OldK s₁.heap s'.heap ∧ s'.os = s₁.os ∧ AllBare s'.gens) s₁ := by
    intro H hO hS hok hA hK
    have base_of : ∀ {b : Addr} {o : Obj}, s₁.heap.get? b = some o → H b = none → (hidT s₁.heap H).get? b = some o := fun e n => hidT_get e n
    have noA : ∀ {b : Addr} {o : Obj} {es : Array DictEntry} {ep : Nat}, s₁.heap.get? b = some o → o.data = .dict es ep → H b = none := fun {b o es ep} e d => by
      cases q : H b with
      | none => rfl
      | some u =>
        have e' : b = a := hA b (by rw [q]; simp)
        subst e'
        rw [ha] at e; cases e
        have d' : Data.seq vs.toArray _ = Data.dict es ep := d
        cases d'
    have nsK : ∀ {b : Addr} {m : Str → Option Value}, s₁.heap.Ns b m → (hidT s₁.heap H).Ns b m := fun {b m} ⟨o, es, ep, e, d, r⟩ => ⟨o, es, ep, base_of e (noA e d), d, r⟩
    have hKb : K.In (hidT s₁.heap H) := fun b o e => base_of (KX b o e) (by
      cases q : H b with
      | none => rfl
      | some u =>
        have e' : b = a := hA b (by rw [q]; simp)
        subst e'
        rw [hK (by rw [q]; simp)] at e; cases e)
    have hM : Mod K mg (hidT s₁.heap H) := ⟨hKb, nsK hns, ⟨mb, nsK hb, hbb⟩, let ⟨mc, h1, h2⟩ := hlim; ⟨mc, nsK h1, h2⟩⟩
    have e0 : Env0 P w K mg (hidT s₁.heap H) callerA [] s₁ H := ⟨rfl, hM, fun b o e => of_hidT e, Nat.le_of_eq (hidT_size _ _), trivial, fun b hb => absurd (show b ∈ ([] : List Addr) from hb) (by simp), hok, .of_eq hg⟩
    refine codeAny_mono ((F _ hKb (nsK hns)).run callerA [] s₁ H ⟨[.ref a], []⟩ [.ref a] [.ref a] _ _ hr e0 (hbind s₁ (.ref a)) (.cons rfl .nil) (hsp H hO hS)) fun r s' h => ?_
    cases r with
    | error e => exact (hCX H e s' h).elim
    | ok fl =>
      cases fl with
      | next => exact False.elim h
      | brk => exact False.elim h
      | cont => exact False.elim h
      | ret u =>
        obtain ⟨v, H', os, bare, un, hok', r', q⟩ := h
        have q' : v = .bl true := q
        subst q'
        obtain rfl : u = Value.bool true := r'
        refine ⟨rfl, OldK.of_keep fun b o e => ?_, os, bare⟩
        cases q : H b with
        | none => exact un.keep b o e q (by intro z; exact absurd (show b ∈ ([] : List Addr) from z) (by simp)) (by simp)
        | some u =>
          rcases hO b with z | ⟨ob, xs, z⟩
          · rw [q] at z; cases z
          · have z2 := un.frzs b ob _ z
            obtain ⟨e1, _⟩ := hok b _ z
            obtain ⟨e2, _⟩ := hok' b _ z2
            rw [e] at e1; cases e1
            exact e2
  cases hk : K.lookup a with
  | some o =>
    -- the script is one of the module's own objects
    have e := KX a o hk
    rw [ha] at e
    cases e
    refine core (fun _ => none) (fun _ => .inl rfl) (.inr ⟨_, vs.toArray, _, hk, rfl, rfl, rfl, by rw [List.size_toArray, lenV]; exact hl, by simpa using rv⟩) (fun b u z => by have z' : (none : Option HO) = some u := z; cases z') (fun b z => absurd rfl z) fun z => absurd rfl z
  | none =>
    refine core (fun b => if b = a then some (.frz { cls := .type "list", data := .seq vs.toArray } (.lst (ns.map V.int))) else none) (fun b => ?_) (.inl (.inr ⟨{ cls := .type "list", data := .seq vs.toArray }, if_pos rfl⟩)) (fun b u z => ?_) (fun b z => ?_) fun _ => hk
    · by_cases hb : b = a
      · exact .inr ⟨_, _, if_pos hb⟩
      · exact .inl (if_neg hb)
    · by_cases hb : b = a
      · have z' := (if_pos hb).symm.trans z
        cases z'
        subst hb
        exact ⟨ha, by rw [List.length_map]; exact hl, vs, _, rv, ha⟩
      · have z' := (if_neg hb).symm.trans z
        cases z'
    · by_cases hb : b = a
      · exact hb
      · exact absurd (if_neg hb) z
end L2

namespace L2
open PySem PySem.Spec PyProof.Rows

private theorem walk_of {l : PySem.W.OpenLaw} {n k : Nat} {q : Program} {loose : List Str} {XP : (Str → Option Value) → Heap → Prop} {YP : World → Heap → Prop} {d : DefRec} {K : Params → PySem.W.Frag} {CX : World → CXT} {sp : World → Sp} {x : Str}
    (hn : l.most = some n) (hn2 : n ≤ sizeLine) (hdf : d.params.defaults = []) (hr : Room k callerA)
    (hY : ∀ (w : World) (h : Heap), YP w h → (K w.params).In h)
    (F : ∀ (w : World) (mg : Str → Option Value) (fa : Addr) (h : Heap), (K w.params).In h → h.Ns mainGlobals mg → mg d.name = some (.ref fa) →
      ∃ fd : FuncData, (∀ (s : Shared) (u : Value), BindsTo s fd ⟨[u], []⟩ [(x, u)]) ∧
        ∀ base : Heap, (K w.params).In base → base.Ns mainGlobals mg → FnOk l.prog w (K w.params) mg base (CX w) k fa fd [x] (sp w))
    (hsp : ∀ (w : World) (H : Hp) (a : Addr) (ns : List Int), ns.length ≤ n → Only H → SqL (K w.params) H a (ns.map V.int) → sp w [.ref a] H (fun v _ => v = .bl true) fun _ _ _ => False)
    (hCX : ∀ (w : World) (H : Hp) (s : Shared) (e : Value) (s' : Shared), CX w [] H s (fun _ _ _ => False) e s' → False) :
    PySem.W.WalkO q loose XP YP l.row.toRowW d [] (fun f vs => PySem.call f vs) := by
  refine Att.attach_call hn hdf fun w s₀ s₁ mg mb fa o pm cd doc a vs ns G Y ho hd hcd hmg hobj hints hlen hg => ?_
  have KX := hY w _ Y
  obtain ⟨fd, hb, hF⟩ := F w mg fa _ KX G.T.g hmg
  exact law_call KX G.T.g G.T.b G.T.builtins G.T.nolimit hg hobj hints (Nat.le_trans hlen hn2) hr hF hb (fun H hO hS => hsp w H a ns hlen hO hS) fun H e s' => hCX w H s₁ e s'
end L2

/- THE LAST THEOREM (shape; LID, My.* are yours):
   My.Adr: a structure of the addresses that your layer names (classes, functions); My.Txt K t: a structure (Prop) of the equations over K;
   My.txt_mk : {K} {implicit addresses ..} (e1 : nsIn K mainGlobals "law" = some (some (.ref f))) (e2 : K.lookup f = some ⟨oc, od, .func (fnOf "law" "law" params body scope dV kV doc pm an cdv ct), sl⟩) (e3 : codeIn K cdv "law" = true) .. : ∃ t, My.Txt K t

(the tactic k_is has no namespace: write k_is) -/

namespace L2
open PySem PySem.Spec PyProof.Rows

noncomputable def inClass (s : Stmt) (j : Nat) : Stmt := match s with
  | .ClassDef _ _ _ body _ _ _ _ _ _ _ => body.getD j (.Pass ⟨0, 0, 0, 0⟩)
  | _ => .Pass ⟨0, 0, 0, 0⟩
noncomputable def defArgs (s : Stmt) : Arguments := match s with
  | .FunctionDef _ a _ _ _ _ _ _ _ _ => a
  | _ => { posonlyargs := [], args := [], vararg := none, kwonlyargs := [], kw_defaults := [], kwarg := none, defaults := [] }
noncomputable def defBody (s : Stmt) : List Stmt := match s with
  | .FunctionDef _ _ b _ _ _ _ _ _ _ => b
  | _ => []
noncomputable def defScope (s : Stmt) : Scope := match s with
  | .FunctionDef _ _ _ _ _ _ sc _ _ _ => sc
  | _ => { kind := .function, names := [], isGenerator := false, isCoroutine := false }

noncomputable abbrev CX0 : CXT := fun _ _ _ _ _ _ => False
noncomputable abbrev E0 : XK := fun _ _ _ => False
private theorem pass0 {X : Cx} : Passes CX0 X E0 := fun _ _ _ _ _ _ _ h => h.elim

structure Fun (K : PySem.W.Frag) (x qual : Str) (st : Stmt) (f : Addr) (fd : FuncData) : Prop where
  ex : ∃ (oc : Value) (od : Option Addr) (kV doc pm : Value) (an : Option Addr) (cdv ct : Value) (osl : Array (Option Value)),
    fd = PySem.W.fnOf x qual (defArgs st) (defBody st) (defScope st) .none kV doc pm an cdv ct ∧ K.lookup f = some ⟨oc, od, .func fd, osl⟩ ∧ PySem.W.codeIn K cdv qual = true
  kp : PySem.W.keepIn K (.ref f) = true
section
variable {P : Program} {w : World} {K : PySem.W.Frag} {mg : Str → Option Value} {base : Heap}
private theorem Fun.ok {x qual : Str} {st : Stmt} {f : Addr} {fd : FuncData} {N ps : List Str} {k : Nat} {sp : Sp} (F : Fun K x qual st f fd) (S : FnScope N ps (defScope st)) (len : ∀ vs H Q E, sp vs H Q E → vs.length = ps.length)
    (hbody : ∀ (cdv : Value) (A : Around) (outer : List Env) (s : Shared) (H : Hp) (vs : List V) (Q : VK) (E : XK), Room k (A.deeper (envOfC qual (defScope st) s.heap.objs.size f cdv)) → sp vs H Q E →
      ∃ t, PSs (cxOf CX0 P w K mg base N qual (defScope st) f cdv A outer s H E).nox (defBody st) t ∧ t { nx := fun _ H' => Q .non H', rt := Q } (start N vs) H) : FnOk P w K mg base CX0 (k + 1) f fd ps sp := by
  obtain ⟨oc, od, kV, doc, pm, an, cdv, ct, osl, rfl, lk, hcd⟩ := F.ex
  refine fn_of lk hcd S len fun A outer s H vs Q E hr hsp => ?_
  obtain ⟨t, h, q⟩ := hbody cdv A outer s H vs Q E hr hsp
  exact ⟨t, h.nox, q⟩
private theorem Fun.binds {x qual : Str} {st : Stmt} {f : Addr} {fd : FuncData} {ps : List Str} (F : Fun K x qual st f fd)
    (h : ∀ (kV doc pm : Value) (an : Option Addr) (cdv ct : Value) (us : List Value), us.length = ps.length → bindArgs (PySem.W.fnOf x qual (defArgs st) (defBody st) (defScope st) .none kV doc pm an cdv ct) ⟨us, []⟩ = pure (ps.zip us)) : Binds K fd ps [] := by
  obtain ⟨oc, od, kV, doc, pm, an, cdv, ct, osl, rfl, lk, hcd⟩ := F.ex
  exact .all (h kV doc pm an cdv ct)
private theorem fun_mk {x qual : Str} {st : Stmt} {f : Addr} {oc : Value} {od an : Option Addr} {osl : Array (Option Value)} {kV doc pm cdv ct : Value} (l : K.lookup f = some ⟨oc, od, .func (PySem.W.fnOf x qual (defArgs st) (defBody st) (defScope st) .none kV doc pm an cdv ct), osl⟩)
    (c : PySem.W.codeIn K cdv qual = true) (k : PySem.W.keepIn K (.ref f) = true) : Fun K x qual st f (PySem.W.fnOf x qual (defArgs st) (defBody st) (defScope st) .none kV doc pm an cdv ct) := ⟨⟨oc, od, kV, doc, pm, an, cdv, ct, osl, rfl, l, c⟩, k⟩
end
private theorem hu_of {A : Around} {k : Nat} (hr : Room k A) : A.units + 1 < cLine := Nat.lt_of_le_of_lt (Nat.add_le_add_left (by decide : 1 ≤ 64) _) hr.units
private theorem small1000 {n : Nat} (h : n ≤ 1000) : n < sizeLine := Nat.lt_of_le_of_lt h (by decide)

section
variable {X : Cx}
private theorem pv (i : Nat) {x : Str} {pos : Pos} (hN : autoParam (X.N[i]? = some x) _root_.zt2) (hv : autoParam (Vis X.env.scope x) _root_.zt4) (hd : autoParam ((x == ("__debug__" : Str)) = false) _root_.zt1)
    (hcd : autoParam ((x == ("__classdict__" : Str)) = false) _root_.zt1) : PE X (.Name x pos) (tVar i) := pe_var hN hv hd hcd
end

private theorem iteF {A B : Prop} (h : B) : if false = true then A else B := by
  rw [if_neg Bool.false_ne_true]
  exact h
private theorem iteT {A B : Prop} (h : A) : if true = true then A else B := by
  rw [if_pos rfl]
  exact h
noncomputable def Same (H H' : Hp) : Prop := ∀ b o, H b = some o → H' b = some o
private theorem Same.refl (H : Hp) : Same H H := fun _ _ h => h
private theorem Same.trans {H H1 H2 : Hp} (a : Same H H1) (b : Same H1 H2) : Same H H2 := fun c o h => b c o (a c o h)
private theorem Same.free {H H' : Hp} (e : Same H H') {l : Addr} (h : H' l = Option.none) : H l = Option.none := by
  cases q : H l with
  | none => rfl
  | some o =>
    rw [e l o q] at h
    cases h
private theorem Same.seq {K : PySem.W.Frag} {H H' : Hp} {a : Addr} {xs : List V} (e : Same H H') (h : SqL K H a xs) : SqL K H' a xs := by
  rcases h with (h | ⟨o, h⟩) | h
  · exact .inl (.inl (e _ _ h))
  · exact .inl (.inr ⟨o, e _ _ h⟩)
  · exact .inr h

end L2

namespace L2
open PySem PySem.Spec PyProof.Rows
section
variable {X : Cx}
end
section
variable {κ : Type} [DecidableEq κ]
end
end L2

namespace L3
open PySem PySem.Spec L2
open PyProof.Rows hiding St

noncomputable def TbOk (B h : Heap) (e : Addr) (v : Value) : Prop := v = .none ∨ ∃ T oT ts, v = .ref T ∧ B.get? T = none ∧ T ≠ e ∧ h.get? T = some oT ∧ oT.data = .fields ts ∧ ts[3]? = some .none
structure Flies (B : Heap) (l : List Env) (e : Addr) (C : Value) (dx : Option Addr) (h : Heap) : Prop where
  st : B.StaysIn h
  nw : B.get? e = none
  fr : h.FunFrames B l
  ob : ∃ oe vs v, h.get? e = some oe ∧ oe.cls = C ∧ oe.dict = dx ∧ oe.data = .fields vs ∧ vs[1]? = some v ∧ TbOk B h e v
private theorem Flies.pop {B : Heap} {env : Env} {l : List Env} {e : Addr} {C : Value} {dx : Option Addr} {h : Heap} (x : Flies B (env :: l) e C dx h) : Flies B l e C dx h := ⟨x.st, x.nw, x.fr.2.2, x.ob⟩
section
variable {M : Model} {A : Around} {E : Value → Shared → Prop} {s : Shared}
private theorem entry_land {B : Heap} {env : Env} {l : List Env} {L e : Addr} {ob : Obj} {fs : Array Value} {hd : Value} {nx : Bool} {Q : Unit → Shared → Prop} (kf : A.frames = some (env :: l)) (fr : s.heap.FunFrames B (env :: l)) (hL : env.frame = some L)
    (ge : s.heap.get? e = some ob) (st : B.StaysIn s.heap) (nw : B.get? e = none) (de : ob.data = .fields fs) (z1 : 1 < fs.size) (k : ∀ h', Flies B (env :: l) e ob.cls ob.dict h' → s.heap.UpToSlots h' → Q () { s with heap := h' }) :
    wpAny M A (do let fo ← frameOf env; let pl ← entryPlaceOf L nx; let tb ← EntryCells.newEntry hd fo .none (rawInt L) .none pl; setField (.ref e) 1 tb) (fun _ s' => wpAny M A (setFlight (.ref e) none) Q E s') E s := by
  have ne : e ∉ (env :: l).filterMap (·.frame) := fun m => by
    obtain ⟨_, o, ho, no⟩ := fr.mem m
    rw [ge] at ho; cases ho
    exact no fs de
  refine wpAny_bind (wpAny_frameOf_fun kf fr hL fun g1 r1 => wpAny_bind (wpAny_entryPlaceOf fun pl hp => ?_))
  unfold EntryCells.newEntry newFields
  refine wpAny_bind (wpAny_newObj_type ?_ (hp.sizeOk5 _ _ _ _ _))
  obtain ⟨tb, htb⟩ : ∃ tb : Obj, tb = { cls := .type "traceback", dict := none, data := .fields ([hd, .ref L, .none, rawInt L, .none] ++ (if pl.isEmpty then List.replicate 6 Value.none else pl)).toArray } := ⟨_, rfl⟩
  rw [← htb]
  have e1 : g1.get? e = some ob := (r1.2.1 e ne).trans ge
  have s1 : B.StaysIn g1 := fun b o q => (r1.2.1 b fun m => by rw [(fr.mem m).1] at q; cases q).trans (st b o q)
  have e2 : (g1.push tb).get? e = some ob := Heap.get?_push_of_some tb e1
  refine wpAny_setField e2 de z1 ?_
  have Te : g1.objs.size ≠ e := Nat.ne_of_gt (Heap.lt_size e1)
  have d3 := Obj.data_mapFields de (·.setIfInBounds 1 (Value.ref g1.objs.size))
  have e3 := Heap.get?_update_self (Obj.mapFields (·.setIfInBounds 1 (Value.ref g1.objs.size))) e2 (Obj.isFreed_of_fields d3)
  have T2 : (g1.push tb).get? g1.objs.size = some tb := Heap.get?_push_size g1 (by rw [htb]; rfl)
  have T3 := (Heap.get?_update_other (g1.push tb) (Obj.mapFields (·.setIfInBounds 1 (Value.ref g1.objs.size))) (Ne.symm Te)).trans T2
  unfold setFlight
  refine wpAny_bind (wpAny_field e3 d3 (x := .ref g1.objs.size) (by simp [z1]) ?_)
  rw [if_pos (by simp : (Value.ref g1.objs.size != Value.none) = true)]
  have dT : tb.data = .fields ([hd, .ref L, .none, rawInt L, .none] ++ (if pl.isEmpty then List.replicate 6 Value.none else pl)).toArray := by rw [htb]
  have z3 : 3 < ([hd, .ref L, .none, rawInt L, .none] ++ (if pl.isEmpty then List.replicate 6 Value.none else pl)).toArray.size := by
    simp only [List.size_toArray, List.length_append, List.length_cons, List.length_nil]; omega
  have kp : ∀ b o, b ≠ e → g1.get? b = some o → (((g1.push tb).update e (Obj.mapFields (·.setIfInBounds 1 (Value.ref g1.objs.size)))).update g1.objs.size (Obj.mapFields (·.setIfInBounds 3 ((none : Option Addr).elim Value.none fun f => rawInt f)))).get? b = some o := fun b o be q => by
    have bT : g1.objs.size ≠ b := Nat.ne_of_gt (Heap.lt_size q)
    rw [Heap.get?_update_other _ _ bT, Heap.get?_update_other _ _ (Ne.symm be)]
    exact Heap.get?_push_of_some tb q
  have nr : ∀ b o, s.heap.get? b = some o → (∀ xs, o.data ≠ .fields xs) → b ≠ e := fun b o q no z => by
    rw [z, ge] at q; cases q
    exact no fs de
  refine wpAny_setField T3 dT z3 (k _ ⟨fun b o q => kp b o (fun z => by rw [z, nw] at q; cases q) (s1 b o q), nw, fr.of_keeps fun b o q no => ?_, ?_⟩ fun b o q no => ?_)
  · obtain ⟨sl, q2⟩ := r1.2.2 b o q
    exact ⟨_, kp b _ (nr b o q no) q2, rfl⟩
  · refine ⟨_, _, .ref g1.objs.size, (Heap.get?_update_other _ _ Te).trans e3, Obj.cls_mapFields _ _, ?_, d3, by simp [z1], .inr ⟨g1.objs.size, _, _, rfl, s1.fresh, Te, Heap.get?_update_self _ T3 (Obj.isFreed_of_fields (Obj.data_mapFields dT _)), Obj.data_mapFields dT _, ?_⟩⟩
    · obtain ⟨a, b, c, d⟩ := ob
      simp only at de
      subst de
      rfl
    · rw [Array.getElem?_setIfInBounds_self_of_lt z3]; rfl
  · obtain ⟨sl, q2⟩ := r1.2.2 b o q
    exact ⟨sl, kp b _ (nr b o q no) q2⟩
private theorem note_land {B : Heap} {env : Env} {l : List Env} {L e : Addr} {C : Value} {dx : Option Addr} {Q : Unit → Shared → Prop} (kf : A.frames = some (env :: l)) (hL : env.frame = some L) (x : Flies B (env :: l) e C dx s.heap)
    (k : ∀ h', Flies B (env :: l) e C dx h' → s.heap.UpToSlots h' → Q () { s with heap := h' }) : wpAny M A (noteFrame (.ref e) env) (fun _ s' => wpAny M A (setFlight (.ref e) none) Q E s') E s := by
  obtain ⟨st, nw, fr, ob, vs, v, ge, hc, hx, de, h1, tb⟩ := x
  subst hc hx
  have z1 : 1 < vs.size := (Array.getElem?_eq_some_iff.mp h1).1
  unfold noteFrame
  simp only [hL]
  refine wpAny_bind (wpAny_field ge de h1 ?_)
  rcases tb with rfl | ⟨T, oT, ts, rfl, nT, Te, gT, dT, h3⟩
  · rw [if_neg (by decide)]
    exact entry_land kf fr hL ge st nw de z1 k
  · rw [if_pos (by simp : (Value.ref T != Value.none) = true)]
    refine wpAny_bind (wpAny_field gT dT h3 ?_)
    rw [if_neg (by simp [rawInt] : ¬ ((Value.none == rawInt L) = true))]
    have z3 : 3 < ts.size := (Array.getElem?_eq_some_iff.mp h3).1
    refine wpAny_bind (wpAny_setField gT dT z3 ?_)
    have oth : ∀ b, b ≠ T → (s.heap.update T (Obj.mapFields (·.setIfInBounds 3 Value.none))).get? b = s.heap.get? b := fun b q => Heap.get?_update_other _ _ (Ne.symm q)
    have nr : ∀ b o, s.heap.get? b = some o → (∀ xs, o.data ≠ .fields xs) → b ≠ T := fun b o q no z => by
      rw [z, gT] at q; cases q
      exact no ts dT
    exact entry_land (s := { s with heap := s.heap.update T (Obj.mapFields (·.setIfInBounds 3 Value.none)) }) kf (fr.of_keeps fun b o q no => ⟨o, (oth b (nr b o q no)).trans q, rfl⟩) hL ((oth e (Ne.symm Te)).trans ge)
      (fun b o q => (oth b fun z => by rw [z, nT] at q; cases q).trans (st b o q)) nw de z1 fun h' f u => k h' f fun b o q no => u b o ((oth b (nr b o q no)).trans q) no
private theorem leave_land {B : Heap} {env : Env} {l : List Env} {L e : Addr} {C : Value} {dx : Option Addr} {Q : Unit → Shared → Prop} (kf : A.frames = some (env :: l)) (hL : env.frame = some L) (x : Flies B (env :: l) e C dx s.heap)
    (k : ∀ h', Flies B (env :: l) e C dx h' → s.heap.UpToSlots h' → Q () { s with heap := h' }) : wpAny M A (leaving env (.ref e)) Q E s := by
  unfold leaving
  exact wpAny_bind (note_land kf hL x k)
end
end L3
namespace L3
open PySem PySem.Spec L2
open PyProof.Rows hiding St
open PySem.W (Looks)

private theorem lenS {α : Type} {us : List α} {n : Nat} (h : us.length = n + 1) : ∃ a r, us = a :: r ∧ r.length = n := by
  cases us with
  | nil => cases h
  | cons a r => exact ⟨a, r, rfl, Nat.succ.inj h⟩
private theorem len1 {α : Type} {us : List α} (h : us.length = 1) : ∃ a0, us = [a0] := by
  obtain ⟨a, r, rfl, k⟩ := lenS h
  cases List.eq_nil_of_length_eq_zero k
  exact ⟨a, rfl⟩
private theorem len2 {α : Type} {us : List α} (h : us.length = 2) : ∃ a0 a1, us = [a0, a1] := by
  obtain ⟨a, r, rfl, k⟩ := lenS h
  obtain ⟨b0, rfl⟩ := len1 k
  exact ⟨a, b0, rfl⟩
private theorem len3 {α : Type} {us : List α} (h : us.length = 3) : ∃ a0 a1 a2, us = [a0, a1, a2] := by
  obtain ⟨a, r, rfl, k⟩ := lenS h
  obtain ⟨b0, b1, rfl⟩ := len2 k
  exact ⟨a, b0, b1, rfl⟩
private theorem len4 {α : Type} {us : List α} (h : us.length = 4) : ∃ a0 a1 a2 a3, us = [a0, a1, a2, a3] := by
  obtain ⟨a, r, rfl, k⟩ := lenS h
  obtain ⟨b0, b1, b2, rfl⟩ := len3 k
  exact ⟨a, b0, b1, b2, rfl⟩
private theorem len5 {α : Type} {us : List α} (h : us.length = 5) : ∃ a0 a1 a2 a3 a4, us = [a0, a1, a2, a3, a4] := by
  obtain ⟨a, r, rfl, k⟩ := lenS h
  obtain ⟨b0, b1, b2, b3, rfl⟩ := len4 k
  exact ⟨a, b0, b1, b2, b3, rfl⟩
private theorem len6 {α : Type} {us : List α} (h : us.length = 6) : ∃ a0 a1 a2 a3 a4 a5, us = [a0, a1, a2, a3, a4, a5] := by
  obtain ⟨a, r, rfl, k⟩ := lenS h
  obtain ⟨b0, b1, b2, b3, b4, rfl⟩ := len5 k
  exact ⟨a, b0, b1, b2, b3, b4, rfl⟩
noncomputable def xTail : List Value := [.type "ValueError", .type "Exception", .type "BaseException", .type "object"]
noncomputable def tyV : Value → Option String
  | .type n => some n
  | _ => none
noncomputable def refV : Value → Option Addr
  | .ref a => some a
  | _ => none
noncomputable def bltV : Value → Option String
  | .builtin n => some n
  | _ => none
noncomputable def clsV : Data → Option ClassData
  | .cls cd => some cd
  | _ => none
private theorem tyV_eq {v : Value} {n : String} (h : tyV v = some n) : v = .type n := by
  cases v <;> first | exact congrArg Value.type (Option.some.inj h) | cases h
private theorem refV_eq {v : Value} {a : Addr} (h : refV v = some a) : v = .ref a := by
  cases v <;> first | exact congrArg Value.ref (Option.some.inj h) | cases h
private theorem bltV_eq {v : Value} {n : String} (h : bltV v = some n) : v = .builtin n := by
  cases v <;> first | exact congrArg Value.builtin (Option.some.inj h) | cases h
private theorem clsV_eq {v : Data} {cd : ClassData} (h : clsV v = some cd) : v = .cls cd := by
  cases v <;> first | exact congrArg Data.cls (Option.some.inj h) | cases h
noncomputable def xclsIn (K : PySem.W.Frag) (C : Addr) : Bool := (K.lookup C).any fun o => tyV o.cls == some "type" && (clsV o.data).any fun cd =>
  cd.mro.head?.bind refV == some C && o.slots.toList.length == 6 && ((o.slots.toList[4]?).bind id).bind bltV == some "ValueError.__new__" && !cd.hasDel && PySem.W.tailIn K xTail cd.mro.tail
private theorem xcls_of {K : PySem.W.Frag} {C : Addr} (q : xclsIn K C = true) : ∃ nm qn N bs bm hd sn sub ab col dd k0 k1 k2 k3 k5,
    K.lookup C = some (excClassObj nm qn C N bs bm hd sn sub ab col dd k0 k1 k2 k3 k5 "ValueError.__new__") ∧ PySem.W.tailIn K xTail bm = true := by
  unfold xclsIn at q
  cases lk : K.lookup C with
  | none => rw [lk] at q; cases q
  | some o =>
    rw [lk] at q
    obtain ⟨c, dd, da, ⟨sl⟩⟩ := o
    obtain ⟨q1, q2⟩ := Bool.and_eq_true_iff.mp (show (tyV c == some "type" && _) = true from q)
    cases tyV_eq (eq_of_beq q1)
    cases hda : clsV da with
    | none => rw [hda] at q2; cases q2
    | some cd =>
      rw [hda] at q2
      cases clsV_eq hda
      obtain ⟨nm, bs, mro, ns, qn, hd, sn, sub, ab, col, del⟩ := cd
      simp only [Option.any_some, Bool.and_eq_true, beq_iff_eq, Bool.not_eq_true'] at q2
      obtain ⟨⟨⟨⟨m1, s1⟩, s2⟩, nd⟩, tl⟩ := q2
      cases mro with
      | nil => cases m1
      | cons m bm =>
        cases refV_eq m1
        obtain ⟨k0, k1, k2, k3, k4, k5, rfl⟩ := len6 s1
        cases k4 with
        | none => cases s2
        | some v =>
          cases bltV_eq s2
          subst nd
          exact ⟨nm, qn, ns, bs, bm, hd, sn, sub, ab, col, dd, k0, k1, k2, k3, k5, rfl, tl⟩
section
variable {prog : Program} {w : World} {A : Around} {E : Value → Shared → Prop} {h : Heap} {g : Array GenState} {d : Drawn} {t : Nat} {os : OsState} {K : PySem.W.Frag} {C : Addr}
private theorem tcall_init {fI : Addr} {us : List Value} {Q : Fin → Shared → Prop} (X : K.In h) (q : xclsIn K C = true) (hi : PySem.W.findIn K (.ref C) "__init__" = some (some (.ref fI))) (hf : PySem.W.typeIn K (.ref fI) = some (.type "function")) (hl : us.length ≤ sizeLine)
    (k : ∀ h' e, Heap.MadeExcOf h h' e (.ref C) us → wpAny (model prog w) A (call (.ref fI) (.ref e :: us)) (fun r s' => r = .none ∧ Q (.done (.ret (.ref e))) s') E ⟨h', g, d, t, os⟩) :
    wpAny (model prog w) A (Builtin.«type.__call__» ⟨.ref C :: us, []⟩) Q E ⟨h, g, d, t, os⟩ := by
  obtain ⟨nm, qn, N, bs, bm, hd, sn, sub, ab, col, dd, k0, k1, k2, k3, k5, lk, tl⟩ := xcls_of q
  have gC := X _ _ lk
  have T := PySem.W.tail_of_in X tl
  have F := PySem.F.excBase_ValueError
  repeat (first | wp_step | with_reducible refine wpAny_loadPart_at gC ?_ | with_reducible refine wpAny_madeBy_exc gC ?_)
  refine codeAny_call_builtin_code (Code.quiet_builtin _ F.quiet) (wpAny_check_new_subT F T gC (codeAny_exc_new_subT F T gC ?_ hl))
  show wpAny _ _ _ _ _ _
  obtain ⟨ob, hob⟩ : ∃ ob : Obj, ob = { cls := .ref C, data := .fields #[.ref h.objs.size, .none, .none, .none, .bool false, .none] } := ⟨_, rfl⟩
  obtain ⟨tp, htp⟩ : ∃ tp : Obj, tp = { cls := .type "tuple", data := .seq us.toArray } := ⟨_, rfl⟩
  rw [← hob, ← htp]
  have kp : ∀ b o, h.get? b = some o → ((h.push tp).push ob).get? b = some o := fun b o z => Heap.get?_push_of_some ob (Heap.get?_push_of_some tp z)
  have g1 := kp _ _ gC
  have ge : ((h.push tp).push ob).get? (h.objs.size + 1) = some ob := by
    have := Heap.get?_push_size (h.push tp) (o := ob) (by rw [hob]; rfl)
    rwa [Heap.size_push] at this
  have gt : ((h.push tp).push ob).get? h.objs.size = some tp := Heap.get?_push_of_some ob (Heap.get?_push_size h (by rw [htp]; rfl))
  have cl : ob.cls = .ref C := by rw [hob]
  have me : (Value.ref C :: bm).contains (.ref C) = true := by simp
  unfold isInstance
  repeat (first | rw [cl] | (with_reducible refine wpAny_isSubtype_exc g1 ?_; rw [me]) | (with_reducible refine wpAny_loadPart_at ge ?_) | wp_step)
  show wpAny _ _ (typeLookup (.ref C) _) _ _ _
  refine (PySem.W.looks_findIn (X.keeps kp) hi).at ?_
  refine wpAny_holding (wpAny_bind ((PySem.W.bind_fn (X.keeps kp) (.ref (h.objs.size + 1)) hf).at (wpAny_bind ?_)))
  refine wpAny_mono (k _ (h.objs.size + 1) ⟨kp, Heap.get?_none_of_le (Nat.le_succ _), h.objs.size, by rw [ge, hob], Heap.get?_none_of_le (Nat.le_refl _), by rw [gt, htp]⟩) (fun r s' hr => ?_) fun _ _ z => z
  obtain ⟨rfl, hQ⟩ := hr
  wp_walk
  exact hQ
private theorem ccall_init {fI : Addr} {us : List Value} {Q : Value → Shared → Prop} (X : K.In h) (q : xclsIn K C = true) (hi : PySem.W.findIn K (.ref C) "__init__" = some (some (.ref fI))) (hf : PySem.W.typeIn K (.ref fI) = some (.type "function")) (hl : us.length ≤ sizeLine)
    (k : ∀ h' e, Heap.MadeExcOf h h' e (.ref C) us → wpAny (model prog w) (A.under (.builtin "type.__call__" ⟨.ref C :: us, []⟩)) (call (.ref fI) (.ref e :: us)) (fun r s' => r = .none ∧ Q (.ref e) s') E ⟨h', g, d, t, os⟩) :
    wpAny (model prog w) A (call (.ref C) us) Q E ⟨h, g, d, t, os⟩ := by
  obtain ⟨nm, qn, N, bs, bm, hd, sn, sub, ab, col, dd, k0, k1, k2, k3, k5, lk, tl⟩ := xcls_of q
  have gC := X _ _ lk
  have a1 := tc_lookup
  have a2 := tc_bind (.ref C)
  have a3 : (⟨h, g, d, t, os⟩ : Shared).TypeIs (.ref C) "type" := ⟨_, gC, rfl⟩
  refine wpAny_call (codeAny_of_tree ?_)
  show wpAny _ _ (callAny (.ref C) _) _ _ _
  repeat (any_goals (first | wp_step | assumption | with_reducible refine wpAny_loadPart_at gC ?_))
  refine ⟨rfl, codeAny_call_builtin_at (Code.quiet_builtin _ (by decide +kernel)) entry_typeCall (wpAny_check_type_call_sub gC (tcall_init X q hi hf hl fun h' e hm => ?_))⟩
  exact k h' e hm
end

noncomputable def xMro : List Value → Bool
  | .ref _ :: r => xMro r
  | l => l == xTail
private theorem xMro_refuse (self : Value) : ∀ {l : List Value}, xMro l = true → refuseLoop self "__setattr__" l = pure ()
  | .ref c :: r, e => by rw [refuseLoop_ref]; exact xMro_refuse self (l := r) (by unfold xMro at e; exact e)
  | [], e => by cases e
  | .none :: _, e => by unfold xMro at e; rw [beq_iff_eq.mp e]; exact PySem.F.store_ValueError.passes self
  | .bool _ :: _, e => by unfold xMro at e; rw [beq_iff_eq.mp e]; exact PySem.F.store_ValueError.passes self
  | .int _ _ :: _, e => by unfold xMro at e; rw [beq_iff_eq.mp e]; exact PySem.F.store_ValueError.passes self
  | .str _ _ :: _, e => by unfold xMro at e; rw [beq_iff_eq.mp e]; exact PySem.F.store_ValueError.passes self
  | .type _ :: _, e => by unfold xMro at e; rw [beq_iff_eq.mp e]; exact PySem.F.store_ValueError.passes self
  | v :: l, e => by
    cases v <;> first
      | (unfold xMro at e; rw [beq_iff_eq.mp e]; exact PySem.F.store_ValueError.passes self)
      | (rw [refuseLoop_ref]; exact xMro_refuse self (l := l) (by unfold xMro at e; exact e))
end L3
namespace L3
open PySem PySem.Spec L2
open PyProof.Rows hiding St
open PySem.W (Looks InstAt)

private theorem xMro_has : ∀ {l : List Value}, xMro l = true → l.contains (.type "object") = true
  | [], e => by cases e
  | v :: l, e => by
    cases v <;> first
      | (unfold xMro at e; rw [beq_iff_eq.mp e]; decide +kernel)
      | (rw [List.contains_cons, xMro_has (l := l) (by unfold xMro at e; exact e), Bool.or_true])
noncomputable def xOver (K : PySem.W.Frag) (C : Addr) : Bool := (PySem.W.clsIn K C).any fun cd => xMro cd.mro && cd.hasDict
section
variable {prog : Program} {w : World} {A : Around} {E : Value → Shared → Prop} {s : Shared} {K : PySem.W.Frag} {C x : Addr} {name : Str} {v : Value}
private theorem osa_exc {ox : Obj} {od : Option Obj} {tk : Tok} {R : Result → Shared → Prop} (X : K.In s.heap) (J : InstAt s.heap x ox C od) (hp : xOver K C = true) (ht : PySem.W.takerIn K C name = some none)
    (k : ∀ b, wpAny (model prog w) A.in1 (Builtin.ObjectAttr.storeInOwnDict (.ref x) (.ref C) (.str name tk) name v b) (fun fin s' => match fin with | .done f => R (.ok f) s' | .again c' => c'.quiet = true ∧ codeAny (model prog w) A c' R s') (fun e s' => R (.error e) s') s) :
    codeAny (model prog w) A (.call (.builtin "object.__setattr__") ⟨[.ref x, .str name tk, v], []⟩) R s := by
  have SF := PySem.F.store_object
  obtain ⟨cd, hc, ho⟩ := PySem.W.any_some hp
  rw [Bool.and_eq_true] at ho
  have hm := xMro_has ho.1
  have ne : cd.mro.isEmpty = false := by
    cases q : cd.mro with
    | nil => rw [q] at hm; cases hm
    | cons a b => rfl
  have sub : Looks (model prog w) s.heap (isInstance (.ref x) (.type "object")) true := J.type.andThen (PySem.W.looks_mroIn X (by unfold PySem.W.mroIn; rw [hc, Option.bind_some, if_neg (by rw [ne]; decide), hm]))
  refine codeAny_call_builtin SF.slot.plain SF.entry (@PySem.W.check_slot (model prog w) _ _ s "object.__setattr__" "object" "__setattr__" (.ref x) [.str name tk, v] [] _ SF.kind SF.split sub (SF.args (.ref x) (.str name tk) v) ?_)
  obtain ⟨at_, ha, hr⟩ := Option.bind_eq_some_iff.mp ht
  have mo : Looks (model prog w) s.heap (mroOf (.ref C)) cd.mro := (PySem.W.looks_clsIn X hc).andThen .now
  have tk3 : Looks (model prog w) s.heap (Builtin.ObjectAttr.storeTaker? at_) none := by
    cases at_ with
    | none => exact .now
    | some a =>
      obtain ⟨b, hb, hn⟩ := Option.map_eq_some_iff.mp hr
      refine (PySem.W.looks_takesIn X hb).andThen ?_
      cases b with
      | true => cases hn
      | false => exact .now
  rw [PySem.W.osa_eq, refuse_eq]
  refine wpAny_bind (wpAny_bind (J.type.here (wpAny_bind (mo.here ?_))))
  rw [xMro_refuse _ ho.1]
  exact wpAny_pure (wpAny_bind (J.type.here (wpAny_bind ((PySem.W.looks_findIn X ha).here (wpAny_bind (tk3.here (k _)))))))
private theorem xset0 {fs : Array Value} {sl : Array (Option Value)} {Q : Unit → Shared → Prop} (X : K.In s.heap) (hx : s.heap.get? x = some ⟨.ref C, none, .fields fs, sl⟩) (hs : PySem.W.findIn K (.ref C) "__setattr__" = some (some (.builtin "object.__setattr__")))
    (hp : xOver K C = true) (ht : PySem.W.takerIn K C name = some none)
    (k : ∀ h' tk, h'.get? x = some ⟨.ref C, some s.heap.objs.size, .fields fs, sl⟩ → h'.Ns1 s.heap.objs.size (fun y => if y = name then some v else none) → (∀ b o, b ≠ x → s.heap.get? b = some o → h'.get? b = some o) → Q () { s with heap := h', toks := tk }) :
    wpAny (model prog w) A (setAttr (.ref x) name v) Q E s := by
  have J : InstAt s.heap x ⟨.ref C, none, .fields fs, sl⟩ C none := ⟨hx, rfl, rfl, trivial⟩
  obtain ⟨cd, hc, ho⟩ := PySem.W.any_some hp
  rw [Bool.and_eq_true] at ho
  refine PySem.W.set_plain X J hs (osa_exc (s := { s with toks := s.toks + 1 }) X J hp ht fun b => ?_)
  refine wpAny_bind (wpAny_pure (wpAny_bind (wpAny_bind (wpAny_loadPart hx (wpAny_bind (Looks.here (s := { s with toks := s.toks + 1 }) (PySem.W.looks_clsIn X hc) ?_))))))
  rw [ho.2]
  show wpAny _ _ (do let dn ← alloc { cls := .type "dict", data := .dict #[] }; update x (fun o => { o with dict := some dn }); dictMade (.ref C) x dn) _ _ _
  obtain ⟨D0, hD0⟩ : ∃ D0 : Obj, D0 = { cls := .type "dict", data := .dict #[] } := ⟨_, rfl⟩
  rw [← hD0]
  have x1 : (s.heap.push D0).get? x = some ⟨.ref C, none, .fields fs, sl⟩ := Heap.get?_push_of_some D0 hx
  have xs : x ≠ s.heap.objs.size := Nat.ne_of_lt (Heap.lt_size hx)
  refine wpAny_bind (wpAny_alloc (wpAny_bind (wpAny_update x1 (wpAny_pure ?_))))
  have gd : ((s.heap.push D0).update x fun o => { o with dict := some s.heap.objs.size }).get? s.heap.objs.size = some D0 := (Heap.get?_update_ne _ _ _ _ xs.symm).trans (Heap.get?_push_size s.heap (by rw [hD0]; rfl))
  have nd : ((s.heap.push D0).update x fun o => { o with dict := some s.heap.objs.size }).Ns s.heap.objs.size (fun _ => none) := ⟨D0, #[], _, gd, by rw [hD0], fun e he => absurd he (by simp), fun _ => rfl⟩
  have gx : ((s.heap.push D0).update x fun o => { o with dict := some s.heap.objs.size }).get? x = some ⟨.ref C, some s.heap.objs.size, .fields fs, sl⟩ := Heap.get?_update_self _ x1 rfl
  show wpAny _ _ (Builtin.ObjectAttr.storeInDict s.heap.objs.size (.str name s.toks) name v) _ _ _
  unfold Builtin.ObjectAttr.storeInDict Builtin.ObjectAttr.newKeyGuard
  refine wpAny_bind (wpAny_pure (wpAny_bind (wpAny_nsSet1 (Heap.Ns1.of_empty nd) fun h' n' sb => ?_)))
  obtain ⟨oD, eD, pD, go, dD, cD⟩ := n'.count (Within.cons name v Within.nil)
  refine wpAny_bind (wpAny_lookBehind go (by rw [dD]; exact pastItsLine_dict (Nat.le_trans cD (by rw [List.length_cons, List.length_nil, sizeLine_eq]; omega))) (wpAny_pure ?_))
  exact k h' _ ((sb.2 x xs).trans gx) n' fun b o bx q => (sb.2 b (Nat.ne_of_lt (Heap.lt_size q))).trans ((Heap.get?_update_ne _ _ _ _ bx).trans (Heap.get?_push_of_some D0 q))
end
end L3
namespace L3
open PySem PySem.Spec L2
open PyProof.Rows hiding St

noncomputable def exH (e C : Addr) (od : Option Addr) : HO := .ext fun h => ∃ vs sl, h.get? e = some ⟨.ref C, od, .fields vs, sl⟩ ∧ vs[1]? = some .none
noncomputable def dcH (d : Addr) (fs : List (Str × V)) : HO := .ext fun h => ∃ mA, h.Ns1 d mA ∧ (∀ f, RelO (fs.lookup f) (mA f)) ∧ PySem.Within mA (fs.map (·.1))
section
variable {P : Program} {w : World} {H : Hp} {h h' : Heap}
private theorem exH_ok {e C : Addr} {od : Option Addr} {vs : Array Value} {sl : Array (Option Value)} (g : h.get? e = some ⟨.ref C, od, .fields vs, sl⟩) (v1 : vs[1]? = some .none) : ObjOk P w H h e (exH e C od) :=
  ⟨⟨vs, sl, g, v1⟩, ⟨_, g⟩, fun h1 h2 ⟨vs, sl, g, v1⟩ k => ⟨vs, sl, k _ g, v1⟩⟩
private theorem exH_get {e C : Addr} {od : Option Addr} (ok : HOk P w H h) (q : H e = some (exH e C od)) : ∃ vs sl, h.get? e = some ⟨.ref C, od, .fields vs, sl⟩ ∧ vs[1]? = some .none := by
  obtain ⟨z, _⟩ := (show ObjOk P w H h e (exH e C od) from ok e _ q)
  exact z
private theorem dcH_ok {d : Addr} {fs : List (Str × V)} {mA : Str → Option Value} (n : h.Ns1 d mA) (r : ∀ f, RelO (fs.lookup f) (mA f)) (i : PySem.Within mA (fs.map (·.1))) : ObjOk P w H h d (dcH d fs) :=
  ⟨⟨mA, n, r, i⟩, let ⟨o, _, _, e, _⟩ := n; ⟨o, e⟩, fun h1 h2 ⟨mA, n, r, i⟩ k => ⟨mA, n.at fun o q => k o q, r, i⟩⟩
private theorem dcH_get {d : Addr} {fs : List (Str × V)} (ok : HOk P w H h) (q : H d = some (dcH d fs)) : ∃ mA, h.Ns1 d mA ∧ (∀ f, RelO (fs.lookup f) (mA f)) ∧ PySem.Within mA (fs.map (·.1)) := by
  obtain ⟨z, _⟩ := (show ObjOk P w H h d (dcH d fs) from ok d _ q)
  exact z
private theorem Un.both {fs ex : List Addr} {a d : Addr} {o1 o2 : HO} (mu : Mut (H a)) (k : ∀ b o, b ≠ a → h.get? b = some o → h'.get? b = some o) (ha : ∃ o, h'.get? a = some o) (hd : h.objs.size ≤ d) (hn : H d = none) : Un fs ex H (upd (upd H d o1) a o2) h h' := by
  have na : ∀ b, H b = none → b ≠ a := fun b n z => by subst z; rw [n] at mu; exact mu
  have nm : ∀ b u, H b = some u → ¬ Mut (some u) → b ≠ a := fun b u q no z => by subst z; rw [q] at mu; exact no mu
  have two : ∀ b u, H b = some u → b ≠ a → upd (upd H d o1) a o2 b = some u := fun b u q z => by rw [upd_ne z, upd_ne (ne_of_none q hn)]; exact q
  refine ⟨fun b u q n _ _ => k b u (na b n) q, fun b u q n _ _ => ⟨u.slots, k b u (na b n) q⟩, fun b u q n _ => ?_, fun b u q _ => ?_, fun b xs q => two b _ q (nm b _ q fun z => z), fun b u v q => two b _ q (nm b _ q fun z => z), fun b ps q => ⟨#[], by rw [two b _ q (nm b _ q fun z => z)]; simp⟩⟩
  · rw [upd_ne (na b n), upd_ne (Nat.ne_of_lt (Nat.lt_of_lt_of_le (Heap.lt_size q) hd))]; exact n
  · by_cases z : b = a
    · subst z; exact ha
    · exact ⟨u, k b u z q⟩
private theorem HOk.both {a d : Addr} {o1 o2 : HO} (ok : HOk P w H h) (mu : Mut (H a)) (k : ∀ b o, b ≠ a → h.get? b = some o → h'.get? b = some o) (hd : h.objs.size ≤ d) (n1 : ObjOk P w (upd (upd H d o1) a o2) h' d o1) (n2 : ObjOk P w (upd (upd H d o1) a o2) h' a o2) (nd : d ≠ a) :
    HOk P w (upd (upd H d o1) a o2) h' := fun b u q => by
  have hn := ok.fresh hd
  have nm : ∀ c v, H c = some v → ¬ Mut (some v) → c ≠ a := fun c v r no z => by subst z; rw [r] at mu; exact no mu
  by_cases z : b = a
  · subst z; rw [upd_same] at q; cases q; exact n2
  · rw [upd_ne z] at q
    by_cases y : b = d
    · subst y; rw [upd_same] at q; cases q; exact n1
    · rw [upd_ne y] at q
      refine (ok b u q).stay (fun c v hc r => k c v ?_ r) (fun c r => ?_) fun c xs r => ?_
      · rcases hc with rfl | r'
        · exact z
        · exact nm c _ r' fun z => z
      · rw [upd_ne (nm c _ r fun z => z), upd_ne (ne_of_none r hn)]; exact r
      · rw [upd_ne (nm c _ r fun z => z), upd_ne (ne_of_none r hn)]; exact r
end
structure XCl (K : PySem.W.Frag) (C : Addr) : Prop where
  sa : PySem.W.findIn K (.ref C) "__setattr__" = some (some (.builtin "object.__setattr__"))
  ov : xOver K C = true
section
variable {X : Cx} {o e value : Expr} {f : Str} {pos pos' : Pos} {ta tv : TE}
private theorem ps_xfld0 (ha : PE X o ta) (hv : PE X value tv) (hs : autoParam (swapsWith value (some (.Attribute o f pos')) pos.line X.env = pure false) _root_.zt2) : PS X (.Assign [.Attribute o f pos'] value pos) (fun D σ H => tv σ H fun y H1 => ta σ H1 fun x H2 =>
    ∃ a C, x = .ref a ∧ H2 a = some (exH a C none) ∧ XCl X.K C ∧ NoAttr X.K C f ∧ ∀ d, H2 d = none → d ≠ a → D.nx σ (upd (upd H2 d (dcH d [(f, y)])) a (exH a C (some d)))) := by
  intro pins s σ H D I q
  refine plainObj_wpAny_Assign_Attribute (thn (hv pins s σ H _ I q) fun u s1 ⟨y, H1, I1, ry, q⟩ => thn (ha pins s1 σ H1 _ I1 q) fun ov s2 zq9 => ?_) hs
  obtain ⟨x, H2, I2, rx, a, C, ex, ea, c, n, k⟩ := zq9
  subst ex
  obtain rfl : ov = Value.ref a := rx
  obtain ⟨vs, sl, ga, v1⟩ := exH_get I2.hok ea
  have mu : Mut (H2 a) := by rw [ea]; exact trivial
  have nd : s2.heap.objs.size ≠ a := Nat.ne_of_gt (Heap.lt_size ga)
  have hf := I2.hok.fresh (Nat.le_refl s2.heap.objs.size)
  refine xset0 I2.kIn ga c.sa c.ov n.taker fun h' tk g' n' kp => ⟨σ, _, I2.un (t' := tk) (Un.both mu kp ⟨_, g'⟩ (Nat.le_refl _) hf) (HOk.both I2.hok mu kp (Nat.le_refl _) (dcH_ok n' (fun g => ?_) fun g hg => ?_) (exH_ok g' v1) nd), k _ hf nd⟩
  · show RelO (List.lookup g [(f, y)]) (if g = f then some u else none)
    by_cases z : g = f
    · have : (g == f) = true := beq_iff_eq.mpr z
      simp only [List.lookup, this, if_pos z]; exact ry
    · have : (g == f) = false := beq_eq_false_iff_ne.mpr z
      simp only [List.lookup, this, if_neg z]; trivial
  · by_cases z : g = f
    · rw [z]; simp
    · exact absurd (by show (if g = f then some u else none) = none; rw [if_neg z]) hg
end
noncomputable def spI (C : Addr) (fn : List Str) : Sp := fun vs H Q _ => ∃ e ys, vs = .ref e :: ys ∧ ys.length = fn.length ∧ H e = some (exH e C none) ∧ ∀ d, H d = none → d ≠ e → Q .non (upd (upd H d (dcH d (fn.zip ys))) e (exH e C (some d)))
section
variable {P : Program} {w : World} {K : PySem.W.Frag} {mg : Str → Option Value} {base : Heap}
private theorem init1 {qual p0 p1 f1 : Str} {st : Stmt} {f C : Addr} {fd : FuncData} {po po' po2 po3 : Pos} (F : Fun K "__init__" qual st f fd) (S : FnScope [p0, p1] [p0, p1] (defScope st)) (c : XCl K C) (n : NoAttr K C f1)
    (hb : defBody st = [.Assign [.Attribute (.Name p0 po2) f1 po'] (.Name p1 po3) po]) (v0 : Vis (defScope st) p0) (v1 : Vis (defScope st) p1) (d0 : autoParam ((p0 == ("__debug__" : Str)) = false) _root_.zt1) (d1 : autoParam ((p1 == ("__debug__" : Str)) = false) _root_.zt1)
    (c0 : autoParam ((p0 == ("__classdict__" : Str)) = false) _root_.zt1) (c1 : autoParam ((p1 == ("__classdict__" : Str)) = false) _root_.zt1) : FnOk P w K mg base CX0 1 f fd [p0, p1] (spI C [f1]) := by
  refine F.ok (k := 0) S (fun vs H Q E ⟨e, ys, e1, e2, _⟩ => by rw [e1, List.length_cons, e2]; rfl) fun cdv A outer s H vs Q E hr zq9 => ?_
  obtain ⟨e, ys, e1, e2, eh, k⟩ := zq9
  subst e1
  obtain ⟨y, rfl⟩ := len1 e2
  rw [hb]
  refine ⟨_, pss_one (ps_xfld0 (pe_var (i := 0) rfl v0 d0 c0) (pe_var (i := 1) rfl v1 d1 c1)), y, rfl, .ref e, rfl, e, C, rfl, eh, c, n, fun d hd nd => ?_⟩
  exact k d hd nd
end
end L3
namespace L3
open PySem PySem.Spec L2
open PyProof.Rows hiding St

noncomputable def Cov (B : Heap) (fs : List Addr) (h : Heap) (H' : Hp) (h' : Heap) : Prop := ∀ b o, ((∃ o0, h.get? b = some o0) ∧ b ∉ fs ∨ ∃ u, H' b = some u) → h'.get? b = some o → B.get? b = some o
structure Lie (P : Program) (w : World) (l : List Env) (H : Hp) (s : Shared) (H' : Hp) (C : Addr) (dx : Option Addr) (e : Value) (s' : Shared) : Prop where
  ex : ∃ a B, e = .ref a ∧ Flies B l a (.ref C) dx s'.heap ∧ Cov B (frs l) s.heap H' s'.heap ∧ H' a = none ∧ s.heap.get? a = none
  os : s'.os = s.os
  bare : AllBare s'.gens
  un : Un (frs l) [] H H' s.heap s'.heap
  hok : HOk P w H' s'.heap
noncomputable abbrev CX1 (P : Program) (w : World) : CXT := fun outer H s E e s' => ∃ C dx H', Lie P w outer H s H' C dx e s' ∧ E (.ref C) dx H'
noncomputable def Lies (X : Cx) (σ : St) (H' : Hp) (C : Addr) (dx : Option Addr) (e : Value) (s' : Shared) : Prop := ∃ pins H s, Inv X pins σ H s ∧ Lie X.prog X.w X.stack H s H' C dx e s'
private theorem hok_flies {P : Program} {w : World} {B : Heap} {H' : Hp} {h h' : Heap} (ok : HOk P w H' h) (st : B.StaysIn h') (cv : ∀ b u o, H' b = some u → h.get? b = some o → B.get? b = some o) : HOk P w H' h' := fun b u q =>
  (ok b u q).stay (fun c v hc r => st c v (by
    rcases hc with rfl | hc
    · exact cv c u v q r
    · exact cv c _ v hc r)) (fun _ r => r) fun _ _ r => r
private theorem _root_.L2.ObjOk.here {P : Program} {w : World} {H : Hp} {h : Heap} {a : Addr} {o : HO} (x : ObjOk P w H h a o) : ∃ ob, h.get? a = some ob := by
  cases o with
  | lst xs => obtain ⟨_, _, _, _, e⟩ := x; exact ⟨_, e⟩
  | tup xs => obtain ⟨_, _, _, o, e, _⟩ := x; exact ⟨_, e⟩
  | dK kvs => obtain ⟨_, _, _, _, o, _, _, e, _⟩ := x; exact ⟨_, e⟩
  | dT kvs => obtain ⟨_, _, _, _, o, _, _, e, _⟩ := x; exact ⟨_, e⟩
  | set S n => obtain ⟨o, _, _, _, e, _⟩ := x; exact ⟨_, e⟩
  | ins C dx fs => obtain ⟨_, _, _, e, _⟩ := x; exact ⟨_, e⟩
  | own y => exact x
  | xd fs => obtain ⟨_, ⟨_, _, _, e, _⟩, _⟩ := x; exact ⟨_, e⟩
  | rng lo hi => obtain ⟨_, _, _, e⟩ := x; exact ⟨_, e⟩
  | frz ob u => obtain ⟨e, _⟩ := x; exact ⟨_, e⟩
  | tbl ps => exact ⟨_, show h.get? a = some _ from x⟩
  | met f y => exact ⟨_, show h.get? a = some _ from x⟩
  | ext φ => obtain ⟨_, e, _⟩ := x; exact e
private theorem Lies.leave {CX : CXT} {P : Program} {w : World} {K : PySem.W.Frag} {mg : Str → Option Value} {base : Heap} {N : List Str} {qual : Str} {scope : Scope} {f : Addr} {cd : Value} {A : Around} {outer : List Env} {s₀ : Shared} {H₀ : Hp} {E : XK} {σ : St} {H' : Hp} {C : Addr} {dx : Option Addr} {e : Value} {s' : Shared}
    (x : Lies (cxOf (CX1 P w) P w K mg base N qual scope f cd A outer s₀ H₀ E) σ H' C dx e s') (hE : E (.ref C) dx H') : (cxOf (CX1 P w) P w K mg base N qual scope f cd A outer s₀ H₀ E).xe e s' := by
  obtain ⟨pins, H, s, I, ⟨a, B, rfl, fl, cv, fa, na⟩, os, bare, un, hok⟩ := x
  have above := I.ok.above
  have frames := I.ok.frames
  have bs : Un (frs outer) [] H₀ H s₀.heap s.heap := I.base
  have frf : ∀ b ∈ frs outer, H₀ b = none := I.ok.frf
  have sub : ∀ b, b ∈ frs (envOfC qual scope s₀.heap.objs.size f cd :: outer) → b = s₀.heap.objs.size ∨ b ∈ frs outer := fun b hb => by
    have := I.stkSub b hb
    rcases List.mem_cons.mp this with z | z
    · exact .inl z
    · exact .inr z
  have nst : ∀ b o, s₀.heap.get? b = some o → b ∉ frs outer → b ∉ frs (envOfC qual scope s₀.heap.objs.size f cd :: outer) := fun b o q nb hb => by
    rcases sub b hb with z | z
    · exact absurd (Heap.lt_size q) (by rw [z]; exact Nat.lt_irrefl _)
    · exact nb z
  show wpAny _ _ (leaving _ _) _ _ s'
  refine leave_land (L := s₀.heap.objs.size) frames rfl fl fun h' fl' up => ?_
  have inB : ∀ b o, s₀.heap.get? b = some o → b ∉ frs outer → ∃ o', s'.heap.get? b = some o' ∧ B.get? b = some o' ∧ h'.get? b = some o' := fun b o q nb => by
    obtain ⟨o1, q1⟩ := bs.there b o q (by simp)
    obtain ⟨o2, q2⟩ := un.there b o1 q1 (by simp)
    have := cv b o2 (.inl ⟨⟨o1, q1⟩, nst b o q nb⟩) q2
    exact ⟨o2, q2, this, fl'.st b o2 this⟩
  refine ⟨C, dx, H', ⟨⟨a, B, rfl, fl'.pop, fun b o hb q => ?_, fa, ?_⟩, os.trans I.os, bare, ⟨fun b o q n nb _ => ?_, fun b o q n hb _ => ?_, fun b o q n _ => ?_, fun b o q _ => ?_, fun b xs q => un.tups b xs (bs.tups b xs q), fun b o u q => un.frzs b o u (bs.frzs b o u q), fun b ps q => ?_⟩, hok_flies hok fl'.st fun b u o r q => cv b o (.inr ⟨u, r⟩) q⟩, hE⟩
  · rcases hb with ⟨⟨o0, q0⟩, nb⟩ | ⟨u, hu⟩
    · obtain ⟨o', _, b1, b2⟩ := inB b o0 q0 nb
      rw [b2] at q; cases q; exact b1
    · obtain ⟨o2, q2⟩ : ∃ o2, s'.heap.get? b = some o2 := (hok b u hu).here
      have b1 := cv b o2 (.inr ⟨u, hu⟩) q2
      have b2 := fl'.st b o2 b1
      rw [b2] at q; cases q; exact b1
  · cases z : s₀.heap.get? a with
    | none => rfl
    | some o =>
      obtain ⟨o1, q1⟩ := bs.there a o z (by simp)
      rw [na] at q1; cases q1
  · have q1 := bs.keep b o q n nb (by simp)
    have n1 := bs.free b o q n (by simp)
    have q2 := un.keep b o q1 n1 (nst b o q nb) (by simp)
    exact fl'.st b o (cv b o (.inl ⟨⟨o, q1⟩, nst b o q nb⟩) q2)
  · obtain ⟨sl1, q1⟩ := bs.slot b o q n hb (by simp)
    have n1 := bs.free b o q n (by simp)
    obtain ⟨sl2, q2⟩ := un.any q1 n1 (by simp)
    have nf : ∀ vs, o.data ≠ .fields vs := by
      have m : b ∈ (envOfC qual scope s₀.heap.objs.size f cd :: outer).filterMap (·.frame) := by
        obtain ⟨en, he, hf⟩ := List.mem_filterMap.mp hb
        exact List.mem_filterMap.mpr ⟨en, List.mem_cons_of_mem _ he, hf⟩
      obtain ⟨_, o3, q3, no⟩ := fl.fr.mem m
      rw [q2] at q3; cases q3
      exact no
    obtain ⟨sl3, q3⟩ := up b _ q2 nf
    exact ⟨sl3, q3⟩
  · obtain ⟨o1, q1⟩ := bs.there b o q (by simp)
    exact un.free b o1 q1 (bs.free b o q n (by simp)) (by simp)
  · by_cases nb : b ∈ frs outer
    · obtain ⟨sl1, q1⟩ := bs.slot b o q (frf b nb) nb (by simp)
      have n1 := bs.free b o q (frf b nb) (by simp)
      obtain ⟨sl2, q2⟩ := un.any q1 n1 (by simp)
      have m : b ∈ (envOfC qual scope s₀.heap.objs.size f cd :: outer).filterMap (·.frame) := by
        obtain ⟨en, he, hf⟩ := List.mem_filterMap.mp nb
        exact List.mem_filterMap.mpr ⟨en, List.mem_cons_of_mem _ he, hf⟩
      obtain ⟨_, o3, q3, no⟩ := fl.fr.mem m
      rw [q2] at q3; cases q3
      obtain ⟨sl3, q4⟩ := up b _ q2 no
      exact ⟨_, q4⟩
    · obtain ⟨o', _, _, b2⟩ := inB b o q nb
      exact ⟨o', b2⟩
  · obtain ⟨m1, e1⟩ := bs.tbls b ps q
    obtain ⟨m2, e2⟩ := un.tbls b _ e1
    exact ⟨m1 ++ m2, by rw [e2, Array.append_assoc]⟩
end L3
namespace L3
open PySem PySem.Spec L2
open PyProof.Rows hiding St

section
variable {M : Model} {A : Around} {E : Value → Shared → Prop} {env : Env} {s : Shared} {K : PySem.W.Frag} {C : Addr}
private theorem raise_own {x : Sem Value} {Q : Flow → Shared → Prop} (q : xclsIn K C = true) (hh : A.handled = none)
    (k : wpAny M A x (fun v s' => ∃ e od vs sl, v = .ref e ∧ K.In s'.heap ∧ s'.heap.get? e = some ⟨.ref C, od, .fields vs, sl⟩ ∧ vs[1]? = some .none ∧ E (.ref e) s') E s) : wpAny M A (raiseStmt env (some x) none) Q E s := by
  obtain ⟨nm, qn, N, bs, bm, hd, sn, sub, ab, col, dd, k0, k1, k2, k3, k5, lk, tl⟩ := xcls_of q
  unfold raiseStmt
  refine wpAny_bind (wpAny_mono k (fun v s' k' => ?_) fun _ _ z => z)
  obtain ⟨e, od, vs, sl, rfl, X, ge, v1, hE⟩ := k'
  have gC := X _ _ lk
  have me : (Value.ref C :: bm).contains (.type "BaseException") = true := by rw [List.contains_cons, (PySem.W.tail_of_in X tl).hasType (show xTail.contains (.type "BaseException") = true by decide +kernel), Bool.or_true]
  obtain ⟨hp, g, d, tk, os⟩ := s'
  repeat (first | with_reducible refine wpAny_loadPart_at gC ?_ | (with_reducible refine wpAny_isSubtype_exc gC ?_; rw [me]) | with_reducible refine wpAny_loadPart_at ge ?_ | wp_step)
  rw [v1]
  refine wpAny_pure ?_
  rw [if_neg (by decide)]
  exact wpAny_pure (wpAny_raiseNew_none hh hE)
end
section
variable {P : Program} {w : World} {H : Hp} {h h' : Heap} {a : Addr} {o : HO}
private theorem hok_none (ok : HOk P w H h) (g : h.get? a = none) : H a = none := by
  cases q : H a with
  | none => rfl
  | some u =>
    obtain ⟨ob, z⟩ := (ok a u q).here
    rw [g] at z; cases z
private theorem Un.laidN {fs ex : List Addr} (k : ∀ b u, h.get? b = some u → h'.get? b = some u) (g : h.get? a = none) (hn : H a = none) : Un fs ex H (upd H a o) h h' where
  keep := fun b u q _ _ _ => k b u q
  slot := fun b u q _ _ _ => ⟨u.slots, k b u q⟩
  free := fun b u q n _ => by rw [upd_ne (fun z => by rw [z, g] at q; cases q)]; exact n
  there := fun b u q _ => ⟨u, k b u q⟩
  tups := fun b xs q => by rw [upd_ne (ne_of_none q hn)]; exact q
  frzs := fun b u xs q => by rw [upd_ne (ne_of_none q hn)]; exact q
  tbls := fun b ps q => ⟨#[], by rw [upd_ne (ne_of_none q hn), q]; simp⟩
private theorem HOk.laidN (ok : HOk P w H h) (k : ∀ b u, h.get? b = some u → h'.get? b = some u) (g : h.get? a = none) (new : ObjOk P w (upd H a o) h' a o) : HOk P w (upd H a o) h' := fun b u q => by
  have hn := hok_none ok g
  by_cases z : b = a
  · subst z; rw [upd_same] at q; cases q; exact new
  · rw [upd_ne z] at q
    exact (ok b u q).stay (fun c v _ r => k c v r) (fun c r => by rw [upd_ne (ne_of_none r hn)]; exact r) fun c xs r => by rw [upd_ne (ne_of_none r hn)]; exact r
end
noncomputable def forget (e : Addr) (H : Hp) : Hp := fun b => if b = e then none else H b
private theorem forget_ne {e b : Addr} {H : Hp} (h : b ≠ e) : forget e H b = H b := by unfold forget; rw [if_neg h]
section
variable {X : Cx} {pins : List (Addr × Obj)} {σ : St} {H1 H2 : Hp} {s1 s3 : Shared} {e C : Addr} {od : Option Addr}
private theorem lies_of (I1 : Inv X pins σ H1 s1) (I3 : Inv X pins σ H2 s3) (os : s3.os = s1.os) (un : Un (frs X.stack) [] H1 H2 s1.heap s3.heap) (he : H2 e = some (exH e C od)) (ne : s1.heap.get? e = none) : Lies X σ (forget e H2) C od (.ref e) s3 := by
  obtain ⟨vs, sl, ge, v1⟩ := exH_get I3.hok he
  have n1 := hok_none I1.hok ne
  have nef : e ∉ frs X.stack := fun m => by rw [I3.stkFree e m] at he; cases he
  have hide : ∀ b o, s3.heap.get? b = some o → b ≠ e → b ∉ frs X.stack → (PySem.W.hideAll s3.heap (e :: frs X.stack)).get? b = some o := fun b o q b1 b2 => PySem.W.hideAll_get _ q fun m => by
    rcases List.mem_cons.mp m with z | z
    · exact b1 z
    · exact b2 z
  have gone : ∀ b, b ∈ e :: frs X.stack → (PySem.W.hideAll s3.heap (e :: frs X.stack)).get? b = none := fun b m => PySem.W.hideAll_none _ m
  have fr3 : s3.heap.FunFrames (PySem.W.hideAll s3.heap (e :: frs X.stack)) X.stack := PySem.W.funFrames_hide I3.stack fun env he b hb => List.mem_cons_of_mem _ (List.mem_filterMap.mpr ⟨env, he, hb⟩)
  refine ⟨pins, H1, s1, I1, ⟨e, PySem.W.hideAll s3.heap (e :: frs X.stack), rfl, ⟨fun b o q => PySem.W.of_hideAll _ q, gone e List.mem_cons_self, fr3, _, vs, .none, ge, rfl, rfl, rfl, v1, .inl rfl⟩, fun b o hb q => ?_, by unfold forget; rw [if_pos rfl], ne⟩,
    os, I3.bare, ⟨un.keep, un.slot, fun b o q n hx => ?_, un.there, fun b xs q => ?_, fun b u v q => ?_, fun b ps q => ?_⟩, fun b u q => ?_⟩
  · rcases hb with ⟨⟨o0, q0⟩, nb⟩ | ⟨u, hu⟩
    · exact hide b o q (fun z => by rw [z, ne] at q0; cases q0) nb
    · have b1 : b ≠ e := fun z => by rw [z] at hu; unfold forget at hu; rw [if_pos rfl] at hu; cases hu
      rw [forget_ne b1] at hu
      exact hide b o q b1 fun m => by rw [I3.stkFree b m] at hu; cases hu
  · rw [forget_ne (fun z => by rw [z, ne] at q; cases q)]; exact un.free b o q n hx
  · rw [forget_ne (ne_of_none q n1)]; exact un.tups b xs q
  · rw [forget_ne (ne_of_none q n1)]; exact un.frzs b u v q
  · rw [forget_ne (ne_of_none q n1)]; exact un.tbls b ps q
  · have b1 : b ≠ e := fun z => by rw [z] at q; unfold forget at q; rw [if_pos rfl] at q; cases q
    rw [forget_ne b1] at q
    refine (I3.hok b u q).stay (fun _ _ _ r => r) (fun c r => ?_) fun c xs r => ?_
    · rw [forget_ne (ne_of r he (fun z => by cases z))]; exact r
    · rw [forget_ne (ne_of r he (fun z => by cases z))]; exact r
end
section
variable {X : Cx} {c : Str} {p pos cpos : Pos} {e : Expr} {es : List Expr} {t : TA} {C fI : Addr} {fd : FuncData} {ps fn : List Str} {k : Nat}
private theorem ps_raiseI (q : xclsIn X.K C = true) (hi : PySem.W.findIn X.K (.ref C) "__init__" = some (some (.ref fI))) (hf : PySem.W.typeIn X.K (.ref fI) = some (.type "function")) (kp : PySem.W.keepIn X.K (.ref C) = true)
    (F : FnOk X.prog X.w X.K X.mg X.base CX0 k fI fd ps (spI C fn)) (hr : Room (k + 1) X.A) (hb : Binds X.K fd ps []) (hfn : fn.length ≤ 1000) (hg : Gl X c) (hm : X.mg c = some (.ref C)) (ha : PA X (e :: es) t) (hdb : autoParam ((c == ("__debug__" : Str)) = false) _root_.zt1)
    (he : autoParam (starEach (e :: es) X.env = (false, eval e X.env) :: starEach es X.env) _root_.zt2) (hpl : autoParam ((backTo cpos (starEach es X.env)).any (·.1) = false) _root_.zt2) :
    PS X (.Raise (some (.Call (.Name c p) (e :: es) [] cpos)) none pos) (fun _ σ H => t σ H fun vs H1 => vs.length = fn.length ∧ ∀ d ex s', H1 d = none → Lies X σ (upd H1 d (dcH d (fn.zip vs))) C (some d) ex s' → X.xe ex s') := by
  intro pins s σ H D I hq
  rw [arm_exec_Raise]
  simp only [evalOpt, Option.map]
  refine wpAny_bind (wpAny_standAt (raise_own (K := X.K) q hr.hd (wpAny_bind (wpAny_mono (wpAny_Call_Name_kw (ld_glob I hg hm ?_ hdb)) (fun v s3 h3 => wpAny_bind (wpAny_standAt (wpAny_pure h3))) fun _ _ z => z))))
  refine PySem.W.callWith_K (h₀ := X.base) I.ok.mod.kin kp (thn (ha cpos pins s σ H _ I hq) fun us s1 ⟨vs, H1, I1, r, hl, q2⟩ => ⟨I1.kIn, ?_⟩) he hpl
  obtain ⟨h1, gg, dr, t1, os1⟩ := s1
  have zl : us.length ≤ sizeLine := by rw [← r.length, hl]; exact Nat.le_of_lt (small1000 hfn)
  refine ccall_init I1.kIn q hi hf zl fun h' ea made => ?_
  obtain ⟨tt, g1, _, _⟩ := made.there
  have ok1 : ObjOk X.prog X.w (upd H1 ea (exH ea C none)) h' ea (exH ea C none) := exH_ok g1 rfl
  have u1 : ∀ fs, Un fs [] H1 (upd H1 ea (exH ea C none)) h1 h' := fun fs => Un.laidN made.keeps made.new (hok_none I1.hok made.new)
  have I2 : L2.Inv X pins σ (upd H1 ea (exH ea C none)) ⟨h', gg, dr, t1, os1⟩ := I1.un (t' := t1) (u1 _) (HOk.laidN I1.hok made.keeps made.new ok1)
  refine wpAny_call (codeAny_mono (F.run _ X.stack _ _ ⟨.ref ea :: us, []⟩ (.ref ea :: us ++ []) _ (fun v H2 => v = .non ∧ ∃ dn, (upd H1 ea (exH ea C none)) dn = none ∧ dn ≠ ea ∧ H2 = upd (upd (upd H1 ea (exH ea C none)) dn (dcH dn (fn.zip vs))) ea (exH ea C (some dn))) E0 (hr.make C us []) (I2.env0.make C us [])
    (hb _ (.ref ea :: us) I2.kIn ?_) (.cons (show RelV (.ref ea) (.ref ea) from rfl) (show Vals vs (us ++ []) by rw [List.append_nil]; exact r)) ⟨ea, vs, rfl, hl, upd_same, fun dn h1 h2 => ⟨rfl, dn, h1, h2, rfl⟩⟩) fun fl s3 hq3 => ?_)
  · have := F.len (.ref ea :: vs) (upd H1 ea (exH ea C none)) (fun _ _ => True) E0 ⟨ea, vs, rfl, hl, upd_same, fun _ _ _ => trivial⟩
    rw [← this, List.append_nil, List.length_cons, List.length_cons, r.length]
  · cases fl with
    | error x => exact hq3.elim
    | ok fl =>
      cases fl with
      | ret u =>
        obtain ⟨v, H3, os3, bare3, un3, hok3, rv, rfl, dn, f1, f2, rfl⟩ := hq3
        have I3 := I2.call' os3 un3 hok3 bare3 (fun b z => absurd z (by simp))
        obtain ⟨vs', sl', ge, v1⟩ := exH_get I3.hok upd_same
        refine ⟨rv, ea, _, vs', sl', rfl, I3.kIn, ge, v1, q2 dn _ _ ?_ ?_⟩
        · rw [upd_ne f2] at f1; exact f1
        · have ly := lies_of I1 I3 os3 ((u1 _).trans un3) upd_same made.new
          have n1 : H1 ea = none := hok_none I1.hok made.new
          have e9 : forget ea (upd (upd (upd H1 ea (exH ea C none)) dn (dcH dn (fn.zip vs))) ea (exH ea C (some dn))) = upd H1 dn (dcH dn (fn.zip vs)) := by
            funext b
            by_cases z : b = ea
            · subst z; unfold forget upd; rw [if_pos rfl, if_neg f2.symm, n1]
            · rw [forget_ne z, upd_ne z]
              by_cases y : b = dn
              · rw [y, upd_same, upd_same]
              · rw [upd_ne y, upd_ne y, upd_ne z]
          rw [e9] at ly
          exact ly
      | next => exact hq3.elim
      | brk => exact hq3.elim
      | cont => exact hq3.elim
end
end L3
namespace L3
open PySem PySem.Spec L2
open PyProof.Rows hiding St
open PySem.W (Looks)

noncomputable def xoH (e C : Addr) (od : Option Addr) : HO := .ext fun h => ∃ vs sl, h.get? e = some ⟨.ref C, od, .fields vs, sl⟩
private theorem xoH_ok {P : Program} {w : World} {H : Hp} {h : Heap} {e C : Addr} {od : Option Addr} {vs : Array Value} {sl : Array (Option Value)} (g : h.get? e = some ⟨.ref C, od, .fields vs, sl⟩) : ObjOk P w H h e (xoH e C od) :=
  ⟨⟨vs, sl, g⟩, ⟨_, g⟩, fun h1 h2 ⟨vs, sl, g⟩ k => ⟨vs, sl, k _ g⟩⟩
private theorem xoH_get {P : Program} {w : World} {H : Hp} {h : Heap} {e C : Addr} {od : Option Addr} (ok : HOk P w H h) (q : H e = some (xoH e C od)) : ∃ vs sl, h.get? e = some ⟨.ref C, od, .fields vs, sl⟩ := by
  obtain ⟨z, _⟩ := (show ObjOk P w H h e (xoH e C od) from ok e _ q)
  exact z
private theorem Flies.get {B : Heap} {l : List Env} {e C : Addr} {dx : Option Addr} {h : Heap} (x : Flies B l e (.ref C) dx h) : ∃ vs sl, h.get? e = some ⟨.ref C, dx, .fields vs, sl⟩ := by
  obtain ⟨⟨a, b, c, d⟩, vs, v, g, h1, h2, h3, _⟩ := x.ob
  simp only at h1 h2 h3
  subst h1 h2 h3
  exact ⟨vs, d, g⟩
private theorem lie_land {P : Program} {w : World} {l : List Env} {H H' : Hp} {s s' : Shared} {C : Addr} {dx : Option Addr} {ex : Value} (x : Lie P w l H s H' C dx ex s') :
    ∃ a B, ex = .ref a ∧ Flies B l a (.ref C) dx s'.heap ∧ ∀ h', Flies B l a (.ref C) dx h' → s'.heap.UpToSlots h' → Un (frs l) [] H (upd H' a (xoH a C dx)) s.heap h' ∧ HOk P w (upd H' a (xoH a C dx)) h' := by
  obtain ⟨⟨a, B, rfl, fl, cv, fa, na⟩, os, bare, un, hok⟩ := x
  refine ⟨a, B, rfl, fl, fun h' fl' up => ?_⟩
  have nof : ∀ b o, s'.heap.get? b = some o → b ∈ frs l → ∀ vs, o.data ≠ .fields vs := fun b o q m => by
    obtain ⟨_, o3, q3, no⟩ := fl.fr.mem m
    rw [q] at q3; cases q3
    exact no
  have nea : ∀ b o, s.heap.get? b = some o → b ≠ a := fun b o q z => by rw [z, na] at q; cases q
  have net : ∀ b u, H' b = some u → b ≠ a := fun b u q => ne_of_none q fa
  have inB : ∀ b o0 o, s.heap.get? b = some o0 → b ∉ frs l → s'.heap.get? b = some o → h'.get? b = some o := fun b o0 o q nb q2 => fl'.st b o (cv b o (.inl ⟨⟨o0, q⟩, nb⟩) q2)
  have ok' : HOk P w H' h' := hok_flies hok fl'.st fun b u o r q => cv b o (.inr ⟨u, r⟩) q
  obtain ⟨vs, sl, ga⟩ := fl'.get
  refine ⟨⟨fun b o q n nb _ => inB b o o q nb (un.keep b o q n nb (by simp)), fun b o q n hb _ => ?_, fun b o q n _ => ?_, fun b o q _ => ?_, fun b xs q => ?_, fun b u v q => ?_, fun b ps q => ?_⟩, fun b u q => ?_⟩
  · obtain ⟨sl2, q2⟩ := un.slot b o q n hb (by simp)
    obtain ⟨sl3, q3⟩ := up b _ q2 (nof b _ q2 hb)
    exact ⟨sl3, q3⟩
  · rw [upd_ne (nea b o q)]; exact un.free b o q n (by simp)
  · obtain ⟨o2, q2⟩ := un.there b o q (by simp)
    by_cases nb : b ∈ frs l
    · obtain ⟨sl3, q3⟩ := up b _ q2 (nof b _ q2 nb)
      exact ⟨_, q3⟩
    · exact ⟨o2, inB b o o2 q nb q2⟩
  · have := un.tups b xs q
    rw [upd_ne (net b _ this)]; exact this
  · have := un.frzs b u v q
    rw [upd_ne (net b _ this)]; exact this
  · obtain ⟨more, e⟩ := un.tbls b ps q
    exact ⟨more, by rw [upd_ne (net b _ e)]; exact e⟩
  · by_cases z : b = a
    · subst z; rw [upd_same] at q; cases q; exact xoH_ok ga
    · rw [upd_ne z] at q
      exact (ok' b u q).stay (fun _ _ _ r => r) (fun c r => by rw [upd_ne (net c _ r)]; exact r) fun c xs r => by rw [upd_ne (net c _ r)]; exact r
structure Here (X : Cx) (pins : List (Addr × Obj)) (σ : St) (H' : Hp) (C : Addr) (dx : Option Addr) (a : Addr) (s : Shared) : Prop where
  ex : ∃ B, Flies B X.stack a (.ref C) dx s.heap ∧ ∀ h', Flies B X.stack a (.ref C) dx h' → s.heap.UpToSlots h' → Inv X pins σ (upd H' a (xoH a C dx)) { s with heap := h' }
private theorem Here.inv {X : Cx} {pins : List (Addr × Obj)} {σ : St} {H' : Hp} {C : Addr} {dx : Option Addr} {a : Addr} {s : Shared} (x : Here X pins σ H' C dx a s) : Inv X pins σ (upd H' a (xoH a C dx)) s := by
  obtain ⟨B, f, k⟩ := x.ex
  have := k s.heap f (.refl _)
  obtain ⟨_, _, _, _, _⟩ := s
  exact this
section
variable {M : Model} {A : Around} {E : Value → Shared → Prop} {s : Shared} {X : Cx} {pins : List (Addr × Obj)} {σ : St} {H' : Hp} {C a : Addr} {dx : Option Addr}
private theorem flight_land {B : Heap} {l : List Env} {Q : Unit → Shared → Prop} (x : Flies B l a (.ref C) dx s.heap) (k : ∀ h', Flies B l a (.ref C) dx h' → s.heap.UpToSlots h' → Q () { s with heap := h' }) : wpAny M A (setFlight (.ref a) none) Q E s := by
  obtain ⟨st, nw, fr, ob, vs, v, ge, hc, hx, de, h1, tb⟩ := id x
  unfold setFlight
  refine wpAny_bind (wpAny_field ge de h1 ?_)
  rcases tb with rfl | ⟨T, oT, ts, rfl, nT, Te, gT, dT, h3⟩
  · rw [if_neg (by decide)]
    refine wpAny_pure ?_
    have := k s.heap x (.refl _)
    obtain ⟨_, _, _, _, _⟩ := s
    exact this
  · rw [if_pos (by simp : (Value.ref T != Value.none) = true)]
    have z3 : 3 < ts.size := (Array.getElem?_eq_some_iff.mp h3).1
    have oth : ∀ b, b ≠ T → (s.heap.update T (Obj.mapFields (·.setIfInBounds 3 ((none : Option Addr).elim Value.none fun f => rawInt f)))).get? b = s.heap.get? b := fun b q => Heap.get?_update_other _ _ (Ne.symm q)
    have nr : ∀ b o, s.heap.get? b = some o → (∀ xs, o.data ≠ .fields xs) → b ≠ T := fun b o q no z => by
      rw [z, gT] at q; cases q
      exact no ts dT
    refine wpAny_setField gT dT z3 (k _ ⟨fun b o q => (oth b fun z => by rw [z, nT] at q; cases q).trans (st b o q), nw, fr.of_keeps fun b o q no => ⟨o, (oth b (nr b o q no)).trans q, rfl⟩, ob, vs, .ref T, (oth a (Ne.symm Te)).trans ge, hc, hx, de, h1, .inr ⟨T, _, _, rfl, nT, Te, Heap.get?_update_self _ gT (Obj.isFreed_of_fields (Obj.data_mapFields dT _)), Obj.data_mapFields dT _, ?_⟩⟩ fun b o q no => ⟨o.slots, (oth b (nr b o q no)).trans q⟩)
    rw [Array.getElem?_setIfInBounds_self_of_lt z3]; rfl
private theorem Here.flight {Q : Unit → Shared → Prop} (x : Here X pins σ H' C dx a s) (k : ∀ s', Here X pins σ H' C dx a s' → Q () s') : wpAny M A (setFlight (.ref a) none) Q E s := by
  obtain ⟨B, f, q⟩ := x.ex
  exact flight_land f fun h' f' u => k _ ⟨B, f', fun h2 f2 u2 => q h2 f2 (u.trans u2)⟩
end
noncomputable abbrev suite (X : Cx) (e : Value) : Cx := { X with A := X.A.mark (some e), calm := false, xe := fun _ _ => False }
section
variable {X : Cx} {pins : List (Addr × Obj)} {σ : St} {H : Hp} {s : Shared} {e : Value}
private theorem Inv.toSuite (I : L2.Inv X pins σ H s) : L2.Inv (suite X e) pins σ H s :=
  ⟨⟨I.ok.mod, I.ok.kind, I.ok.glob, I.ok.blt, I.ok.above, I.ok.inj, I.ok.has, I.ok.cab, (fun z => by cases z), I.ok.frames, I.ok.stk, I.ok.exf, I.ok.bs, I.ok.bsz, I.ok.noex, I.ok.exfs, I.ok.funs, I.ok.frf⟩, I.os, I.bare, I.base, I.loc, I.cell, I.free, I.freeC, I.pin, I.hok, I.len⟩
private theorem Inv.fromSuite (I : L2.Inv (suite X e) pins σ H s) (ok : X.Ok) : L2.Inv X pins σ H s := ⟨ok, I.os, I.bare, I.base, I.loc, I.cell, I.free, I.freeC, I.pin, I.hok, I.len⟩
private theorem name_gone {M : Model} {A : Around} {E : Value → Shared → Prop} {n : Str} {i : Nat} {pos : Pos} {Q : Unit → Shared → Prop} (I : L2.Inv X pins σ H s) (hN : X.N.Nodup) (hi : X.N[i]? = some n) (hl : X.env.scope.names.lookup n = some .local)
    (k : ∀ s', L2.Inv X pins (σ.set i none) H s' → Q () s') : wpAny M A (do bindName X.env n .none; unbindBehindTheSuite X.env n pos) Q E s := by
  obtain ⟨m, hn, hv⟩ := id I.loc
  have hcls : (X.env.scope.kind == .class || (X.env.scope.kind == .module && X.env.locals != X.env.globals)) = false := by rw [I.ok.kind]; rfl
  obtain ⟨oL, _, _, hoL, _⟩ := id hn
  have cne := I.cne
  refine wpAny_nameGoes_keeps hl hn hcls fun h' v hn' sb => k _ ⟨I.ok, I.os, I.bare, ⟨fun b o q nb hb hx => ?_, fun b o q nb hb hx => ?_, I.base.free, fun b o q hx => ?_, I.base.tups, I.base.frzs, I.base.tbls⟩, ⟨_, hn', fun j y w e1 e2 e3 => ?_⟩, fun y c q => ?_, I.free, I.freeC, fun p hp => ?_, fun b ob q => ?_, by simpa using I.len⟩
  · exact (sb.2 b (Nat.ne_of_lt (Nat.lt_of_lt_of_le (Heap.lt_size q) I.ok.above))).trans (I.base.keep b o q nb hb hx)
  · obtain ⟨sl, q1⟩ := I.base.slot b o q nb hb hx
    exact ⟨sl, (sb.2 b (Nat.ne_of_lt (Nat.lt_of_lt_of_le (Heap.lt_size q) I.ok.above))).trans q1⟩
  · obtain ⟨o', q1⟩ := I.base.there b o q hx
    exact ⟨o', (sb.2 b (Nat.ne_of_lt (Nat.lt_of_lt_of_le (Heap.lt_size q) I.ok.above))).trans q1⟩
  · by_cases hj : j = i
    · subst hj
      by_cases hlt : j < σ.length
      · rw [List.getElem?_set_self hlt] at e2; cases e2
      · rw [List.getElem?_eq_none (by simpa using hlt)] at e2; cases e2
    · rw [List.getElem?_set_ne (Ne.symm hj)] at e2
      obtain ⟨u', r', q⟩ := hv j y w e1 e2 e3
      refine ⟨u', r', ?_⟩
      rcases q with ⟨z, q⟩ | ⟨z, c, q, z'⟩
      · refine .inl ⟨z, ?_⟩
        have : y ≠ n := fun q => hj (nodup_ix hN e1 (q ▸ hi))
        simp [this, q]
      · exact .inr ⟨z, c, q, z'.sameBut sb (cne y c q)⟩
  · obtain ⟨w', z⟩ := I.cell y c q
    exact ⟨w', z.sameBut sb (cne y c q)⟩
  · obtain ⟨q, n, ne, nf, d⟩ := I.pin p hp
    exact ⟨(sb.2 p.1 ne).trans q, n, ne, nf, d⟩
  · refine (I.hok b ob q).stay (fun c w' hc r => (sb.2 c ?_).trans r) (fun _ r => r) fun _ _ r => r
    rintro rfl
    rcases hc with rfl | hc
    · rw [I.free] at q; cases q
    · rw [I.free] at hc; cases hc
end
noncomputable def Nam (X : Cx) (hx : Str) (cv : Value) : Prop := Gl X hx ∧ (X.mg hx = some cv ∨ (X.mg hx = none ∧ bootBuiltins hx = some cv ∧ hx ≠ "__name__")) ∧ (hx == ("__debug__" : Str)) = false
section
variable {X : Cx} {pins : List (Addr × Obj)} {σ : St} {H' : Hp} {C a : Addr} {dx : Option Addr} {s : Shared} {hx : Str} {np pos : Pos} {cv : Value} {Q : Flow → Shared → Prop} {rest : List ExceptHandler} {b0 : Stmt} {body : List Stmt}
private theorem clause_test {e : Addr} {E : Value → Shared → Prop} {b : Bool} {R : Bool → Shared → Prop} {H : Hp} {C : Addr} {od : Option Addr} (I : L2.Inv X pins σ H s) (he : H e = some (xoH e C od)) (nm : Nam X hx cv) (te : PySem.W.exmOne X.K (.ref C) cv = some b) (k : R b s) :
    wpAny (model X.prog X.w) (X.A.mark (some (.ref e))) (eval (.Name hx np) X.env) (fun c s1 => wpAny (model X.prog X.w) (X.A.mark (some (.ref e))) (excMatches (.ref e) c) R E s1) E s := by
  obtain ⟨vs, sl, g⟩ := xoH_get I.hok he
  have ty : Looks (model X.prog X.w) s.heap (typeOf (.ref e)) (.ref C) := (PySem.W.Looks.ld g).andThen .now
  have fin : ∀ {A : Around}, wpAny (model X.prog X.w) A (excMatches (.ref e) cv) R E s := fun {A} => (PySem.W.exm_one I.kIn ty te).here k
  obtain ⟨g1, g2, g3⟩ := nm
  have I' : L2.Inv (suite X (.ref e)) pins σ H s := Inv.toSuite I
  rcases g2 with g2 | ⟨g2, g4, g5⟩
  · exact ld_glob (X := suite X (.ref e)) I' g1 g2 fin g3
  · exact ld_blt (X := suite X (.ref e)) I' g1 g2 g4 fin g5 g3
private theorem clause_miss {nm' : Option Str} (x : Here X pins σ H' C dx a s) (nm : Nam X hx cv) (te : PySem.W.exmOne X.K (.ref C) cv = some false) (k : wpAny (model X.prog X.w) X.A (handleBy (.ref a) X.env rest) Q X.xe s) :
    wpAny (model X.prog X.w) X.A (handleBy (.ref a) X.env (.ExceptHandler (some (.Name hx np)) nm' (b0 :: body) pos :: rest)) Q X.xe s :=
  wpAny_handleBy_cons (codeAny_handlers_test (clause_test x.inv upd_same nm te k)) (by intro q; cases q)
private theorem clause_hit {D : Ends} {t : TS} (x : Here X pins σ H' C dx a s) (nm : Nam X hx cv) (te : PySem.W.exmOne X.K (.ref C) cv = some true) (hb : PSs (suite X (.ref a)) (b0 :: body) t) (k : t D σ (upd H' a (xoH a C dx))) :
    wpAny (model X.prog X.w) X.A (handleBy (.ref a) X.env (.ExceptHandler (some (.Name hx np)) none (b0 :: body) pos :: rest)) (SP X pins D) X.xe s := by
  have ok := x.inv.ok
  refine wpAny_handleBy_cons (codeAny_handlers_test (clause_test x.inv upd_same nm te ?_)) (by intro q; cases q)
  refine codeAny_handlers_suite (x.flight fun s' x' => wpAny_mono (hb pins s' σ _ D (Inv.toSuite x'.inv) k) (fun f s2 h2 => ?_) fun _ _ z => z.elim)
  cases f with
  | next => obtain ⟨σ', H2, I2, q⟩ := h2; exact ⟨σ', H2, Inv.fromSuite I2 ok, q⟩
  | brk => obtain ⟨σ', H2, I2, q⟩ := h2; exact ⟨σ', H2, Inv.fromSuite I2 ok, q⟩
  | cont => obtain ⟨σ', H2, I2, q⟩ := h2; exact ⟨σ', H2, Inv.fromSuite I2 ok, q⟩
  | ret u => obtain ⟨v, σ', H2, I2, r, q⟩ := h2; exact ⟨v, σ', H2, Inv.fromSuite I2 ok, r, q⟩
private theorem clause_hitAs {D : Ends} {t : TS} {n : Str} {i : Nat} (x : Here X pins σ H' C dx a s) (nm : Nam X hx cv) (te : PySem.W.exmOne X.K (.ref C) cv = some true) (hb : PSs (suite X (.ref a)) (b0 :: body) t) (hN : X.N.Nodup) (hi : X.N[i]? = some n)
    (hl : X.env.scope.names.lookup n = some .local) (k : t { nx := fun σ' H2 => D.nx (σ'.set i none) H2, rt := D.rt, bk := fun σ' H2 => D.bk (σ'.set i none) H2, ct := fun σ' H2 => D.ct (σ'.set i none) H2 } (σ.set i (some (.ref a))) (upd H' a (xoH a C dx))) :
    wpAny (model X.prog X.w) X.A (handleBy (.ref a) X.env (.ExceptHandler (some (.Name hx np)) (some n) (b0 :: body) pos :: rest)) (SP X pins D) X.xe s := by
  have ok := x.inv.ok
  refine wpAny_handleBy_cons (codeAny_handlers_test (clause_test x.inv upd_same nm te ?_)) (by intro q; cases q)
  refine codeAny_handlers_suite_as (x.flight fun s' x' => ?_)
  refine store_ok (v := .ref a) x'.inv hN hi (.inl hl) rfl (fun s2 I2 => ?_) (.inr hl)
  refine wpAny_mono (hb pins s2 _ _ _ (Inv.toSuite I2) k) (fun f s3 h3 => ?_) fun _ _ z => z.elim
  cases f with
  | next => obtain ⟨σ', H2, I3, q⟩ := h3; exact name_gone (Inv.fromSuite I3 ok) hN hi hl fun s4 I4 => ⟨_, H2, I4, q⟩
  | brk => obtain ⟨σ', H2, I3, q⟩ := h3; exact name_gone (Inv.fromSuite I3 ok) hN hi hl fun s4 I4 => ⟨_, H2, I4, q⟩
  | cont => obtain ⟨σ', H2, I3, q⟩ := h3; exact name_gone (Inv.fromSuite I3 ok) hN hi hl fun s4 I4 => ⟨_, H2, I4, q⟩
  | ret u => obtain ⟨v, σ', H2, I3, r, q⟩ := h3; exact name_gone (Inv.fromSuite I3 ok) hN hi hl fun s4 I4 => ⟨v, _, H2, I4, r, q⟩
end
end L3
namespace L3
open PySem PySem.Spec L2
open PyProof.Rows hiding St

inductive D where
  | n | b (x : Bool) | i (x : Int) | s (x : Str) | t (xs : List D) | l (xs : List D) | d (ks : List Key) (vs : List D) | x (c : Str) (ks : List Str) (vs : List D) | o (c : Str) (ks : List Str) (vs : List D)
noncomputable def XDc (F : Hp) (od : Option Addr) (ks : List Str) (us : List V) : Prop := (ks = [] ∧ us = [] ∧ od = none) ∨ ∃ d, od = some d ∧ F d = some (dcH d (ks.zip us)) ∧ ks.length = us.length
private theorem XDc.mono {F F' : Hp} {od : Option Addr} {ks : List Str} {us : List V} (h : Same F F') (q : XDc F od ks us) : XDc F' od ks us := by
  rcases q with q | ⟨d, q1, q2, q3⟩
  · exact .inl q
  · exact .inr ⟨d, q1, h _ _ q2, q3⟩

mutual
noncomputable def Den (K : PySem.W.Frag) (F : Hp) : D → V → Prop
  | .n, v => v = .non
  | .b x, v => v = .bl x
  | .i x, v => v = .int x
  | .s x, v => v = .str x
  | .t ds, v => ∃ a vs, v = .ref a ∧ SqT K F a vs ∧ DenL K F ds vs
  | .l ds, v => ∃ a vs, v = .ref a ∧ SqL K F a vs ∧ DenL K F ds vs
  | .d ks ds, v => ∃ a vs, v = .ref a ∧ F a = some (.dK (ks.zip vs)) ∧ ks.length = vs.length ∧ DenL K F ds vs
  | .o c ks ds, v => ∃ a C dx us, v = .ref a ∧ PySem.W.nsIn K mainGlobals c = some (some (.ref C)) ∧ F a = some (.ins C dx (ks.zip us)) ∧ ks.length = us.length ∧ DenL K F ds us
  | .x c ks ds, v => ∃ a C od us, v = .ref a ∧ PySem.W.nsIn K mainGlobals c = some (some (.ref C)) ∧ F a = some (xoH a C od) ∧ XDc F od ks us ∧ DenL K F ds us
noncomputable def DenL (K : PySem.W.Frag) (F : Hp) : List D → List V → Prop
  | [], vs => vs = []
  | d :: ds, vs => ∃ v r, vs = v :: r ∧ Den K F d v ∧ DenL K F ds r
end

private theorem sq_mono_T {K : PySem.W.Frag} {F F' : Hp} (h : Same F F') {a : Addr} {xs : List V} (q : SqT K F a xs) : SqT K F' a xs := by
  rcases q with (q | ⟨o, q⟩) | q
  · exact .inl (.inl (h _ _ q))
  · exact .inl (.inr ⟨o, h _ _ q⟩)
  · exact .inr q
mutual
private theorem Den.mono {K : PySem.W.Frag} {F F' : Hp} (h : Same F F') : ∀ {d : D} {v : V}, Den K F d v → Den K F' d v
  | .n, _, q => q
  | .b _, _, q => q
  | .i _, _, q => q
  | .s _, _, q => q
  | .t _, _, q => by
    obtain ⟨a, vs, e, e2, q⟩ := q
    exact ⟨a, vs, e, sq_mono_T h e2, DenL.mono h q⟩
  | .l _, _, q => by
    obtain ⟨a, vs, e, e2, q⟩ := q
    exact ⟨a, vs, e, h.seq e2, DenL.mono h q⟩
  | .d _ _, _, q => by
    obtain ⟨a, vs, e, e2, e3, q⟩ := q
    exact ⟨a, vs, e, h _ _ e2, e3, DenL.mono h q⟩
  | .x _ _ _, _, q => by
    obtain ⟨a, C, od, us, e, e1, e2, e3, q⟩ := q
    exact ⟨a, C, od, us, e, e1, h _ _ e2, e3.mono h, DenL.mono h q⟩
  | .o _ _ _, _, q => by
    obtain ⟨a, C, dx, us, e, e1, e2, e3, q⟩ := q
    exact ⟨a, C, dx, us, e, e1, h _ _ e2, e3, DenL.mono h q⟩
private theorem DenL.mono {K : PySem.W.Frag} {F F' : Hp} (h : Same F F') : ∀ {ds : List D} {vs : List V}, DenL K F ds vs → DenL K F' ds vs
  | [], _, q => q
  | _ :: _, _, q => by
    obtain ⟨v, r, e, q1, q2⟩ := q
    exact ⟨v, r, e, Den.mono h q1, DenL.mono h q2⟩
end
private theorem DenL.length {K : PySem.W.Frag} {F : Hp} : ∀ {ds : List D} {vs : List V}, DenL K F ds vs → ds.length = vs.length
  | [], _, q => by cases (show _ = [] from q); rfl
  | _ :: _, _, q => by
    obtain ⟨v, r, rfl, _, q2⟩ := q
    exact congrArg (· + 1) (DenL.length q2)
private theorem DenL.cons {K : PySem.W.Frag} {F : Hp} {d : D} {v : V} {ds : List D} {vs : List V} (h : Den K F d v) (hs : DenL K F ds vs) : DenL K F (d :: ds) (v :: vs) := ⟨v, vs, rfl, h, hs⟩
private theorem DenL.nil {K : PySem.W.Frag} {F : Hp} : DenL K F [] [] := rfl
private theorem DenL.append {K : PySem.W.Frag} {F : Hp} : ∀ {ds es : List D} {vs us : List V}, DenL K F ds vs → DenL K F es us → DenL K F (ds ++ es) (vs ++ us)
  | [], _, _, _, q, r => by cases (show _ = [] from q); exact r
  | _ :: _, _, _, _, q, r => by
    obtain ⟨v, rr, rfl, q1, q2⟩ := q
    exact ⟨v, _, rfl, q1, DenL.append q2 r⟩
private theorem DenL.get {K : PySem.W.Frag} {F : Hp} : ∀ {ds : List D} {vs : List V} {i : Nat} {d : D}, DenL K F ds vs → ds[i]? = some d → ∃ v, vs[i]? = some v ∧ Den K F d v
  | [], _, _, _, _, e => by simp at e
  | _ :: _, _, 0, _, q, e => by
    obtain ⟨v, r, rfl, q1, q2⟩ := q
    simp at e; subst e
    exact ⟨v, rfl, q1⟩
  | _ :: _, _, i + 1, _, q, e => by
    obtain ⟨v, r, rfl, q1, q2⟩ := q
    obtain ⟨u, h1, h2⟩ := DenL.get (i := i) q2 (by simpa using e)
    exact ⟨u, by simpa using h1, h2⟩
private theorem DenL.take {K : PySem.W.Frag} {F : Hp} : ∀ {ds : List D} {vs : List V} (n : Nat), DenL K F ds vs → DenL K F (ds.take n) (vs.take n)
  | _, _, 0, _ => by simp; exact DenL.nil
  | [], _, n + 1, q => by cases (show _ = [] from q); exact DenL.nil
  | _ :: _, _, n + 1, q => by
    obtain ⟨v, r, rfl, q1, q2⟩ := q
    exact ⟨v, _, rfl, q1, DenL.take n q2⟩
private theorem DenL.drop {K : PySem.W.Frag} {F : Hp} : ∀ {ds : List D} {vs : List V} (n : Nat), DenL K F ds vs → DenL K F (ds.drop n) (vs.drop n)
  | _, _, 0, q => q
  | [], _, n + 1, q => by cases (show _ = [] from q); exact DenL.nil
  | _ :: _, _, n + 1, q => by
    obtain ⟨v, r, rfl, q1, q2⟩ := q
    exact DenL.drop n q2
private theorem DenL.set {K : PySem.W.Frag} {F : Hp} {d : D} {v : V} (h : Den K F d v) : ∀ {ds : List D} {vs : List V} (n : Nat), DenL K F ds vs → DenL K F (ds.set n d) (vs.set n v)
  | [], _, _, q => by cases (show _ = [] from q); exact DenL.nil
  | _ :: _, _, 0, q => by
    obtain ⟨u, r, rfl, q1, q2⟩ := q
    exact ⟨v, _, rfl, h, q2⟩
  | _ :: _, _, n + 1, q => by
    obtain ⟨u, r, rfl, q1, q2⟩ := q
    exact ⟨u, _, rfl, q1, DenL.set h n q2⟩
private theorem DenL.ints {K : PySem.W.Frag} {F : Hp} : ∀ ns : List Int, DenL K F (ns.map D.i) (ns.map V.int)
  | [] => DenL.nil
  | n :: ns => ⟨_, _, rfl, rfl, DenL.ints ns⟩

structure Grow (F H F' H' : Hp) : Prop where
  same : Same H H'
  ff : Same F F'
  sub : Same F' H'
  new : ∀ b, F b = none → F' b ≠ none → H b = none
private theorem Same.none {F F' : Hp} (h : Same F F') {b : Addr} (e : F' b = none) : F b = none := h.free e
private theorem Grow.refl {F H : Hp} (h : Same F H) : Grow F H F H := ⟨.refl _, .refl _, h, fun _ e n => absurd e n⟩
private theorem Grow.trans {F H F1 H1 F2 H2 : Hp} (a : Grow F H F1 H1) (b : Grow F1 H1 F2 H2) : Grow F H F2 H2 :=
  ⟨a.same.trans b.same, a.ff.trans b.ff, b.sub, fun c e n => by
    by_cases q : F1 c = none
    · exact a.same.free (b.new c q n)
    · exact a.new c e q⟩
private theorem Grow.heap {F H F' H' : Hp} (a : Grow F H F' H') (h : Same F H) : Grow F H F H' := ⟨a.same, .refl _, h.trans a.same, fun _ e n => absurd e n⟩
private theorem same_upd {H : Hp} {p : Addr} (h : H p = none) (o : HO) : Same H (upd H p o) := fun b u q => by rw [upd_ne (ne_of_none q h)]; exact q
private theorem Grow.lay {F H : Hp} (h : Same F H) {p : Addr} (hp : H p = none) (o : HO) : Grow F H (upd F p o) (upd H p o) := by
  have fp : F p = none := h.free hp
  refine ⟨same_upd hp o, same_upd fp o, fun b u q => ?_, fun b e n => ?_⟩
  · by_cases z : b = p
    · subst z; rw [upd_same] at q ⊢; exact q
    · rw [upd_ne z] at q ⊢; exact h _ _ q
  · by_cases z : b = p
    · rw [z]; exact hp
    · rw [upd_ne z] at n; exact absurd e n
private theorem Grow.own {F H : Hp} (h : Same F H) {p : Addr} (hp : H p = none) (o : HO) : Grow F H F (upd H p o) := ⟨same_upd hp o, .refl _, h.trans (same_upd hp o), fun _ e n => absurd e n⟩
private theorem Grow.freeze {F H F' H' : Hp} (g : Grow F H F' H') {p : Addr} {o : HO} (h0 : H p = none) (h1 : H' p = some o) : Grow F H (upd F' p o) H' ∧ (F' p = none → Same F' (upd F' p o)) := by
  refine ⟨⟨g.same, fun b u q => ?_, fun b u q => ?_, fun b e n => ?_⟩, fun e => same_upd e o⟩
  · have q2 := g.ff b u q
    by_cases z : b = p
    · subst z
      have := g.sub _ _ q2
      rw [h1] at this
      rw [upd_same]; exact this
    · rw [upd_ne z]; exact q2
  · by_cases z : b = p
    · subst z; rw [upd_same] at q; rw [← q]; exact h1
    · rw [upd_ne z] at q; exact g.sub _ _ q
  · by_cases z : b = p
    · rw [z]; exact h0
    · rw [upd_ne z] at n; exact g.new b e n

inductive Sl where
  | un | sh (d : D) | ac (ds : List D) | ad (ks : List Key) (ds : List D)
noncomputable def Sl.own : Sl → Bool
  | .ac _ => true
  | .ad _ _ => true
  | _ => false
noncomputable def Sl.toD : Sl → D
  | .un => .n
  | .sh d => d
  | .ac ds => .l ds
  | .ad ks ds => .d ks ds
noncomputable def Own (K : PySem.W.Frag) (F H : Hp) : Sl → V → Prop
  | .un, _ => False
  | .sh d, v => Den K F d v
  | .ac ds, v => ∃ p vs, v = .ref p ∧ H p = some (.lst vs) ∧ F p = none ∧ DenL K F ds vs
  | .ad ks ds, v => ∃ p vs, v = .ref p ∧ H p = some (.dK (ks.zip vs)) ∧ F p = none ∧ ks.length = vs.length ∧ DenL K F ds vs
noncomputable def Res (K : PySem.W.Frag) (H₀ F H : Hp) (r : Sl) (v : V) : Prop := Own K F H r v ∧ (r.own = true → ∀ p, v = .ref p → H₀ p = none)
private theorem Own.mono {K : PySem.W.Frag} {F H F' H' : Hp} (g : Grow F H F' H') : ∀ {r : Sl} {v : V}, Own K F H r v → Own K F' H' r v
  | .un, _, q => q
  | .sh _, _, q => Den.mono g.ff q
  | .ac _, _, q => by
    obtain ⟨p, vs, e, h1, h2, q⟩ := q
    refine ⟨p, vs, e, g.same _ _ h1, ?_, q.mono g.ff⟩
    cases z : F' p with
    | none => rfl
    | some o => rw [g.new p h2 (by rw [z]; simp)] at h1; cases h1
  | .ad _ _, _, q => by
    obtain ⟨p, vs, e, h1, h2, h3, q⟩ := q
    refine ⟨p, vs, e, g.same _ _ h1, ?_, h3, q.mono g.ff⟩
    cases z : F' p with
    | none => rfl
    | some o => rw [g.new p h2 (by rw [z]; simp)] at h1; cases h1
private theorem Own.ref {K : PySem.W.Frag} {F H : Hp} : ∀ {r : Sl} {v : V}, Own K F H r v → r.own = true → ∃ p o, v = .ref p ∧ H p = some o ∧ F p = none ∧ (∀ F', Same F F' → F' p = some o → Den K F' r.toD v)
  | .un, _, q, _ => q.elim
  | .sh _, _, _, e => by cases e
  | .ac _, _, q, _ => by
    obtain ⟨p, vs, e, h1, h2, q⟩ := q
    exact ⟨p, _, e, h1, h2, fun F' s e' => ⟨p, vs, e, SqL.of e', q.mono s⟩⟩
  | .ad _ _, _, q, _ => by
    obtain ⟨p, vs, e, h1, h2, h3, q⟩ := q
    exact ⟨p, _, e, h1, h2, fun F' s e' => ⟨p, vs, e, e', h3, q.mono s⟩⟩
private theorem Res.den {K : PySem.W.Frag} {F H F' H' : Hp} {r : Sl} {v : V} (g : Grow F H F' H') (q : Res K H F' H' r v) : ∃ F2, Grow F H F2 H' ∧ Same F' F2 ∧ Den K F2 r.toD v := by
  obtain ⟨q, nw⟩ := q
  cases ho : r.own with
  | true =>
    obtain ⟨p, o, e, h1, h2, h3⟩ := q.ref ho
    obtain ⟨g2, s2⟩ := g.freeze (nw ho p e) h1
    exact ⟨_, g2, s2 h2, h3 _ (s2 h2) upd_same⟩
  | false =>
    cases r with
    | un => exact q.elim
    | sh d => exact ⟨F', g, .refl _, q⟩
    | ac ds => cases ho
    | ad ks ds => cases ho

structure Rep (K : PySem.W.Frag) (F H : Hp) (σ : St) (ρ : List Sl) : Prop where
  sub : Same F H
  at_ : ∀ (i : Nat) (r : Sl), ρ[i]? = some r → r ≠ .un → ∃ v, σ[i]? = some (some v) ∧ Own K F H r v
  apart : ∀ (i j : Nat) (r r' : Sl) (p : Addr), ρ[i]? = some r → ρ[j]? = some r' → r.own = true → r'.own = true → σ[i]? = some (some (.ref p)) → σ[j]? = some (some (.ref p)) → i = j
  len : σ.length = ρ.length
private theorem Rep.grow {K : PySem.W.Frag} {F H F' H' : Hp} {σ : St} {ρ : List Sl} (R : Rep K F H σ ρ) (g : Grow F H F' H') : Rep K F' H' σ ρ :=
  ⟨g.sub, fun i r e n => let ⟨v, h1, h2⟩ := R.at_ i r e n; ⟨v, h1, h2.mono g⟩, R.apart, R.len⟩
noncomputable def Sl.er : Sl → Sl
  | .ac _ => .un
  | .ad _ _ => .un
  | r => r
noncomputable def Sl.vw : Sl → Sl
  | .ac ds => .sh (.l ds)
  | .ad ks ds => .sh (.d ks ds)
  | r => r
noncomputable abbrev er (ρ : List Sl) : List Sl := ρ.map Sl.er
noncomputable abbrev vw (ρ : List Sl) : List Sl := ρ.map Sl.vw
private theorem Sl.er_own (r : Sl) : r.er.own = false := by cases r <;> rfl
private theorem Sl.vw_own (r : Sl) : r.vw.own = false := by cases r <;> rfl
private theorem Sl.er_of {r : Sl} (h : r.er ≠ .un) : r.er = r := by cases r <;> first | rfl | exact absurd rfl h
private theorem map_get {f : Sl → Sl} {ρ : List Sl} {i : Nat} {r : Sl} (h : (ρ.map f)[i]? = some r) : ∃ r', ρ[i]? = some r' ∧ f r' = r := by
  rw [List.getElem?_map] at h
  cases e : ρ[i]? with
  | none => rw [e] at h; cases h
  | some r' => rw [e] at h; exact ⟨r', rfl, Option.some.inj h⟩
private theorem Rep.er {K : PySem.W.Frag} {F H : Hp} {σ : St} {ρ : List Sl} (R : Rep K F H σ ρ) : Rep K F H σ (er ρ) := by
  refine ⟨R.sub, fun i r e n => ?_, fun i j r r' p e _ o _ _ _ => ?_, by rw [R.len, List.length_map]⟩
  · obtain ⟨r', e', rfl⟩ := map_get e
    have z := Sl.er_of n
    rw [z] at n ⊢
    exact R.at_ i r' e' n
  · obtain ⟨r', e', rfl⟩ := map_get e
    rw [Sl.er_own] at o; cases o
noncomputable def Held (σ : St) (ρ : List Sl) (b : Addr) : Prop := ∃ (i : Nat) (r : Sl), ρ[i]? = some r ∧ r.own = true ∧ σ[i]? = some (some (.ref b))
open Classical in
noncomputable def frzd (σ : St) (ρ : List Sl) (F H : Hp) : Hp := fun b => if Held σ ρ b then H b else F b
private theorem frzd_held {σ : St} {ρ : List Sl} {F H : Hp} {b : Addr} (h : Held σ ρ b) : frzd σ ρ F H b = H b := by unfold frzd; rw [if_pos h]
private theorem frzd_not {σ : St} {ρ : List Sl} {F H : Hp} {b : Addr} (h : ¬ Held σ ρ b) : frzd σ ρ F H b = F b := by unfold frzd; rw [if_neg h]
private theorem Rep.heldFree {K : PySem.W.Frag} {F H : Hp} {σ : St} {ρ : List Sl} (R : Rep K F H σ ρ) {b : Addr} (h : Held σ ρ b) : F b = none ∧ ∃ o, H b = some o := by
  obtain ⟨i, r, e, o, s⟩ := h
  obtain ⟨v, h1, h2⟩ := R.at_ i r e (by intro z; subst z; cases o)
  obtain ⟨p, o', e', q1, q2, _⟩ := h2.ref o
  subst e'
  rw [s] at h1; cases h1
  exact ⟨q2, _, q1⟩
private theorem Rep.frzSame {K : PySem.W.Frag} {F H : Hp} {σ : St} {ρ : List Sl} (R : Rep K F H σ ρ) : Same F (frzd σ ρ F H) := fun b o e => by
  by_cases h : Held σ ρ b
  · rw [(R.heldFree h).1] at e; cases e
  · rw [frzd_not h]; exact e
private theorem Rep.frzSub {K : PySem.W.Frag} {F H : Hp} {σ : St} {ρ : List Sl} (R : Rep K F H σ ρ) : Same (frzd σ ρ F H) H := fun b o e => by
  by_cases h : Held σ ρ b
  · rw [frzd_held h] at e; exact e
  · rw [frzd_not h] at e; exact R.sub _ _ e
private theorem Rep.vw {K : PySem.W.Frag} {F H : Hp} {σ : St} {ρ : List Sl} (R : Rep K F H σ ρ) : Rep K (frzd σ ρ F H) H σ (vw ρ) := by
  refine ⟨R.frzSub, fun i r e n => ?_, fun i j r r' p e _ o _ _ _ => ?_, by rw [R.len, List.length_map]⟩
  · obtain ⟨r', e', rfl⟩ := map_get e
    obtain ⟨v, h1, h2⟩ := R.at_ i r' e' (by intro z; subst z; exact n rfl)
    refine ⟨v, h1, ?_⟩
    cases ho : r'.own with
    | true =>
      obtain ⟨p, o, e2, q1, q2, q3⟩ := h2.ref ho
      subst e2
      have hd : Held σ ρ p := ⟨i, r', e', ho, h1⟩
      have := q3 _ R.frzSame (by rw [frzd_held hd]; exact q1)
      cases r' with
      | ac ds => exact this
      | ad ks ds => exact this
      | un => cases ho
      | sh d => cases ho
    | false =>
      cases r' with
      | ac ds => cases ho
      | ad ks ds => cases ho
      | un => exact absurd rfl n
      | sh d => exact Den.mono R.frzSame h2
  · obtain ⟨r', e', rfl⟩ := map_get e
    rw [Sl.vw_own] at o; cases o
end L3
namespace L3
open PySem PySem.Spec L2
open PyProof.Rows hiding St

noncomputable def tX (K : PySem.W.Frag) (f : List Sl → Option Sl) : TE := fun σ H Q => ∃ F ρ r, Rep K F H σ ρ ∧ f ρ = some r ∧ ∀ v F' H', Grow F H F' H' → Res K H F' H' r v → Q v H'
noncomputable def tXs (K : PySem.W.Frag) (f : List Sl → Option (List D)) : TA := fun σ H Q => ∃ F ρ ds, Rep K F H σ ρ ∧ f ρ = some ds ∧ ∀ vs F' H', Grow F H F' H' → DenL K F' ds vs → Q vs H'
noncomputable def tXt (K : PySem.W.Frag) (f : List Sl → Option Bool) : TT := fun σ H Q => ∃ F ρ b, Rep K F H σ ρ ∧ f ρ = some b ∧ ∀ F' H', Grow F H F' H' → Q b H'
noncomputable abbrev PX (X : Cx) (e : Expr) (f : List Sl → Option Sl) : Prop := PE X e (tX X.K f)
noncomputable abbrev PXs (X : Cx) (es : List Expr) (f : List Sl → Option (List D)) : Prop := PA X es (tXs X.K f)
noncomputable abbrev PXt (X : Cx) (e : Expr) (f : List Sl → Option Bool) : Prop := PT X e (tXt X.K f)
noncomputable abbrev PXw (X : Cx) (e : Expr) (f : List Sl → Option Bool) : Prop := PW X e (tXt X.K f)

section
variable {X : Cx} {e a b c : Expr} {es : List Expr} {pos : Pos}
private theorem PE.imp {t t' : TE} (h : PE X e t) (w : ∀ σ H Q, t' σ H Q → t σ H Q) : PE X e t' := fun pins s σ H Q I q => h pins s σ H Q I (w _ _ _ q)
private theorem PT.imp {t t' : TT} (h : PT X e t) (w : ∀ σ H Q, t' σ H Q → t σ H Q) : PT X e t' := fun pins s σ H Q I q => h pins s σ H Q I (w _ _ _ q)
private theorem PW.imp {t t' : TT} (h : PW X e t) (w : ∀ σ H Q, t' σ H Q → t σ H Q) : PW X e t' := fun wh pins s σ H Q I q => h wh pins s σ H Q I (w _ _ _ q)
private theorem PA.imp {t t' : TA} (h : PA X es t) (w : ∀ σ H Q, t' σ H Q → t σ H Q) : PA X es t' := fun pos pins s σ H Q I q => h pos pins s σ H Q I (w _ _ _ q)

private theorem Res.sh {K : PySem.W.Frag} {H₀ F H : Hp} {d : D} {v : V} (h : Den K F d v) : Res K H₀ F H (.sh d) v := ⟨h, fun o => by cases o⟩
private theorem Res.weak {K : PySem.W.Frag} {H₀ H₁ F H : Hp} {r : Sl} {v : V} (s : Same H₀ H₁) (q : Res K H₁ F H r v) : Res K H₀ F H r v := ⟨q.1, fun o p e => s.free (q.2 o p e)⟩

noncomputable def rdF (i : Nat) (ρ : List Sl) : Option Sl := match ρ[i]? with
  | some (.sh d) => some (.sh d)
  | _ => none
private theorem px_rd {x : Str} {i : Nat} (h : PE X (.Name x pos) (tVar i)) : PX X (.Name x pos) (rdF i) := PE.imp h fun σ H Q zq9 => by
  obtain ⟨F, ρ, r, R, e, k⟩ := zq9
  unfold rdF at e
  split at e
  · rename_i d hd
    cases e
    obtain ⟨v, h1, h2⟩ := R.at_ i _ hd (by intro z; cases z)
    exact ⟨v, h1, k v F H (.refl R.sub) (.sh h2)⟩
  · cases e
noncomputable def cF (d : D) (_ : List Sl) : Option Sl := some (.sh d)
private theorem px_const {v : V} {d : D} (h : PE X e (tC v)) (hd : ∀ F, Den X.K F d v) : PX X e (cF d) := PE.imp h fun σ H Q zq9 => by
  obtain ⟨F, ρ, r, R, e, k⟩ := zq9
  cases e
  exact k v F H (.refl R.sub) (.sh (hd F))
private theorem px_int {i j} : PX X (.Constant (.int i) j pos) (cF (.i i)) := px_const pe_int fun _ => rfl
private theorem px_bl {i j} : PX X (.Constant (.bool i) j pos) (cF (.b i)) := px_const pe_bl fun _ => rfl
private theorem px_non {j} : PX X (.Constant .none j pos) (cF .n) := px_const pe_non fun _ => rfl
private theorem px_glob {x : Str} {v : V} {u : Value} {d : D} (hg : Gl X x) (hm : X.mg x = some u) (r : RelV v u) (hd : ∀ F, Den X.K F d v) (hdb : autoParam ((x == ("__debug__" : Str)) = false) _root_.zt1) : PX X (.Name x pos) (cF d) := px_const (pe_glob hg hm r hdb) hd

noncomputable def nilF (_ : List Sl) : Option (List D) := some []
noncomputable def consF (f : List Sl → Option Sl) (g : List Sl → Option (List D)) (ρ : List Sl) : Option (List D) := (f ρ).bind fun r => (g ρ).bind fun ds => some (r.toD :: ds)
private theorem pxs_nil : PXs X [] nilF := PA.imp pa_nil fun σ H Q zq9 => by
  obtain ⟨F, ρ, ds, R, e, k⟩ := zq9
  cases e
  exact k [] F H (.refl R.sub) DenL.nil
private theorem pxs_cons {f : List Sl → Option Sl} {g : List Sl → Option (List D)} (ha : PX X e f) (hr : PXs X es g) (hs : autoParam (starEach (e :: es) X.env = (false, eval e X.env) :: starEach es X.env) _root_.zt2) : PXs X (e :: es) (consF f g) :=
  PA.imp (pa_cons ha hr hs) fun σ H Q zq9 => by
    obtain ⟨F, ρ, ds, R, e, k⟩ := zq9
    unfold consF at e
    cases e1 : f ρ with
    | none => rw [e1] at e; cases e
    | some r =>
      rw [e1] at e
      cases e2 : g ρ with
      | none => rw [e2] at e; cases e
      | some ds' =>
        rw [e2] at e; cases e
        refine ⟨F, ρ, r, R, e1, fun v F1 H1 g1 q1 => ?_⟩
        obtain ⟨F2, g2, s2, den⟩ := q1.den g1
        exact ⟨F2, ρ, ds', R.grow g2, e2, fun vs F3 H3 g3 q3 => k (v :: vs) F3 H3 (g2.trans g3) (.cons (den.mono g3.ff) q3)⟩

noncomputable def tupF (g : List Sl → Option (List D)) (ρ : List Sl) : Option Sl := (g ρ).bind fun ds => if ds.length ≤ 1000 then some (.sh (.t ds)) else none
noncomputable def lstF (g : List Sl → Option (List D)) (ρ : List Sl) : Option Sl := (g ρ).bind fun ds => if ds.length ≤ 1000 then some (.ac ds) else none
private theorem le_line {n : Nat} (h : n ≤ 1000) : n ≤ sizeLine := Nat.le_of_lt (small1000 h)
private theorem px_tup {g : List Sl → Option (List D)} {x1} (h : PXs X es g) : PX X (.Tuple es x1 pos) (tupF g) := PE.imp (pe_tup h) fun σ H Q zq9 => by
  obtain ⟨F, ρ, r, R, e, k⟩ := zq9
  unfold tupF at e
  cases e1 : g ρ with
  | none => rw [e1] at e; cases e
  | some ds =>
    rw [e1] at e
    simp only [Option.bind_some] at e
    split at e
    · rename_i hl
      cases e
      refine ⟨F, ρ, ds, R, e1, fun vs F1 H1 g1 q1 => ⟨by rw [← q1.length]; exact le_line hl, fun p hp => ?_⟩⟩
      have g2 := Grow.lay g1.sub hp (.tup vs)
      exact k _ _ _ (g1.trans g2) (.sh ⟨p, vs, rfl, SqT.of upd_same, q1.mono g2.ff⟩)
    · cases e
private theorem px_lst {g : List Sl → Option (List D)} (h : PXs X es g) : PX X (.List es pos) (lstF g) := PE.imp (pe_lst h) fun σ H Q zq9 => by
  obtain ⟨F, ρ, r, R, e, k⟩ := zq9
  unfold lstF at e
  cases e1 : g ρ with
  | none => rw [e1] at e; cases e
  | some ds =>
    rw [e1] at e
    simp only [Option.bind_some] at e
    split at e
    · rename_i hl
      cases e
      refine ⟨F, ρ, ds, R, e1, fun vs F1 H1 g1 q1 => ⟨by rw [← q1.length]; exact le_line hl, fun p hp => ?_⟩⟩
      have g2 := Grow.own g1.sub hp (.lst vs)
      refine k _ F1 _ (g1.trans g2) ⟨⟨p, vs, rfl, upd_same, g1.sub.free hp, q1⟩, fun _ p' e' => ?_⟩
      cases e'
      exact g1.same.free hp
    · cases e

noncomputable def rX (K : PySem.W.Frag) (h : D → D → Option Sl) : R2 := fun x y H Q => ∃ F d1 d2 r, Same F H ∧ Den K F d1 x ∧ Den K F d2 y ∧ h d1 d2 = some r ∧ ∀ v F' H', Grow F H F' H' → Res K H F' H' r v → Q v H'
noncomputable def opF (h : D → D → Option Sl) (f g : List Sl → Option Sl) (ρ : List Sl) : Option Sl := (f ρ).bind fun x => (g ρ).bind fun y => h x.toD y.toD
private theorem op_imp {h : D → D → Option Sl} {f g : List Sl → Option Sl} {K : PySem.W.Frag} (σ : St) (H : Hp) (Q : VK) (q : tX K (opF h f g) σ H Q) : tOp (rX K h) (tX K f) (tX K g) σ H Q := by
  obtain ⟨F, ρ, r, R, e, k⟩ := q
  unfold opF at e
  cases e1 : f ρ with
  | none => rw [e1] at e; cases e
  | some x =>
    rw [e1] at e
    simp only [Option.bind_some] at e
    cases e2 : g ρ with
    | none => rw [e2] at e; cases e
    | some y =>
      rw [e2] at e
      simp only [Option.bind_some] at e
      refine ⟨F, ρ, x, R, e1, fun v F1 H1 g1 q1 => ?_⟩
      obtain ⟨F2, g2, s2, den1⟩ := q1.den g1
      refine ⟨F2, ρ, y, R.grow g2, e2, fun u F3 H3 g3 q3 => ?_⟩
      obtain ⟨F4, g4, s4, den2⟩ := q3.den g3
      exact ⟨F4, _, _, r, g4.sub, den1.mono g4.ff, den2, e, fun v' F' H' g q => k v' F' H' ((g2.trans g4).trans g) (q.weak (g2.trans g4).same)⟩
private theorem px_op {op : Operator} {h : D → D → Option Sl} {f g : List Sl → Option Sl} (ho : OpR X (binaryOp op) (rX X.K h)) (ha : PX X a f) (hb : PX X b g) : PX X (.BinOp a op b pos) (opF h f g) := PE.imp (pe_op ho ha hb) op_imp
private theorem px_cmp {op : CmpOp} {h : D → D → Option Sl} {f g : List Sl → Option Sl} (ho : OpR X (compareOp op) (rX X.K h)) (ha : PX X a f) (hb : PX X b g) (hm : behindInMarks op b = false) : PX X (.Compare a [op] [b] pos) (opF h f g) := PE.imp (pe_cmpR ho ha hb hm) op_imp
noncomputable def tstF (f : List Sl → Option Sl) (ρ : List Sl) : Option Bool := match f ρ with
  | some (.sh (.b x)) => some x
  | _ => none
private theorem tstF_some {f : List Sl → Option Sl} {ρ : List Sl} {b : Bool} (h : tstF f ρ = some b) : f ρ = some (.sh (.b b)) := by
  unfold tstF at h
  split at h
  · rename_i x e; cases h; exact e
  · cases h
private theorem ptx_cmp {op : CmpOp} {h : D → D → Option Sl} {f g : List Sl → Option Sl} (ho : OpR X (compareOp op) (rX X.K h)) (ha : PX X a f) (hb : PX X b g) (hm : behindInMarks op b = false) : PXt X (.Compare a [op] [b] pos) (tstF (opF h f g)) :=
  PT.imp (pt_cmpR ho ha hb hm) fun σ H Q ⟨F, ρ, b, R, e, k⟩ => op_imp σ H _ ⟨F, ρ, _, R, tstF_some e, fun v F' H' g q => by
    have q1 : Den X.K F' (.b b) v := q.1
    exact ⟨b, q1, k F' H' g⟩⟩
noncomputable def truD : D → Option Bool
  | .n => some false
  | .b x => some x
  | .i x => some (x != 0)
  | .s x => if x.length ≤ sizeLine then some ((x.length : Int) != 0) else none
  | .t xs => some (!xs.isEmpty)
  | .l xs => some (!xs.isEmpty)
  | .d ks _ => some (!ks.isEmpty)
  | .x _ _ _ => none
  | .o _ _ _ => none
noncomputable def truF (f : List Sl → Option Sl) (ρ : List Sl) : Option Bool := (f ρ).bind fun r => truD r.toD
private theorem SqL.sub {K : PySem.W.Frag} {F H : Hp} (s : Same F H) {a : Addr} {xs : List V} (h : SqL K F a xs) : SqL K H a xs := s.seq h
private theorem DenL.isEmpty {K : PySem.W.Frag} {F : Hp} {ds : List D} {vs : List V} (h : DenL K F ds vs) : ds.isEmpty = vs.isEmpty := by
  have := h.length
  cases ds <;> cases vs <;> first | rfl | (simp at this)
private theorem truV_of {K : PySem.W.Frag} {F H : Hp} (s : Same F H) : ∀ {d : D} {v : V} {b : Bool}, Den K F d v → truD d = some b → TruV K v H b
  | .n, _, _, q, e => by cases (show _ = V.non from q); cases e; exact rfl
  | .b _, _, _, q, e => by cases (show _ = V.bl _ from q); cases e; exact rfl
  | .i _, _, _, q, e => by cases (show _ = V.int _ from q); cases e; exact rfl
  | .s _, _, _, q, e => by
    cases (show _ = V.str _ from q)
    simp only [truD] at e
    split at e
    · rename_i hl; cases e; exact ⟨hl, rfl⟩
    · cases e
  | .t _, _, _, q, e => by
    obtain ⟨a, vs, rfl, h1, h2⟩ := q
    cases e
    exact .inr (.inl ⟨vs, sq_mono_T s h1, by rw [h2.isEmpty]⟩)
  | .l _, _, _, q, e => by
    obtain ⟨a, vs, rfl, h1, h2⟩ := q
    cases e
    exact .inl ⟨vs, s.seq h1, by rw [h2.isEmpty]⟩
  | .x _ _ _, _, _, _, e => by cases e
  | .o _ _ _, _, _, _, e => by cases e
  | .d ks _, _, _, q, e => by
    obtain ⟨a, vs, rfl, h1, h3, h2⟩ := q
    cases e
    refine .inr (.inr ⟨_, s _ _ h1, ?_⟩)
    cases ks with
    | nil => rfl
    | cons k ks =>
      cases vs with
      | nil => simp at h3
      | cons v vs => rfl
private theorem ptx_tru {f : List Sl → Option Sl} (ha : PX X a f) (he : autoParam (∀ whole, isTrue a X.env whole = (do let v ← whole; standAt a.pos; holding [v] (truthy v))) _root_.zt3) : PXt X a (truF f) :=
  PT.imp (pt_truth ha he) fun σ H Q zq9 => by
    obtain ⟨F, ρ, b, R, e, k⟩ := zq9
    unfold truF at e
    cases e1 : f ρ with
    | none => rw [e1] at e; cases e
    | some r =>
      rw [e1] at e
      simp only [Option.bind_some] at e
      refine ⟨F, ρ, r, R, e1, fun v F1 H1 g1 q1 => ?_⟩
      obtain ⟨F2, g2, s2, den⟩ := q1.den g1
      exact ⟨b, truV_of g2.sub den e, k _ _ g2⟩

noncomputable def andT (f g : List Sl → Option Bool) (ρ : List Sl) : Option Bool := match f ρ with
  | some true => g ρ
  | some false => some false
  | none => none
noncomputable def orT (f g : List Sl → Option Bool) (ρ : List Sl) : Option Bool := match f ρ with
  | some true => some true
  | some false => g ρ
  | none => none
noncomputable def notT (f : List Sl → Option Bool) (ρ : List Sl) : Option Bool := (f ρ).map (!·)
variable {rest : List Expr}
private theorem pwx_and1 {f : List Sl → Option Bool} (ha : PXt X a f) : PXw X (.BoolOp .And [a] pos) f := pw_and1 ha
private theorem pwx_or1 {f : List Sl → Option Bool} (ha : PXt X a f) : PXw X (.BoolOp .Or [a] pos) f := pw_or1 ha
private theorem pwx_and {f g : List Sl → Option Bool} (ha : PXt X a f) (hb : PXw X (.BoolOp .And (b :: rest) pos) g) : PXw X (.BoolOp .And (a :: b :: rest) pos) (andT f g) :=
  PW.imp (pw_and ha hb) fun σ H Q zq9 => by
    obtain ⟨F, ρ, b, R, e, k⟩ := zq9
    unfold andT at e
    split at e
    · rename_i e1
      refine ⟨F, ρ, true, R, e1, fun F1 H1 g1 => ?_⟩
      refine iteT ?_
      exact ⟨F1, ρ, b, R.grow g1, e, fun F2 H2 g2 => k F2 H2 (g1.trans g2)⟩
    · rename_i e1
      cases e
      refine ⟨F, ρ, false, R, e1, fun F1 H1 g1 => ?_⟩
      refine iteF ?_
      exact k F1 H1 g1
    · cases e
private theorem pwx_or {f g : List Sl → Option Bool} (ha : PXt X a f) (hb : PXw X (.BoolOp .Or (b :: rest) pos) g) : PXw X (.BoolOp .Or (a :: b :: rest) pos) (orT f g) :=
  PW.imp (pw_or ha hb) fun σ H Q zq9 => by
    obtain ⟨F, ρ, b, R, e, k⟩ := zq9
    unfold orT at e
    split at e
    · rename_i e1
      cases e
      refine ⟨F, ρ, true, R, e1, fun F1 H1 g1 => ?_⟩
      refine iteT ?_
      exact k F1 H1 g1
    · rename_i e1
      refine ⟨F, ρ, false, R, e1, fun F1 H1 g1 => ?_⟩
      refine iteF ?_
      exact ⟨F1, ρ, b, R.grow g1, e, fun F2 H2 g2 => k F2 H2 (g1.trans g2)⟩
    · cases e
private theorem ptx_not {f : List Sl → Option Bool} (ha : PXt X a f) : PXt X (.UnaryOp .Not a pos) (notT f) := PT.imp (pt_not ha) fun σ H Q zq9 => by
  obtain ⟨F, ρ, b, R, e, k⟩ := zq9
  unfold notT at e
  cases e1 : f ρ with
  | none => rw [e1] at e; cases e
  | some x => rw [e1] at e; cases e; exact ⟨F, ρ, x, R, e1, k⟩
noncomputable def andF (f g : List Sl → Option Sl) (ρ : List Sl) : Option Sl := match f ρ with
  | some (.sh (.b true)) => g ρ
  | some (.sh (.b false)) => some (.sh (.b false))
  | _ => none
noncomputable def orF (f g : List Sl → Option Sl) (ρ : List Sl) : Option Sl := match f ρ with
  | some (.sh (.b true)) => some (.sh (.b true))
  | some (.sh (.b false)) => g ρ
  | _ => none
private theorem px_one {op} {f : List Sl → Option Sl} (h : PX X a f) : PX X (.BoolOp op [a] pos) f := pe_one h
private theorem px_and {f g : List Sl → Option Sl} (ha : PX X a f) (hb : PX X (.BoolOp .And (b :: rest) pos) g) : PX X (.BoolOp .And (a :: b :: rest) pos) (andF f g) := PE.imp (pe_and ha hb) fun σ H Q zq9 => by
  obtain ⟨F, ρ, r, R, e, k⟩ := zq9
  unfold andF at e
  split at e
  · rename_i e1
    refine ⟨F, ρ, _, R, e1, fun v F1 H1 g1 q1 => ⟨true, q1.1, ?_⟩⟩
    refine iteT ?_
    exact ⟨F1, ρ, r, R.grow g1, e, fun v2 F2 H2 g2 q2 => k v2 F2 H2 (g1.trans g2) (q2.weak g1.same)⟩
  · rename_i e1
    cases e
    refine ⟨F, ρ, _, R, e1, fun v F1 H1 g1 q1 => ⟨false, q1.1, ?_⟩⟩
    refine iteF ?_
    exact k _ F1 H1 g1 (.sh rfl)
  · cases e
private theorem px_or {f g : List Sl → Option Sl} (ha : PX X a f) (hb : PX X (.BoolOp .Or (b :: rest) pos) g) : PX X (.BoolOp .Or (a :: b :: rest) pos) (orF f g) := PE.imp (pe_or ha hb) fun σ H Q zq9 => by
  obtain ⟨F, ρ, r, R, e, k⟩ := zq9
  unfold orF at e
  split at e
  · rename_i e1
    cases e
    refine ⟨F, ρ, _, R, e1, fun v F1 H1 g1 q1 => ⟨true, q1.1, ?_⟩⟩
    refine iteT ?_
    exact k _ F1 H1 g1 (.sh rfl)
  · rename_i e1
    refine ⟨F, ρ, _, R, e1, fun v F1 H1 g1 q1 => ⟨false, q1.1, ?_⟩⟩
    refine iteF ?_
    exact ⟨F1, ρ, r, R.grow g1, e, fun v2 F2 H2 g2 q2 => k v2 F2 H2 (g1.trans g2) (q2.weak g1.same)⟩
  · cases e
noncomputable def ifF (t : List Sl → Option Bool) (f g : List Sl → Option Sl) (ρ : List Sl) : Option Sl := match t ρ with
  | some true => f ρ
  | some false => g ρ
  | none => none
private theorem px_ifExp {t : List Sl → Option Bool} {f g : List Sl → Option Sl} (hc : PXt X c t) (ha : PX X a f) (hb : PX X b g) : PX X (.IfExp c a b pos) (ifF t f g) := PE.imp (pe_ifExp hc ha hb) fun σ H Q zq9 => by
  obtain ⟨F, ρ, r, R, e, k⟩ := zq9
  unfold ifF at e
  split at e
  · rename_i e1
    refine ⟨F, ρ, true, R, e1, fun F1 H1 g1 => ?_⟩
    refine iteT ?_
    exact ⟨F1, ρ, r, R.grow g1, e, fun v2 F2 H2 g2 q2 => k v2 F2 H2 (g1.trans g2) (q2.weak g1.same)⟩
  · rename_i e1
    refine ⟨F, ρ, false, R, e1, fun F1 H1 g1 => ?_⟩
    refine iteF ?_
    exact ⟨F1, ρ, r, R.grow g1, e, fun v2 F2 H2 g2 q2 => k v2 F2 H2 (g1.trans g2) (q2.weak g1.same)⟩
  · cases e
end
end L3
namespace L3
open PySem PySem.Spec L2
open PyProof.Rows hiding St

section
variable {X : Cx}
noncomputable def intO (C : Int → Int → Bool) (g : Int → Int → D) : D → D → Option Sl
  | .i a, .i b => if C a b = true then some (.sh (g a b)) else none
  | _, _ => none
private theorem intO_some {C : Int → Int → Bool} {g : Int → Int → D} {d1 d2 : D} {r : Sl} (h : intO C g d1 d2 = some r) : ∃ a b, d1 = .i a ∧ d2 = .i b ∧ C a b = true ∧ r = .sh (g a b) := by
  unfold intO at h
  split at h
  · rename_i a b
    split at h
    · rename_i hc; cases h; exact ⟨a, b, rfl, rfl, hc, rfl⟩
    · cases h
  · cases h
private theorem ox_int {f : Value → Value → Sem Value} {P : Int → Int → Prop} {C : Int → Int → Bool} {g : Int → Int → V} {gd : Int → Int → D} (h : OpR X f (rI P g)) (hc : ∀ a b, C a b = true → P a b) (hg : ∀ a b F, Den X.K F (gd a b) (g a b)) : OpR X f (rX X.K (intO C gd)) := by
  intro pins s σ H x y v u Q I rx ry q
  obtain ⟨F, d1, d2, r, hs, h1, h2, e, k⟩ := q
  obtain ⟨a, b, rfl, rfl, c, rfl⟩ := intO_some e
  exact h pins s σ H x y v u Q I rx ry ⟨a, b, h1, h2, hc a b c, k _ F H (.refl hs) (.sh (hg a b F))⟩
private theorem ox_int0 {f : Value → Value → Sem Value} {g : Int → Int → V} {gd : Int → Int → D} (h : OpR X f (rI0 g)) (hg : ∀ a b F, Den X.K F (gd a b) (g a b)) : OpR X f (rX X.K (intO (fun _ _ => true) gd)) := by
  intro pins s σ H x y v u Q I rx ry q
  obtain ⟨F, d1, d2, r, hs, h1, h2, e, k⟩ := q
  obtain ⟨a, b, rfl, rfl, c, rfl⟩ := intO_some e
  exact h pins s σ H x y v u Q I rx ry ⟨a, b, h1, h2, k _ F H (.refl hs) (.sh (hg a b F))⟩
noncomputable abbrev subD := intO (fun _ _ => true) fun a b => .i (a - b)
noncomputable abbrev mulI := intO (fun a b => decide ((-(2 ^ 64) < a ∧ a < 2 ^ 64) ∨ (-(2 ^ 64) < b ∧ b < 2 ^ 64)) || decide (a.natAbs.log2 < 60000 ∧ b.natAbs.log2 < 60000)) fun a b => .i (a * b)
noncomputable abbrev fdivD := intO (fun _ b => decide (0 < b ∧ b.natAbs.log2 < 9000)) fun a b => .i (a / b)
noncomputable abbrev modD := intO (fun _ b => decide (0 < b)) fun a b => .i (a % b)
noncomputable abbrev ltD := intO (fun _ _ => true) fun a b => .b (decide (a < b))
noncomputable abbrev gtD := intO (fun _ _ => true) fun a b => .b (decide (b < a))
noncomputable abbrev addI := intO (fun _ _ => true) fun a b => .i (a + b)
private theorem ox_addI : OpR X (binaryOp .Add) (rX X.K addI) := ox_int0 op_add fun _ _ _ => rfl
private theorem ox_sub : OpR X (binaryOp .Sub) (rX X.K subD) := ox_int0 op_sub fun _ _ _ => rfl
private theorem bits_of {a : Int} (h : a.natAbs.log2 < 60000) : Builtin.Int.intBits a ≤ 60000 := by
  unfold Builtin.Int.intBits
  split <;> omega
private theorem op_mulB : OpR X (binaryOp .Mult) (rI (fun i j => IntMulOk i j) fun i j => .int (i * j)) := opI fun _ _ _ _ _ _ _ hc q => mul_int q hc
private theorem ox_mulI : OpR X (binaryOp .Mult) (rX X.K mulI) := ox_int op_mulB (fun a b h => by
  rw [Bool.or_eq_true] at h
  rcases h with h | h
  · exact (show CMul a b from of_decide_eq_true (p := (-(2 ^ 64) < a ∧ a < 2 ^ 64) ∨ (-(2 ^ 64) < b ∧ b < 2 ^ 64)) h).ok
  · have h := of_decide_eq_true (p := a.natAbs.log2 < 60000 ∧ b.natAbs.log2 < 60000) h
    exact IntMulOk.of_le (bits_of h.1) (bits_of h.2) (by decide)) fun _ _ _ => rfl
private theorem op_fdivB : OpR X (binaryOp .FloorDiv) (rI (fun _ j => 0 < j ∧ j.natAbs.log2 < 9000) fun i j => .int (i / j)) := opI fun i j _ _ _ _ _ hc q => by
  have h1 : (0 : Int) < j := hc.1
  refine floordiv_int (by omega) ?_ (.inl (PyProof.noPylong_of_log2 hc.2))
  rw [Int.fdiv_eq_ediv_of_nonneg i (by omega)]; exact q
private theorem ox_fdiv : OpR X (binaryOp .FloorDiv) (rX X.K fdivD) := ox_int op_fdivB (fun _ b h => of_decide_eq_true (p := 0 < b ∧ b.natAbs.log2 < 9000) h) fun _ _ _ => rfl
private theorem ox_mod : OpR X (binaryOp .Mod) (rX X.K modD) := ox_int op_mod (fun _ _ h => of_decide_eq_true h) fun _ _ _ => rfl
private theorem ox_lt : OpR X (compareOp .Lt) (rX X.K ltD) := ox_int0 op_lt fun _ _ _ => rfl
private theorem ox_gt : OpR X (compareOp .Gt) (rX X.K gtD) := ox_int0 op_gt fun _ _ _ => rfl
mutual
noncomputable def toP : D → PyData
  | .n => .none
  | .b x => .bool x
  | .i x => .int x
  | .s x => .str x
  | .t xs => .tuple (toPs xs)
  | .l xs => .list (toPs xs)
  | .d _ _ => .dict []
  | .x _ _ _ => .dict []
  | .o _ _ _ => .dict []
noncomputable def toPs : List D → List PyData
  | [] => []
  | d :: ds => toP d :: toPs ds
end
mutual
noncomputable def okE : Nat → D → Bool
  | _, .n => true
  | _, .b _ => true
  | _, .i _ => true
  | _, .s x => PyData.canLay0 (.str x)
  | 0, .t _ => false
  | n + 1, .t xs => okEs n xs
  | 0, .l _ => false
  | n + 1, .l xs => okEs n xs
  | _, .d _ _ => false
  | _, .x _ _ _ => false
  | _, .o _ _ _ => false
noncomputable def okEs : Nat → List D → Bool
  | _, [] => true
  | n, d :: ds => okE n d && okEs n ds
end
mutual
noncomputable def eqD : D → D → Bool
  | .n, z => (match z with
    | .n => true
    | _ => false)
  | .b a, z => (match z with
    | .b b => a == b
    | .i j => (if a then 1 else 0) == j
    | _ => false)
  | .i i, z => (match z with
    | .b b => i == (if b then 1 else 0)
    | .i j => i == j
    | _ => false)
  | .s x, z => (match z with
    | .s y => x == y
    | _ => false)
  | .l xs, z => (match z with
    | .l ys => eqDs xs ys
    | _ => false)
  | .t xs, z => (match z with
    | .t ys => eqDs xs ys
    | _ => false)
  | .d _ _, _ => false
  | .x _ _ _, _ => false
  | .o _ _ _, _ => false
noncomputable def eqDs : List D → List D → Bool
  | [], [] => true
  | x :: xs, y :: ys => eqD x y && eqDs xs ys
  | _, _ => false
end
mutual
private theorem eqv_toP : ∀ (a b : D), PyData.eqv (toP a) (toP b) = eqD a b
  | .n, b => by cases b <;> simp [toP, PyData.eqv, eqD]
  | .b _, b => by cases b <;> simp [toP, PyData.eqv, eqD]
  | .i _, b => by cases b <;> simp [toP, PyData.eqv, eqD]
  | .s _, b => by cases b <;> simp [toP, PyData.eqv, eqD]
  | .t xs, b => by cases b <;> simp [toP, PyData.eqv, eqD, eqv_toPs]
  | .l xs, b => by cases b <;> simp [toP, PyData.eqv, eqD, eqv_toPs]
  | .d _ _, b => by cases b <;> simp [toP, PyData.eqv, eqD]
  | .x _ _ _, b => by cases b <;> simp [toP, PyData.eqv, eqD]
  | .o _ _ _, b => by cases b <;> simp [toP, PyData.eqv, eqD]
private theorem eqv_toPs : ∀ (a b : List D), PyData.eqvAll (toPs a) (toPs b) = eqDs a b
  | [], b => by cases b <;> simp [toPs, PyData.eqvAll, eqDs]
  | x :: xs, b => by
    cases b with
    | nil => simp [toPs, PyData.eqvAll, eqDs]
    | cons y ys => simp [toPs, PyData.eqvAll, eqDs, eqv_toP x y, eqv_toPs xs ys]
end
mutual
private theorem okE_lay : ∀ (n : Nat) (d : D), okE n d = true → (toP d).canLay0 = true ∧ (toP d).depth ≤ n
  | _, .n, _ => ⟨rfl, by simp [toP, PyData.depth]⟩
  | _, .b _, _ => ⟨rfl, by simp [toP, PyData.depth]⟩
  | _, .i _, _ => ⟨rfl, by simp [toP, PyData.depth]⟩
  | _, .s _, h => ⟨by simpa [okE, toP] using h, by simp [toP, PyData.depth]⟩
  | 0, .t _, h => by simp [okE] at h
  | n + 1, .t xs, h => by
    have := okEs_lay n xs (by simpa [okE] using h)
    exact ⟨by simp [toP, PyData.canLay0, this.1], by simp [toP, PyData.depth]; omega⟩
  | 0, .l _, h => by simp [okE] at h
  | n + 1, .l xs, h => by
    have := okEs_lay n xs (by simpa [okE] using h)
    exact ⟨by simp [toP, PyData.canLay0, this.1], by simp [toP, PyData.depth]; omega⟩
  | _, .d _ _, h => by simp [okE] at h
  | _, .x _ _ _, h => by simp [okE] at h
  | _, .o _ _ _, h => by simp [okE] at h
private theorem okEs_lay : ∀ (n : Nat) (ds : List D), okEs n ds = true → PyData.canLayAll0 (toPs ds) = true ∧ PyData.depthAll (toPs ds) ≤ n
  | _, [], _ => ⟨rfl, by simp [toPs, PyData.depthAll]⟩
  | n, d :: ds, h => by
    simp only [okEs, Bool.and_eq_true] at h
    have h1 := okE_lay n d h.1
    have h2 := okEs_lay n ds h.2
    exact ⟨by simp [toPs, PyData.canLayAll0, h1.1, h2.1], by simp [toPs, PyData.depthAll]; omega⟩
end
private theorem okE_shaped {d : D} (h : okE 60 d = true) : SeqAt.shaped (toP d) = true := by
  have := okE_lay 60 d h
  unfold SeqAt.shaped
  rw [this.1, decide_eq_true (by omega)]; rfl
mutual
private theorem den_reads {pins : List (Addr × Obj)} {σ : St} {H F : Hp} {s : Shared} (I : Inv X pins σ H s) (hs : Same F H) : ∀ (n : Nat) {d : D} {v : V} {u : Value}, okE n d = true → Den X.K F d v → RelV v u → ∃ as, Reads s.heap u (toP d) as
  | _, .n, _, _, _, q, r => by cases (show _ = V.non from q); cases r; exact ⟨_, .none⟩
  | _, .b _, _, _, _, q, r => by cases (show _ = V.bl _ from q); cases r; exact ⟨_, .bool _⟩
  | _, .i _, _, _, _, q, r => by cases (show _ = V.int _ from q); obtain ⟨t, rfl⟩ := r; exact ⟨_, .int _ t⟩
  | _, .s _, _, _, _, q, r => by cases (show _ = V.str _ from q); obtain ⟨t, rfl⟩ := r; exact ⟨_, .str _ t⟩
  | 0, .t _, _, _, h, _, _ => by simp [okE] at h
  | n + 1, .t xs, _, _, h, q, r => by
    obtain ⟨a, vs, rfl, h1, h2⟩ := q
    cases r
    obtain ⟨its, rv, ⟨o, ho, hc, m, hd⟩, _⟩ := I.tuple (sq_mono_T hs h1)
    obtain ⟨as, ra⟩ := den_readss I hs n (by simpa [okE] using h) h2 rv
    exact ⟨_, .tuple ho hc hd (by simpa using ra)⟩
  | 0, .l _, _, _, h, _, _ => by simp [okE] at h
  | n + 1, .l xs, _, _, h, q, r => by
    obtain ⟨a, vs, rfl, h1, h2⟩ := q
    cases r
    obtain ⟨its, rv, pl, _⟩ := I.list (hs.seq h1)
    obtain ⟨o, ho, hc, m, hd⟩ := pl.isList
    obtain ⟨as, ra⟩ := den_readss I hs n (by simpa [okE] using h) h2 rv
    exact ⟨_, .list ho hc hd (by simpa using ra)⟩
  | _, .d _ _, _, _, h, _, _ => by simp [okE] at h
  | _, .x _ _ _, _, _, h, _, _ => by simp [okE] at h
  | _, .o _ _ _, _, _, h, _, _ => by simp [okE] at h
private theorem den_readss {pins : List (Addr × Obj)} {σ : St} {H F : Hp} {s : Shared} (I : Inv X pins σ H s) (hs : Same F H) : ∀ (n : Nat) {ds : List D} {vs : List V} {us : List Value}, okEs n ds = true → DenL X.K F ds vs → Vals vs us → ∃ as, ReadsAll s.heap us (toPs ds) as
  | _, [], _, _, _, q, r => by cases (show _ = [] from q); cases r; exact ⟨_, .nil⟩
  | n, d :: ds, _, _, h, q, r => by
    obtain ⟨v, vr, rfl, q1, q2⟩ := q
    cases r with
    | cons r1 r2 =>
      simp only [okEs, Bool.and_eq_true] at h
      obtain ⟨as, ra⟩ := den_reads I hs n h.1 q1 r1
      obtain ⟨bs, rb⟩ := den_readss I hs n h.2 q2 r2
      exact ⟨_, .cons ra rb⟩
end
noncomputable def eqO (d1 d2 : D) : Option Sl := if okE 60 d1 && okE 60 d2 then some (.sh (.b (eqD d1 d2))) else none
noncomputable def neO (d1 d2 : D) : Option Sl := if okE 60 d1 && okE 60 d2 then some (.sh (.b (!eqD d1 d2))) else none
private theorem ox_eq (hu : X.A.units + 64 < cLine) : OpR X (compareOp .Eq) (rX X.K eqO) := by
  intro pins s σ H x y v u Q I rx ry q
  obtain ⟨F, d1, d2, r, hs, h1, h2, e, k⟩ := q
  unfold eqO at e
  split at e
  · rename_i hk
    simp only [Bool.and_eq_true] at hk
    cases e
    obtain ⟨as, ra⟩ := den_reads I hs 60 hk.1 h1 rx
    obtain ⟨bs, rb⟩ := den_reads I hs 60 hk.2 h2 ry
    refine eq_dataH ra rb (okE_shaped hk.1) (okE_shaped hk.2) hu ⟨.bl _, H, I, rfl, ?_⟩
    rw [eqv_toP]
    exact k _ F H (.refl hs) (.sh rfl)
  · cases e
private theorem ox_ne (hu : X.A.units + 64 < cLine) : OpR X (compareOp .NotEq) (rX X.K neO) := by
  intro pins s σ H x y v u Q I rx ry q
  obtain ⟨F, d1, d2, r, hs, h1, h2, e, k⟩ := q
  unfold neO at e
  split at e
  · rename_i hk
    simp only [Bool.and_eq_true] at hk
    cases e
    obtain ⟨as, ra⟩ := den_reads I hs 60 hk.1 h1 rx
    obtain ⟨bs, rb⟩ := den_reads I hs 60 hk.2 h2 ry
    refine ne_dataH ra rb (okE_shaped hk.1) (okE_shaped hk.2) hu ⟨.bl _, H, I, rfl, ?_⟩
    rw [eqv_toP]
    exact k _ F H (.refl hs) (.sh rfl)
  · cases e
noncomputable def isND : D → Bool
  | .n => true
  | _ => false
private theorem isND_of {K : PySem.W.Frag} {F : Hp} : ∀ {d : D} {v : V}, Den K F d v → decide (v = .non) = isND d
  | .n, _, q => by cases (show _ = V.non from q); rfl
  | .b _, _, q => by cases (show _ = V.bl _ from q); rfl
  | .i _, _, q => by cases (show _ = V.int _ from q); rfl
  | .s _, _, q => by cases (show _ = V.str _ from q); rfl
  | .t _, _, q => by obtain ⟨_, _, rfl, _⟩ := q; rfl
  | .l _, _, q => by obtain ⟨_, _, rfl, _⟩ := q; rfl
  | .d _ _, _, q => by obtain ⟨_, _, rfl, _⟩ := q; rfl
  | .x _ _ _, _, q => by obtain ⟨_, _, _, _, rfl, _⟩ := q; rfl
  | .o _ _ _, _, q => by obtain ⟨_, _, _, _, rfl, _⟩ := q; rfl
noncomputable def isO (d1 d2 : D) : Option Sl := if isND d2 then some (.sh (.b (isND d1))) else none
noncomputable def isnotO (d1 d2 : D) : Option Sl := if isND d2 then some (.sh (.b (!isND d1))) else none
private theorem isND_true {K : PySem.W.Frag} {F : Hp} {d : D} {v : V} (h : Den K F d v) (e : isND d = true) : v = .non := by
  cases d <;> first | exact h | cases e
private theorem ox_is : OpR X (compareOp .Is) (rX X.K isO) := by
  intro pins s σ H x y v u Q I rx ry q
  obtain ⟨F, d1, d2, r, hs, h1, h2, e, k⟩ := q
  unfold isO at e
  split at e
  · rename_i hk
    cases e
    exact op_isN pins s σ H x y v u Q I rx ry ⟨isND_true h2 hk, by rw [isND_of h1]; exact k _ F H (.refl hs) (.sh rfl)⟩
  · cases e
private theorem ox_isnot : OpR X (compareOp .IsNot) (rX X.K isnotO) := by
  intro pins s σ H x y v u Q I rx ry q
  obtain ⟨F, d1, d2, r, hs, h1, h2, e, k⟩ := q
  unfold isnotO at e
  split at e
  · rename_i hk
    cases e
    exact op_notN pins s σ H x y v u Q I rx ry ⟨isND_true h2 hk, by rw [isND_of h1]; exact k _ F H (.refl hs) (.sh rfl)⟩
  · cases e

private theorem atI_den {K : PySem.W.Frag} {F : Hp} {ds : List D} {vs : List V} {i : Int} {d : D} (h : DenL K F ds vs) (e : atI ds i = some d) : ∃ v, atI vs i = some v ∧ Den K F d v := by
  unfold atI at e ⊢
  rw [← h.length]
  cases z : ixN ds.length i with
  | none => rw [z] at e; cases e
  | some j =>
    rw [z] at e
    simp only [Option.bind_some] at e ⊢
    exact h.get e
noncomputable def ixD : D → D → Option Sl
  | .t xs, .i k => (atI xs k).map .sh
  | .l xs, .i k => (atI xs k).map .sh
  | .s x, .i k => if x.length ≤ sizeLine then (atI x.cps.toList k).map fun c => .sh (.s ⟨#[c]⟩) else none
  | _, _ => none
private theorem xx_seq : IxR X (rX X.K ixD) := by
  intro value slice pins s σ H x y v u Q I rx ry q hsub
  obtain ⟨F, d1, d2, r, hs, h1, h2, e, k⟩ := q
  unfold ixD at e
  split at e
  · rename_i xs i
    obtain ⟨d, e1, rfl⟩ := Option.map_eq_some_iff.mp e
    obtain ⟨p, vs, rfl, z1, z2⟩ := h1
    obtain ⟨w, e2, z3⟩ := atI_den z2 e1
    exact ix_tup value slice pins s σ H _ y v u Q I rx ry ⟨p, vs, i, w, rfl, h2, sq_mono_T hs z1, e2, k _ F H (.refl hs) (.sh z3)⟩ hsub
  · rename_i xs i
    obtain ⟨d, e1, rfl⟩ := Option.map_eq_some_iff.mp e
    obtain ⟨p, vs, rfl, z1, z2⟩ := h1
    obtain ⟨w, e2, z3⟩ := atI_den z2 e1
    exact ix_list value slice pins s σ H _ y v u Q I rx ry ⟨p, vs, i, w, rfl, h2, hs.seq z1, e2, k _ F H (.refl hs) (.sh z3)⟩ hsub
  · rename_i z i
    split at e
    · rename_i hl
      obtain ⟨c, e1, rfl⟩ := Option.map_eq_some_iff.mp e
      exact ix_str value slice pins s σ H _ y v u Q I rx ry ⟨z, i, c, h1, h2, hl, e1, k _ F H (.refl hs) (.sh rfl)⟩ hsub
    · cases e
  · cases e
private theorem px_ix {a b : Expr} {pos : Pos} {h : D → D → Option Sl} {f g : List Sl → Option Sl} (hr : IxR X (rX X.K h)) (ha : PX X a f) (hb : PX X b g) (hs : autoParam (PlainIx b) _root_.zt5) : PX X (.Subscript a b pos) (opF h f g) := PE.imp (pe_ix hr ha hb hs) op_imp

private theorem PO.imp {e : Option Expr} {t t' : TO} (h : PO X e t) (w : ∀ σ H Q, t' σ H Q → t σ H Q) : PO X e t' := fun pins s σ H Q I q => h pins s σ H Q I (w _ _ _ q)
end
end L3
namespace L3
open PySem PySem.Spec L2
open PyProof.Rows hiding St

noncomputable def rCX (K : PySem.W.Frag) (h : List D → Option Sl) : List V → Hp → VK → Prop := fun vs H Q => ∃ F ds r, Same F H ∧ DenL K F ds vs ∧ h ds = some r ∧ ∀ v F' H', Grow F H F' H' → Res K H F' H' r v → Q v H'
noncomputable def callF (h : List D → Option Sl) (g : List Sl → Option (List D)) (ρ : List Sl) : Option Sl := (g ρ).bind h
private theorem call_imp {K : PySem.W.Frag} {h : List D → Option Sl} {g : List Sl → Option (List D)} (σ : St) (H : Hp) (Q : VK) (q : tX K (callF h g) σ H Q) : tXs K g σ H fun vs H1 => rCX K h vs H1 Q := by
  obtain ⟨F, ρ, r, R, e, k⟩ := q
  unfold callF at e
  cases e1 : g ρ with
  | none => rw [e1] at e; cases e
  | some ds =>
    rw [e1] at e
    simp only [Option.bind_some] at e
    exact ⟨F, ρ, ds, R, e1, fun vs F1 H1 g1 q1 => ⟨F1, ds, r, g1.sub, q1, e, fun v F' H' g q => k v F' H' (g1.trans g) (q.weak g1.same)⟩⟩
section
variable {X : Cx} {x : Str} {p pos : Pos} {e : Expr} {es : List Expr} {id T : String} {h : List D → Option Sl} {g : List Sl → Option (List D)}
private theorem px_callB (hc : CallR X (.builtin id) (rCX X.K h)) (hg : Gl X x) (hm : X.mg x = none) (hv : bootBuiltins x = some (.builtin id)) (ha : PXs X (e :: es) g) (hn : autoParam (x ≠ "__name__") _root_.zt1) (hdb : autoParam ((x == ("__debug__" : Str)) = false) _root_.zt1)
    (he : autoParam (starEach (e :: es) X.env = (false, eval e X.env) :: starEach es X.env) _root_.zt2) (hpl : autoParam ((backTo pos (starEach es X.env)).any (·.1) = false) _root_.zt2) : PX X (.Call (.Name x p) (e :: es) [] pos) (callF h g) :=
  PE.imp (pe_callB hc hg hm hv ha hn hdb he hpl) call_imp
private theorem px_callTy (hc : CallR X (.type T) (rCX X.K h)) (hg : Gl X x) (hm : X.mg x = none) (hv : bootBuiltins x = some (.type T)) (ha : PXs X (e :: es) g) (hn : autoParam (x ≠ "__name__") _root_.zt1) (hdb : autoParam ((x == ("__debug__" : Str)) = false) _root_.zt1)
    (he : autoParam (starEach (e :: es) X.env = (false, eval e X.env) :: starEach es X.env) _root_.zt2) (hpl : autoParam ((backTo pos (starEach es X.env)).any (·.1) = false) _root_.zt2) : PX X (.Call (.Name x p) (e :: es) [] pos) (callF h g) :=
  PE.imp (pe_callTy hc hg hm hv ha hn hdb he hpl) call_imp

noncomputable def spX (K : PySem.W.Frag) (h : List D → Option Sl) : Sp := fun vs H Q _ => rCX K h vs H Q
private theorem px_call {k : Nat} {f : Addr} {fd : FuncData} {ps : List Str} (F : FnOk X.prog X.w X.K X.mg X.base CX0 k f fd ps (spX X.K h)) (hr : Room k X.A) (hg : Gl X x) (hm : X.mg x = some (.ref f)) (hk : PySem.W.keepIn X.K (.ref f) = true) (hb : Binds X.K fd ps [])
    (ha : PXs X (e :: es) g) (hdb : autoParam ((x == ("__debug__" : Str)) = false) _root_.zt1) (he : autoParam (starEach (e :: es) X.env = (false, eval e X.env) :: starEach es X.env) _root_.zt2) (hpl : autoParam ((backTo pos (starEach es X.env)).any (·.1) = false) _root_.zt2) :
    PX X (.Call (.Name x p) (e :: es) [] pos) (callF h g) :=
  PE.imp (pe_call F hr hg hm hk hb .nil pass0 ha hdb he hpl) fun σ H Q q => by
    have q1 := call_imp σ H Q q
    obtain ⟨F, ρ, ds, R, e, k⟩ := q1
    exact ⟨F, ρ, ds, R, e, fun vs F' H' g q => by
      show rCX X.K h (vs ++ []) H' Q
      rw [List.append_nil]
      exact k vs F' H' g q⟩

private theorem den1 {K : PySem.W.Frag} {F : Hp} {d : D} {vs : List V} (h : DenL K F [d] vs) : ∃ v, vs = [v] ∧ Den K F d v := by
  obtain ⟨v, r, rfl, h1, h2⟩ := h
  cases (show r = [] from h2)
  exact ⟨v, rfl, h1⟩
private theorem den2 {K : PySem.W.Frag} {F : Hp} {d d' : D} {vs : List V} (h : DenL K F [d, d'] vs) : ∃ v v', vs = [v, v'] ∧ Den K F d v ∧ Den K F d' v' := by
  obtain ⟨v, r, rfl, h1, h2⟩ := h
  obtain ⟨v', rfl, h3⟩ := den1 h2
  exact ⟨v, v', rfl, h1, h3⟩
noncomputable def lenB : List D → Option Sl
  | [.l xs] => some (.sh (.i xs.length))
  | [.t xs] => some (.sh (.i xs.length))
  | [.s x] => if x.length ≤ sizeLine then some (.sh (.i x.length)) else none
  | _ => none
private theorem cx_len : CallR X (.builtin "len") (rCX X.K lenB) := by
  intro pins s σ H xs us Q I r q
  obtain ⟨F, ds, rr, hs, hd, e, k⟩ := q
  unfold lenB at e
  split at e
  · cases e
    obtain ⟨v, rfl, p, vs, rfl, z1, z2⟩ := den1 hd
    exact call_len_seq pins s σ H _ us Q I r ⟨p, vs, rfl, .inl (hs.seq z1), k _ F H (.refl hs) (.sh (by rw [z2.length]; exact rfl))⟩
  · cases e
    obtain ⟨v, rfl, p, vs, rfl, z1, z2⟩ := den1 hd
    exact call_len_seq pins s σ H _ us Q I r ⟨p, vs, rfl, .inr (sq_mono_T hs z1), k _ F H (.refl hs) (.sh (by rw [z2.length]; exact rfl))⟩
  · split at e
    · rename_i hl
      cases e
      obtain ⟨v, rfl, z⟩ := den1 hd
      cases (show v = V.str _ from z)
      exact call_len_str pins s σ H _ us Q I r ⟨_, rfl, hl, k _ F H (.refl hs) (.sh rfl)⟩
    · cases e
  · cases e
noncomputable def absB : List D → Option Sl
  | [.i x] => some (.sh (.i (if x < 0 then -x else x)))
  | _ => none
private theorem cx_abs : CallR X (.builtin "abs") (rCX X.K absB) := by
  intro pins s σ H xs us Q I r q
  obtain ⟨F, ds, rr, hs, hd, e, k⟩ := q
  unfold absB at e
  split at e
  · cases e
    obtain ⟨v, rfl, z⟩ := den1 hd
    cases (show v = V.int _ from z)
    exact call_abs pins s σ H _ us Q I r ⟨_, rfl, k _ F H (.refl hs) (.sh rfl)⟩
  · cases e
noncomputable def maxB : List D → Option Sl
  | [.i x, .i y] => some (.sh (.i (if y > x then y else x)))
  | _ => none
noncomputable def minB : List D → Option Sl
  | [.i x, .i y] => some (.sh (.i (if y < x then y else x)))
  | _ => none
private theorem cx_max (hc : X.calm = true) : CallR X (.builtin "max") (rCX X.K maxB) := by
  intro pins s σ H xs us Q I r q
  obtain ⟨F, ds, rr, hs, hd, e, k⟩ := q
  unfold maxB at e
  split at e
  · cases e
    obtain ⟨v, v', rfl, z, z'⟩ := den2 hd
    cases (show v = V.int _ from z)
    cases (show v' = V.int _ from z')
    exact call_max2 hc pins s σ H _ us Q I r ⟨_, _, rfl, k _ F H (.refl hs) (.sh rfl)⟩
  · cases e
private theorem cx_min (hc : X.calm = true) : CallR X (.builtin "min") (rCX X.K minB) := by
  intro pins s σ H xs us Q I r q
  obtain ⟨F, ds, rr, hs, hd, e, k⟩ := q
  unfold minB at e
  split at e
  · cases e
    obtain ⟨v, v', rfl, z, z'⟩ := den2 hd
    cases (show v = V.int _ from z)
    cases (show v' = V.int _ from z')
    exact call_min2 hc pins s σ H _ us Q I r ⟨_, _, rfl, k _ F H (.refl hs) (.sh rfl)⟩
  · cases e
noncomputable def listB : List D → Option Sl
  | [.l xs] => some (.ac xs)
  | [.t xs] => some (.ac xs)
  | _ => none
private theorem cx_list : CallR X (.type "list") (rCX X.K listB) := by
  intro pins s σ H xs us Q I r q
  obtain ⟨F, ds, rr, hs, hd, e, k⟩ := q
  have fin : ∀ {vs : List V} {ds' : List D} (l : Addr), DenL X.K F ds' vs → H l = none → Q (.ref l) (upd H l (.lst vs)) ∨ rr ≠ .ac ds' := fun {vs ds'} l z hl => by
    by_cases hr : rr = .ac ds'
    · subst hr
      refine .inl (k _ F _ (.own hs hl _) ⟨⟨l, vs, rfl, upd_same, hs.free hl, z⟩, fun _ p' e' => ?_⟩)
      cases e'; exact hl
    · exact .inr hr
  unfold listB at e
  split at e
  · cases e
    obtain ⟨v, rfl, p, vs, rfl, z1, z2⟩ := den1 hd
    exact call_list_of pins s σ H _ us Q I r ⟨p, vs, rfl, .inl (hs.seq z1), fun l hl => (fin l z2 hl).resolve_right fun z => z rfl⟩
  · cases e
    obtain ⟨v, rfl, p, vs, rfl, z1, z2⟩ := den1 hd
    exact call_list_of pins s σ H _ us Q I r ⟨p, vs, rfl, .inr (sq_mono_T hs z1), fun l hl => (fin l z2 hl).resolve_right fun z => z rfl⟩
  · cases e

noncomputable def tyD : D → String
  | .n => "NoneType"
  | .b _ => "bool"
  | .i _ => "int"
  | .s _ => "str"
  | .t _ => "tuple"
  | .l _ => "list"
  | .d _ _ => "dict"
  | .x _ _ _ => "dict"
  | .o _ _ _ => "dict"
noncomputable def isXD : D → Bool
  | .x _ _ _ => true
  | .o _ _ _ => true
  | _ => false
noncomputable def subT (T n : String) : Bool := T == n || (T == "bool" && n == "int")
noncomputable def isiF (n : String) (f : List Sl → Option Sl) (ρ : List Sl) : Option Sl := (f ρ).bind fun r => if isXD r.toD = true then none else some (.sh (.b (subT (tyD r.toD) n)))
private theorem isi_ok {pins : List (Addr × Obj)} {σ : St} {H F : Hp} {s : Shared} {A : Around} {E : Value → Shared → Prop} {Q : Value → Shared → Prop} {c : Value} {b : Bool} (I : Inv X pins σ H s) (hs : Same F H) :
    ∀ {d : D} {v : V} {u : Value}, isXD d = false → Den X.K F d v → RelV v u → PySem.W.kitOne X.K (.type (tyD d)) c = some b → (∀ tk, Q (.bool b) { s with toks := tk }) → wpAny (model X.prog X.w) A (call (.builtin "isinstance") [u, c]) Q E s
  | .n, _, _, _, q, r, e, h => by cases (show _ = V.non from q); cases r; exact PySem.W.kia_one PySem.W.kitx_none I.kIn True.intro e (fun z => nomatch z) h
  | .b _, _, _, _, q, r, e, h => by cases (show _ = V.bl _ from q); cases r; exact PySem.W.kia_one PySem.W.kitx_bool I.kIn True.intro e (fun z => nomatch z) h
  | .i _, _, _, _, q, r, e, h => by cases (show _ = V.int _ from q); obtain ⟨t, rfl⟩ := r; exact PySem.W.kia_one PySem.W.kitx_int I.kIn True.intro e (fun z => nomatch z) h
  | .s _, _, _, _, q, r, e, h => by cases (show _ = V.str _ from q); obtain ⟨t, rfl⟩ := r; exact PySem.W.kia_one PySem.W.kitx_str I.kIn True.intro e (fun z => nomatch z) h
  | .t _, _, _, _, q, r, e, h => by
    obtain ⟨a, vs, rfl, h1, h2⟩ := q
    cases r
    obtain ⟨its, rv, ⟨o, ho, hc, _⟩, _⟩ := I.tuple (sq_mono_T hs h1)
    exact PySem.W.kia_one PySem.W.kitx_tuple I.kIn ⟨o, ho, hc⟩ e (fun z => nomatch z) h
  | .l _, _, _, _, q, r, e, h => by
    obtain ⟨a, vs, rfl, h1, h2⟩ := q
    cases r
    obtain ⟨its, rv, pl, _⟩ := I.list (hs.seq h1)
    obtain ⟨o, ho, hc, _⟩ := pl.isList
    exact PySem.W.kia_one PySem.W.kitx_list I.kIn ⟨o, ho, hc⟩ e (fun z => nomatch z) h
  | .x _ _ _, _, _, z, _, _, _, _ => by cases z
  | .o _ _ _, _, _, z, _, _, _, _ => by cases z
  | .d _ _, _, _, _, q, r, e, h => by
    obtain ⟨a, vs, rfl, h1, h3, h2⟩ := q
    cases r
    obtain ⟨_, _, vs', _, o, es, ep, ho, hx, _⟩ := I.hok a _ (hs _ _ h1)
    exact PySem.W.kia_one PySem.W.kitx_dict I.kIn ⟨o, ho, hx.1⟩ e (fun z => nomatch z) h
private theorem kit_types {K : PySem.W.Frag} {n : String} (hn : n ∈ ["int", "bool", "str", "list", "tuple", "dict"]) : ∀ d : D, PySem.W.kitOne K (.type (tyD d)) (.type n) = some (subT (tyD d) n) := by
  have all : ∀ n ∈ ["int", "bool", "str", "list", "tuple", "dict"], ∀ T ∈ ["NoneType", "bool", "int", "str", "tuple", "list", "dict"], PySem.W.kitOne K (.type T) (.type n) = some (subT T n) := by
    intro n hn T hT
    simp only [List.mem_cons, List.not_mem_nil, or_false] at hn hT
    rcases hn with rfl | rfl | rfl | rfl | rfl | rfl <;> rcases hT with rfl | rfl | rfl | rfl | rfl | rfl | rfl <;> rfl
  intro d
  exact all n hn _ (by cases d <;> simp [tyD])
private theorem px_isi {n : Str} {m : String} {a : Expr} {f : List Sl → Option Sl} {q : Pos} (ha : PX X a f) (hg : Gl X "isinstance") (hm : X.mg "isinstance" = none) (hgn : Gl X n) (hmn : X.mg n = none) (hv : bootBuiltins n = some (.type m))
    (hin : autoParam (m ∈ ["int", "bool", "str", "list", "tuple", "dict"]) _root_.zt1) (hn : autoParam (n ≠ "__name__") _root_.zt1) (hdb : autoParam ((n == ("__debug__" : Str)) = false) _root_.zt1)
    (he : autoParam (starEach [a, .Name n q] X.env = (false, eval a X.env) :: starEach [.Name n q] X.env) _root_.zt2) (he2 : autoParam (starEach [.Name n q] X.env = (false, eval (.Name n q) X.env) :: starEach [] X.env) _root_.zt2) (hpl : autoParam ((backTo pos (starEach [.Name n q] X.env)).any (·.1) = false) _root_.zt2) :
    PX X (.Call (.Name "isinstance" p) [a, .Name n q] [] pos) (isiF m f) := by
  have hc : CallR X (.builtin "isinstance") (fun xs H Q => ∃ F d v, Same F H ∧ xs = [v, .ty m] ∧ isXD d = false ∧ Den X.K F d v ∧ Q (.bl (subT (tyD d) m)) H) := by
    intro pins s σ H xs us Q I r q
    obtain ⟨F, d, v, hs, rfl, nx, hd, q⟩ := q
    obtain ⟨u, u', rfl, r1, r2⟩ := Vals.two r
    cases r2
    exact isi_ok I hs nx hd r1 (kit_types hin d) fun tk => ⟨.bl _, H, I.tok tk, rfl, q⟩
  refine PE.imp (pe_callB hc hg hm boot_isinstance (pa_cons ha (pa_cons (pe_bltn (v := .ty m) hgn hmn hv rfl hn hdb) pa_nil he2) he) (by decide) (by decide) he hpl) fun σ H Q zq9 => ?_
  obtain ⟨F, ρ, r, R, e, k⟩ := zq9
  unfold isiF at e
  obtain ⟨r', e1, e⟩ := Option.bind_eq_some_iff.mp e
  split at e
  · cases e
  rename_i nx
  cases e
  refine ⟨F, ρ, r', R, e1, fun v F1 H1 g1 q1 => ?_⟩
  obtain ⟨F2, g2, s2, den⟩ := q1.den g1
  exact ⟨F2, _, v, g2.sub, rfl, Bool.not_eq_true _ |>.mp nx, den, k _ F2 _ g2 (.sh rfl)⟩
end
end L3
namespace L3
open PySem PySem.Spec L2
open PyProof.Rows hiding St

structure Ex where
  c : Str
  ks : List Str
  vs : List D
noncomputable def ExDen (K : PySem.W.Frag) (F : Hp) (x : Ex) (C : Addr) (dx : Option Addr) : Prop := PySem.W.nsIn K mainGlobals x.c = some (some (.ref C)) ∧ ∃ us, XDc F dx x.ks us ∧ DenL K F x.vs us
private theorem ExDen.mono {K : PySem.W.Frag} {F F' : Hp} {x : Ex} {C : Addr} {dx : Option Addr} (h : Same F F') (q : ExDen K F x C dx) : ExDen K F' x C dx := let ⟨q1, us, q2, q3⟩ := q; ⟨q1, us, q2.mono h, q3.mono h⟩
inductive Out where
  | nx (ρ : List Sl) | bk (ρ : List Sl) | ct (ρ : List Sl) | rt (r : Sl) | ex (x : Ex) (ρ : List Sl)
structure RepS (K : PySem.W.Frag) (F₀ H₀ F H : Hp) (σ : St) (ρ : List Sl) : Prop where
  rep : Rep K F H σ ρ
  gr : Grow F₀ H₀ F H
  fresh : ∀ p, Held σ ρ p → H₀ p = none
private theorem RepS.grow {K : PySem.W.Frag} {F₀ H₀ F H F' H' : Hp} {σ : St} {ρ : List Sl} (R : RepS K F₀ H₀ F H σ ρ) (g : Grow F H F' H') : RepS K F₀ H₀ F' H' σ ρ := ⟨R.rep.grow g, R.gr.trans g, R.fresh⟩
private theorem not_held {σ : St} {ρ : List Sl} {p : Addr} (h : ∀ (i : Nat) (r : Sl), ρ[i]? = some r → r.own = false) : ¬ Held σ ρ p := fun ⟨i, r, e, o, _⟩ => by rw [h i r e] at o; cases o
private theorem vw_held {σ : St} {ρ : List Sl} {p : Addr} : ¬ Held σ (vw ρ) p := not_held fun i r e => by obtain ⟨r', _, rfl⟩ := map_get e; exact Sl.vw_own r'
private theorem RepS.frozen {K : PySem.W.Frag} {F₀ H₀ F H : Hp} {σ : St} {ρ : List Sl} (R : RepS K F₀ H₀ F H σ ρ) : RepS K F₀ H₀ (frzd σ ρ F H) H σ (vw ρ) := by
  refine ⟨R.rep.vw, ⟨R.gr.same, R.gr.ff.trans R.rep.frzSame, R.rep.frzSub, fun b e n => ?_⟩, fun p h => absurd h vw_held⟩
  by_cases h : Held σ ρ b
  · exact R.fresh b h
  · rw [frzd_not h] at n; exact R.gr.new b e n
private theorem Grow.rebase {F₀ H₀ F₁ H₁ F₂ H₂ : Hp} (a : Grow F₀ H₀ F₁ H₁) (b : Grow F₁ H₀ F₂ H₂) : Grow F₀ H₀ F₂ H₂ :=
  ⟨b.same, a.ff.trans b.ff, b.sub, fun c e n => by
    by_cases q : F₁ c = none
    · exact b.new c q n
    · exact a.new c e q⟩
private theorem RepS.rebase {K : PySem.W.Frag} {F₀ H₀ F₁ H₁ F H : Hp} {σ : St} {ρ : List Sl} (a : Grow F₀ H₀ F₁ H₁) (R : RepS K F₁ H₀ F H σ ρ) : RepS K F₀ H₀ F H σ ρ := ⟨R.rep, a.rebase R.gr, R.fresh⟩
private theorem RepS.based {K : PySem.W.Frag} {F₀ H₀ F H : Hp} {σ : St} {ρ : List Sl} (R : RepS K F₀ H₀ F H σ ρ) : RepS K F H₀ F H σ ρ := ⟨R.rep, ⟨R.gr.same, .refl _, R.gr.sub, fun _ e n => absurd e n⟩, R.fresh⟩

noncomputable def endO (X : Cx) (F₀ H₀ : Hp) (D : Ends) : Out → Prop
  | .nx ρ => ∀ F H σ, RepS X.K F₀ H₀ F H σ ρ → D.nx σ H
  | .bk ρ => ∀ F H σ, RepS X.K F₀ H₀ F H σ ρ → D.bk σ H
  | .ct ρ => ∀ F H σ, RepS X.K F₀ H₀ F H σ ρ → D.ct σ H
  | .rt r => ∀ v F H, Grow F₀ H₀ F H → Res X.K H₀ F H r v → D.rt v H
  | .ex x ρ => ∀ F H σ C dx e s', RepS X.K F₀ H₀ F H σ ρ → ExDen X.K F x C dx → Lies X σ H C dx e s' → X.xe e s'
noncomputable def tQ (X : Cx) (g : List Sl → Option Out) : TS := fun D σ H => ∃ F₀ H₀ F ρ o, RepS X.K F₀ H₀ F H σ ρ ∧ g ρ = some o ∧ endO X F₀ H₀ D o
noncomputable abbrev PQ (X : Cx) (st : Stmt) (g : List Sl → Option Out) : Prop := PS X st (tQ X g)
noncomputable abbrev PQs (X : Cx) (sts : List Stmt) (g : List Sl → Option Out) : Prop := PSs X sts (tQ X g)

section
variable {X : Cx} {st : Stmt} {rest : List Stmt} {e a b c : Expr} {es : List Expr} {pos : Pos}
private theorem PS.imp {t t' : TS} (h : PS X st t) (w : ∀ D σ H, t' D σ H → t D σ H) : PS X st t' := fun pins s σ H D I q => h pins s σ H D I (w _ _ _ q)
private theorem PSs.imp {sts : List Stmt} {t t' : TS} (h : PSs X sts t) (w : ∀ D σ H, t' D σ H → t D σ H) : PSs X sts t' := fun pins s σ H D I q => h pins s σ H D I (w _ _ _ q)

noncomputable def skipG (ρ : List Sl) : Option Out := some (.nx ρ)
noncomputable def seqG (g h : List Sl → Option Out) (ρ : List Sl) : Option Out := match g ρ with
  | some (.nx ρ') => h ρ'
  | o => o
private theorem qs_nil : PQs X [] skipG := PSs.imp pss_nil fun D σ H zq9 => by obtain ⟨F₀, H₀, F, ρ, o, R, e, k⟩ := zq9; cases e; exact k F H σ R
private theorem qs_one {g : List Sl → Option Out} (h : PQ X st g) : PQs X [st] g := pss_one h
private theorem qs_cons {g h : List Sl → Option Out} (h1 : PQ X st g) (h2 : PQs X rest h) : PQs X (st :: rest) (seqG g h) := PSs.imp (pss_cons h1 h2) fun D σ H zq9 => by
  obtain ⟨F₀, H₀, F, ρ, o, R, e, k⟩ := zq9
  unfold seqG at e
  split at e
  · rename_i ρ' e1
    exact ⟨F₀, H₀, F, ρ, .nx ρ', R, e1, fun F1 H1 σ1 R1 => ⟨F₀, H₀, F1, ρ', o, R1, e, k⟩⟩
  · rename_i hne
    cases o with
    | nx ρ' => exact absurd e (hne ρ')
    | bk ρ' => exact ⟨F₀, H₀, F, ρ, _, R, e, k⟩
    | ct ρ' => exact ⟨F₀, H₀, F, ρ, _, R, e, k⟩
    | rt r => exact ⟨F₀, H₀, F, ρ, _, R, e, k⟩
    | ex x ρ' => exact ⟨F₀, H₀, F, ρ, _, R, e, k⟩
noncomputable def Sl.flat : Sl → Bool
  | .sh .n => true
  | .sh (.b _) => true
  | .sh (.i _) => true
  | .sh (.s _) => true
  | _ => false
noncomputable def evS (f : List Sl → Option Sl) (ρ : List Sl) : Option (Sl × List Sl) := match f (er ρ) with
  | some r => some (r, ρ)
  | none => match f (vw ρ) with
    | some r => if r.flat then some (r, ρ) else some (r, vw ρ)
    | none => none
private theorem flat_den {K : PySem.W.Frag} {H₀ F H F' H' : Hp} {r : Sl} {v : V} (hf : r.flat = true) (q : Res K H₀ F H r v) : Res K H₀ F' H' r v := by
  refine ⟨?_, fun o => ?_⟩
  · have q1 := q.1
    cases r with
    | sh d => cases d <;> first | exact q1 | cases hf
    | _ => cases hf
  · cases r with
    | sh d => cases o
    | _ => cases hf
private theorem evS_ok {K : PySem.W.Frag} {f : List Sl → Option Sl} {F₀ H₀ F H : Hp} {σ : St} {ρ ρ' : List Sl} {r : Sl} {Q : VK} (R : RepS K F₀ H₀ F H σ ρ) (e : evS f ρ = some (r, ρ'))
    (k : ∀ v F' H', RepS K F₀ H₀ F' H' σ ρ' → Res K H F' H' r v → Same H H' → (∀ p, Held σ ρ' p → ∃ o, H p = some o) → Q v H') : tX K f σ H Q := by
  unfold evS at e
  split at e
  · rename_i r' e1
    cases e
    exact ⟨F, er ρ, r, R.rep.er, e1, fun v F' H' g q => k v F' H' (R.grow g) q g.same fun p h => (R.rep.heldFree h).2⟩
  · split at e
    · rename_i r' e1
      split at e
      · rename_i hf
        cases e
        refine ⟨_, vw ρ, r, R.rep.vw, e1, fun v F' H' g q => k v F H' (R.grow ⟨g.same, .refl _, R.rep.sub.trans g.same, fun _ e n => absurd e n⟩) (flat_den hf q) g.same fun p h => (R.rep.heldFree h).2⟩
      · cases e
        exact ⟨_, vw ρ, r, R.rep.vw, e1, fun v F' H' g q => k v F' H' (R.frozen.grow g) q g.same fun p h => absurd h vw_held⟩
    · cases e
private theorem held_set {σ : St} {ρ : List Sl} {i : Nat} {v : V} {r : Sl} {p : Addr} (h : Held (σ.set i (some v)) (ρ.set i r) p) : (r.own = true ∧ v = .ref p) ∨ Held σ ρ p := by
  obtain ⟨j, r', e, o, s⟩ := h
  by_cases z : i = j
  · subst z
    by_cases hl : i < ρ.length
    · rw [List.getElem?_set_self hl] at e
      cases e
      by_cases hl2 : i < σ.length
      · rw [List.getElem?_set_self hl2] at s
        cases s
        exact .inl ⟨o, rfl⟩
      · rw [List.getElem?_eq_none (by simpa using hl2)] at s; cases s
    · rw [List.getElem?_eq_none (by simpa using hl)] at e; cases e
  · rw [List.getElem?_set_ne z] at e s
    exact .inr ⟨j, r', e, o, s⟩
private theorem fresh_not {σ : L2.St} {ρ : List Sl} {H : Hp} {p : Addr} (hd : ∀ p, Held σ ρ p → ∃ o, H p = some o) (hn : H p = none) : ¬ Held σ ρ p := fun h => by
  obtain ⟨o, z⟩ := hd p h
  rw [hn] at z; cases z
private theorem RepS.store {K : PySem.W.Frag} {F₀ H₀ F H : Hp} {σ : St} {ρ : List Sl} {i : Nat} {v : V} {r : Sl} (R : RepS K F₀ H₀ F H σ ρ) (q : Own K F H r v) (ap : r.own = true → ∀ p, v = .ref p → ¬ Held σ ρ p ∧ H₀ p = none) : RepS K F₀ H₀ F H (σ.set i (some v)) (ρ.set i r) := by
  have hl := R.rep.len
  refine ⟨⟨R.rep.sub, fun j r' e n => ?_, fun j j' r1 r2 p e1 e2 o1 o2 s1 s2 => ?_, by simpa using hl⟩, R.gr, fun p h => ?_⟩
  · by_cases z : i = j
    · subst z
      have hi : i < ρ.length := by
        by_cases hl : i < ρ.length
        · exact hl
        · rw [List.getElem?_eq_none (by simpa using hl)] at e; cases e
      rw [List.getElem?_set_self hi] at e
      cases e
      exact ⟨v, List.getElem?_set_self (by rw [hl]; exact hi), q⟩
    · rw [List.getElem?_set_ne z] at e
      obtain ⟨w, h1, h2⟩ := R.rep.at_ j r' e n
      exact ⟨w, by rw [List.getElem?_set_ne z]; exact h1, h2⟩
  · by_cases z : i = j
    · by_cases z' : i = j'
      · rw [← z, ← z']
      · subst z
        rw [List.getElem?_set_ne z'] at e2 s2
        have hd : Held σ ρ p := ⟨j', r2, e2, o2, s2⟩
        have hi : i < ρ.length := by
          by_cases hl : i < ρ.length
          · exact hl
          · rw [List.getElem?_eq_none (by simpa using hl)] at e1; cases e1
        rw [List.getElem?_set_self hi] at e1
        rw [List.getElem?_set_self (by rw [hl]; exact hi)] at s1
        cases e1; cases s1
        exact absurd hd (ap o1 p rfl).1
    · by_cases z' : i = j'
      · subst z'
        rw [List.getElem?_set_ne z] at e1 s1
        have hd : Held σ ρ p := ⟨j, r1, e1, o1, s1⟩
        have hi : i < ρ.length := by
          by_cases hl : i < ρ.length
          · exact hl
          · rw [List.getElem?_eq_none (by simpa using hl)] at e2; cases e2
        rw [List.getElem?_set_self hi] at e2
        rw [List.getElem?_set_self (by rw [hl]; exact hi)] at s2
        cases e2; cases s2
        exact absurd hd (ap o2 p rfl).1
      · rw [List.getElem?_set_ne z] at e1 s1
        rw [List.getElem?_set_ne z'] at e2 s2
        exact R.rep.apart j j' r1 r2 p e1 e2 o1 o2 s1 s2
  · rcases held_set h with ⟨o, rfl⟩ | h
    · exact (ap o p rfl).2
    · exact R.fresh p h
noncomputable def setG (i : Nat) (f : List Sl → Option Sl) (ρ : List Sl) : Option Out := (evS f ρ).map fun q => .nx (q.2.set i q.1)
private theorem q_set {i : Nat} {x : Str} {pos' : Pos} {f : List Sl → Option Sl} (hN : X.N.Nodup) (hi : X.N[i]? = some x) (hx : Loc X.env.scope x) (he : PX X e f) (hs : autoParam (swapsWith e (some (.Name x pos')) pos.line X.env = pure false) _root_.zt2)
    (hf : autoParam (X.fn x = true ∨ X.env.scope.names.lookup x = some .local) _root_.zt0) : PQ X (.Assign [.Name x pos'] e pos) (setG i f) :=
  PS.imp (ps_set hN hi hx he hs hf) fun D σ H zq9 => by
    obtain ⟨F₀, H₀, F, ρ, o, R, e, k⟩ := zq9
    unfold setG at e
    obtain ⟨⟨r, ρ'⟩, e1, rfl⟩ := Option.map_eq_some_iff.mp e
    exact evS_ok R e1 fun v F' H' R' q s hd => k F' H' _ (R'.store q.1 fun o p ev => ⟨fresh_not hd (q.2 o p ev), R.gr.same.free (q.2 o p ev)⟩)

noncomputable def tG (K : PySem.W.Frag) (h : D → List Sl → Option (List Sl)) : TG := fun v σ H Q => ∃ F₀ H₀ F d ρ ρ', RepS K F₀ H₀ F H σ ρ ∧ Den K F d v ∧ h d ρ = some ρ' ∧ ∀ σ', RepS K F₀ H₀ F H σ' ρ' → Q σ' H
noncomputable def tGs (K : PySem.W.Frag) (h : List D → List Sl → Option (List Sl)) : TGs := fun vs σ H Q => ∃ F₀ H₀ F ds ρ ρ', RepS K F₀ H₀ F H σ ρ ∧ DenL K F ds vs ∧ h ds ρ = some ρ' ∧ ∀ σ', RepS K F₀ H₀ F H σ' ρ' → Q σ' H
noncomputable abbrev PGX (X : Cx) (tg : Expr) (h : D → List Sl → Option (List Sl)) : Prop := PG X tg (tG X.K h)
noncomputable abbrev PGXs (X : Cx) (tgs : List Expr) (h : List D → List Sl → Option (List Sl)) : Prop := PGs X tgs (tGs X.K h)
private theorem PG.imp {tg : Expr} {t t' : TG} (h : PG X tg t) (w : ∀ v σ H Q, t' v σ H Q → t v σ H Q) : PG X tg t' := fun pins s σ H v u Q I r q => h pins s σ H v u Q I r (w _ _ _ _ q)
private theorem PGs.imp {tg : List Expr} {t t' : TGs} (h : PGs X tg t) (w : ∀ v σ H Q, t' v σ H Q → t v σ H Q) : PGs X tg t' := fun pins s σ H v u Q I r q => h pins s σ H v u Q I r (w _ _ _ _ q)
noncomputable def nameG (i : Nat) (d : D) (ρ : List Sl) : Option (List Sl) := some (ρ.set i (.sh d))
private theorem pgx_name {i : Nat} {x : Str} (hN : X.N.Nodup) (hi : X.N[i]? = some x) (hx : Loc X.env.scope x) (hf : autoParam (X.fn x = true ∨ X.env.scope.names.lookup x = some .local) _root_.zt0) : PGX X (.Name x pos) (nameG i) :=
  PG.imp (pg_name hN hi hx hf) fun v σ H Q zq9 => by
    obtain ⟨F₀, H₀, F, d, ρ, ρ', R, q, e, k⟩ := zq9
    cases e
    exact k _ (R.store q fun o => by cases o)
noncomputable def nilG (ds : List D) (ρ : List Sl) : Option (List Sl) := match ds with
  | [] => some ρ
  | _ => none
noncomputable def consG (h : D → List Sl → Option (List Sl)) (hs : List D → List Sl → Option (List Sl)) (ds : List D) (ρ : List Sl) : Option (List Sl) := match ds with
  | d :: r => (h d ρ).bind (hs r)
  | [] => none
private theorem pgxs_nil : PGXs X [] nilG := PGs.imp pgs_nil fun v σ H Q zq9 => by
  obtain ⟨F₀, H₀, F, ds, ρ, ρ', R, q, e, k⟩ := zq9
  cases ds with
  | nil => cases e; exact ⟨q, k _ R⟩
  | cons d r => cases e
private theorem pgxs_cons {h : D → List Sl → Option (List Sl)} {hs : List D → List Sl → Option (List Sl)} (h1 : PGX X e h) (h2 : PGXs X es hs) (hst : autoParam ((assignEach (e :: es) X.env).map (·.2) = assign e X.env :: (assignEach es X.env).map (·.2)) _root_.zt2) : PGXs X (e :: es) (consG h hs) :=
  PGs.imp (pgs_cons h1 h2 hst) fun v σ H Q zq9 => by
    obtain ⟨F₀, H₀, F, ds, ρ, ρ', R, q, e, k⟩ := zq9
    cases ds with
    | nil => cases e
    | cons d r =>
      obtain ⟨w, wr, rfl, q1, q2⟩ := q
      unfold consG at e
      simp only at e
      cases e1 : h d ρ with
      | none => rw [e1] at e; cases e
      | some ρ1 =>
        rw [e1] at e
        exact ⟨w, wr, rfl, F₀, H₀, F, d, ρ, ρ1, R, q1, e1, fun σ1 R1 => ⟨F₀, H₀, F, r, ρ1, ρ', R1, q2, e, k⟩⟩
noncomputable def tupG (n : Nat) (hs : List D → List Sl → Option (List Sl)) (d : D) (ρ : List Sl) : Option (List Sl) := match d with
  | .t ds => if ds.length = n then hs ds ρ else none
  | _ => none
private theorem pgx_tup {kt : _} {hs : List D → List Sl → Option (List Sl)} {n : Nat} (hc : X.calm = true) (h : PGXs X es hs) (hn : autoParam ((assignEach es X.env).length = n) _root_.zt2) (hst : autoParam ((assignEach es X.env).findIdx? (·.1) = none) _root_.zt2) : PGX X (.Tuple es kt pos) (tupG n hs) :=
  PG.imp (pg_tup hc h hn hst) fun v σ H Q zq9 => by
    obtain ⟨F₀, H₀, F, d, ρ, ρ', R, q, e, k⟩ := zq9
    unfold tupG at e
    split at e
    · rename_i ds
      split at e
      · rename_i hl
        obtain ⟨p, vs, rfl, z1, z2⟩ := q
        exact ⟨p, vs, rfl, sq_mono_T R.rep.sub z1, by rw [← z2.length]; exact hl, F₀, H₀, F, ds, ρ, ρ', R, z2, e, k⟩
      · cases e
    · cases e
private theorem RepS.den {K : PySem.W.Frag} {F₀ H₀ H F' H' : Hp} {σ : St} {ρ' : List Sl} {r : Sl} {v : V} (s0 : Same H₀ H) (R' : RepS K F₀ H₀ F' H' σ ρ') (q : Res K H F' H' r v) (hd : ∀ p, Held σ ρ' p → ∃ o, H p = some o) :
    ∃ F2, RepS K F₀ H₀ F2 H' σ ρ' ∧ Same F' F2 ∧ Den K F2 r.toD v := by
  obtain ⟨q, nw⟩ := q
  cases ho : r.own with
  | true =>
    obtain ⟨p, o, e, h1, h2, h3⟩ := q.ref ho
    have np := nw ho p e
    obtain ⟨g2, s2⟩ := R'.gr.freeze (s0.free np) h1
    have ne : ¬ Held σ ρ' p := fun h => by obtain ⟨ob, z⟩ := hd p h; rw [np] at z; cases z
    refine ⟨_, ⟨⟨g2.sub, fun i r' e' n => ?_, R'.rep.apart, R'.rep.len⟩, g2, R'.fresh⟩, s2 h2, h3 _ (s2 h2) upd_same⟩
    obtain ⟨w, w1, w2⟩ := R'.rep.at_ i r' e' n
    refine ⟨w, w1, ?_⟩
    cases r' with
    | un => exact w2
    | sh d => exact Den.mono (s2 h2) w2
    | ac ds =>
      obtain ⟨p', vs, rfl, z1, z2, z3⟩ := w2
      refine ⟨p', vs, rfl, z1, ?_, z3.mono (s2 h2)⟩
      rw [upd_ne]; exact z2
      rintro rfl; exact ne ⟨i, _, e', rfl, w1⟩
    | ad ks ds =>
      obtain ⟨p', vs, rfl, z1, z2, z3, z4⟩ := w2
      refine ⟨p', vs, rfl, z1, ?_, z3, z4.mono (s2 h2)⟩
      rw [upd_ne]; exact z2
      rintro rfl; exact ne ⟨i, _, e', rfl, w1⟩
  | false =>
    cases r with
    | un => exact q.elim
    | sh d => exact ⟨F', R', .refl _, q⟩
    | ac ds => cases ho
    | ad ks ds => cases ho
noncomputable def retG (f : List Sl → Option Sl) (ρ : List Sl) : Option Out := match f (er ρ) with
  | some r => some (.rt r)
  | none => (f (vw ρ)).map .rt
private theorem q_ret {f : List Sl → Option Sl} (he : PX X e f) : PQ X (.Return (some e) pos) (retG f) := PS.imp (ps_ret he) fun D σ H zq9 => by
  obtain ⟨F₀, H₀, F, ρ, o, R, e, k⟩ := zq9
  unfold retG at e
  split at e
  · rename_i r e1
    cases e
    exact ⟨F, er ρ, r, R.rep.er, e1, fun v F' H' g q => k v F' H' (R.gr.trans g) (q.weak R.gr.same)⟩
  · obtain ⟨r, e1, rfl⟩ := Option.map_eq_some_iff.mp e
    exact ⟨_, vw ρ, r, R.rep.vw, e1, fun v F' H' g q => k v F' H' (R.frozen.gr.trans g) (q.weak R.gr.same)⟩
noncomputable def retV (i : Nat) (ρ : List Sl) : Option Out := match ρ[i]? with
  | some .un => none
  | some r => some (.rt r)
  | none => none
private theorem q_retV {i : Nat} {x : Str} {p : Pos} (h : PE X (.Name x p) (tVar i)) : PQ X (.Return (some (.Name x p)) pos) (retV i) := PS.imp (ps_ret h) fun D σ H zq9 => by
  obtain ⟨F₀, H₀, F, ρ, o, R, e, k⟩ := zq9
  unfold retV at e
  split at e
  · cases e
  · rename_i r hn hr
    cases e
    obtain ⟨v, h1, h2⟩ := R.rep.at_ i r hr (fun z => hn z)
    refine ⟨v, h1, k v F H R.gr ⟨h2, fun ho p' ev => R.fresh p' ⟨i, r, hr, ho, by rw [h1, ev]⟩⟩⟩
  · cases e

noncomputable def ifG (t : List Sl → Option Bool) (g h : List Sl → Option Out) (ρ : List Sl) : Option Out := match t (vw ρ) with
  | some true => g ρ
  | some false => h ρ
  | none => none
private theorem q_if {t : List Sl → Option Bool} {g h : List Sl → Option Out} {as bs : List Stmt} (hc : PXt X c t) (ha : PQs X as g) (hb : PQs X bs h) : PQ X (.If c as bs pos) (ifG t g h) := PS.imp (ps_if hc ha hb) fun D σ H zq9 => by
  obtain ⟨F₀, H₀, F, ρ, o, R, e, k⟩ := zq9
  have nxt : ∀ {F' H' : Hp}, Grow (frzd σ ρ F H) H F' H' → RepS X.K F₀ H₀ F H' σ ρ := fun {F' H'} g => R.grow ⟨g.same, .refl _, R.rep.sub.trans g.same, fun _ e n => absurd e n⟩
  unfold ifG at e
  split at e
  · rename_i e1
    refine ⟨_, vw ρ, true, R.rep.vw, e1, fun F1 H1 g1 => ?_⟩
    refine iteT ?_
    exact ⟨F₀, H₀, F, ρ, o, nxt g1, e, k⟩
  · rename_i e1
    refine ⟨_, vw ρ, false, R.rep.vw, e1, fun F1 H1 g1 => ?_⟩
    refine iteF ?_
    exact ⟨F₀, H₀, F, ρ, o, nxt g1, e, k⟩
  · cases e
end
end L3
namespace L3
open PySem PySem.Spec L2
open PyProof.Rows hiding St

private theorem get_set_inv {ρ : List Sl} {i j : Nat} {r r' : Sl} (h : (ρ.set i r)[j]? = some r') : (j = i ∧ r' = r ∧ i < ρ.length) ∨ (j ≠ i ∧ ρ[j]? = some r') := by
  by_cases z : i = j
  · subst z
    by_cases hl : i < ρ.length
    · rw [List.getElem?_set_self hl] at h; cases h; exact .inl ⟨rfl, rfl, hl⟩
    · rw [List.getElem?_eq_none (by simpa using hl)] at h; cases h
  · rw [List.getElem?_set_ne z] at h; exact .inr ⟨Ne.symm z, h⟩
private theorem RepS.mut {K : PySem.W.Frag} {F₀ H₀ F H : Hp} {σ : St} {ρ : List Sl} {i : Nat} {r r' : Sl} {p : Addr} {o' : HO} (R : RepS K F₀ H₀ F H σ ρ) (hr : ρ[i]? = some r) (ho : r.own = true) (hσ : σ[i]? = some (some (.ref p)))
    (q : Own K F (upd H p o') r' (.ref p)) : RepS K F₀ H₀ F (upd H p o') σ (ρ.set i r') := by
  have hd : Held σ ρ p := ⟨i, r, hr, ho, hσ⟩
  obtain ⟨fp, ob, hp⟩ := R.rep.heldFree hd
  have h0 := R.fresh p hd
  refine ⟨⟨fun b u e => ?_, fun j r1 e n => ?_, fun j j' r1 r2 a e1 e2 o1 o2 s1 s2 => ?_, by simpa using R.rep.len⟩, ⟨fun b u e => ?_, R.gr.ff, fun b u e => ?_, R.gr.new⟩, fun b h => ?_⟩
  · rw [upd_ne (ne_of_none e fp)]; exact R.rep.sub _ _ e
  · rcases get_set_inv e with ⟨rfl, rfl, _⟩ | ⟨z, e⟩
    · exact ⟨_, hσ, q⟩
    · obtain ⟨w, w1, w2⟩ := R.rep.at_ j r1 e n
      refine ⟨w, w1, ?_⟩
      cases r1 with
      | un => exact w2
      | sh d => exact w2
      | ac ds =>
        obtain ⟨p', vs, rfl, z1, z2, z3⟩ := w2
        refine ⟨p', vs, rfl, ?_, z2, z3⟩
        rw [upd_ne]; exact z1
        rintro rfl; exact z (R.rep.apart j i _ _ p' e hr rfl ho w1 hσ)
      | ad ks ds =>
        obtain ⟨p', vs, rfl, z1, z2, z3⟩ := w2
        refine ⟨p', vs, rfl, ?_, z2, z3⟩
        rw [upd_ne]; exact z1
        rintro rfl; exact z (R.rep.apart j i _ _ p' e hr rfl ho w1 hσ)
  · have c1 : ∃ r0, ρ[j]? = some r0 ∧ r0.own = true := by
      rcases get_set_inv e1 with ⟨rfl, rfl, _⟩ | ⟨z, e⟩
      · exact ⟨r, hr, ho⟩
      · exact ⟨_, e, o1⟩
    have c2 : ∃ r0, ρ[j']? = some r0 ∧ r0.own = true := by
      rcases get_set_inv e2 with ⟨rfl, rfl, _⟩ | ⟨z, e⟩
      · exact ⟨r, hr, ho⟩
      · exact ⟨_, e, o2⟩
    obtain ⟨_, a1, a2⟩ := c1
    obtain ⟨_, b1, b2⟩ := c2
    exact R.rep.apart j j' _ _ a a1 b1 a2 b2 s1 s2
  · rw [upd_ne (ne_of_none e h0)]; exact R.gr.same _ _ e
  · rw [upd_ne (ne_of_none e fp)]; exact R.rep.sub _ _ e
  · obtain ⟨j, r1, e, o, s⟩ := h
    rcases get_set_inv e with ⟨rfl, rfl, _⟩ | ⟨z, e⟩
    · rw [hσ] at s; cases s; exact h0
    · exact R.fresh b ⟨j, r1, e, o, s⟩
private theorem evS_slots {f : List Sl → Option Sl} {ρ ρ' : List Sl} {r : Sl} (e : evS f ρ = some (r, ρ')) : ρ' = ρ ∨ ρ' = vw ρ := by
  unfold evS at e
  split at e
  · cases e; exact .inl rfl
  · split at e
    · split at e
      · cases e; exact .inl rfl
      · cases e; exact .inr rfl
    · cases e
private theorem vw_get_own {ρ : List Sl} {i : Nat} {r : Sl} (h : (vw ρ)[i]? = some r) : r.own = false := by
  obtain ⟨r', _, rfl⟩ := map_get h
  exact Sl.vw_own r'
private theorem evS_own {f : List Sl → Option Sl} {ρ ρ' : List Sl} {r r' : Sl} {i : Nat} (e : evS f ρ = some (r, ρ')) (h : ρ'[i]? = some r') (o : r'.own = true) : ρ' = ρ := by
  rcases evS_slots e with z | z
  · exact z
  · rw [z] at h; rw [vw_get_own h] at o; cases o

section
variable {X : Cx} {e a b c : Expr} {es : List Expr} {pos apos cpos p1 : Pos}
noncomputable def appG (i : Nat) (f : List Sl → Option Sl) (ρ : List Sl) : Option Out := (evS f ρ).bind fun q => match q.2[i]? with
  | some (.ac ds) => if ds.length < 10000000 then some (.nx (q.2.set i (.ac (ds ++ [q.1.toD])))) else none
  | _ => none
private theorem q_append {i : Nat} {x : Str} {f : List Sl → Option Sl} (hv : PE X (.Name x p1) (tVar i)) (he : PX X e f)
    (hbase : autoParam (attributeBase (.Name x p1) "append" X.env (eval (.Name x p1) X.env) = eval (.Name x p1) X.env) _root_.zt2)
    (hfew : autoParam (((backTo cpos (starEach [e] X.env)).all (fun x => !x.1) && (backToKw cpos (keywordEach [] X.env)).all (fun x => x.1.isSome)
      && decide (([e] : List Expr).length + ([] : List Keyword).length + (if ([] : List Keyword).isEmpty then 0 else 1) < 30)) = true) _root_.zt2)
    (hline : autoParam ((apos.endLine == cpos.line) = true) _root_.zt2) (hs : autoParam (starEach [e] X.env = (false, eval e X.env) :: starEach [] X.env) _root_.zt2) (hplain : autoParam ((backTo cpos (starEach [] X.env)).any (·.1) = false) _root_.zt2)
    (hsw : autoParam (swapsWith (.Call (.Attribute (.Name x p1) "append" apos) [e] [] cpos) none pos.line X.env = pure false) _root_.zt2) :
    PQ X (.Expr (.Call (.Attribute (.Name x p1) "append" apos) [e] [] cpos) pos) (appG i f) :=
  PS.imp (ps_expr (pe_bm PySem.F.plainAttrs_list PySem.F.slot_list_append PySem.F.type_list_append mt_append hv (pa_cons he pa_nil hs) hbase hfew hline hs hplain) hsw) fun D σ H zq9 => by
    obtain ⟨F₀, H₀, F, ρ, o, R, e, k⟩ := zq9
    unfold appG at e
    cases e1 : evS f ρ with
    | none => rw [e1] at e; cases e
    | some q =>
      obtain ⟨r, ρ'⟩ := q
      rw [e1] at e
      simp only [Option.bind_some] at e
      split at e
      · rename_i ds hds
        split at e
        · rename_i hl
          cases e
          have z := evS_own e1 hds rfl
          subst z
          obtain ⟨v, w1, w2⟩ := R.rep.at_ i _ hds (by intro z; cases z)
          obtain ⟨p, vs, rfl, h1, h2, h3⟩ := id w2
          refine ⟨_, w1, .inl ⟨rfl, _, SqL.of h1⟩, evS_ok R e1 fun y F' H' R' q s hd => ?_⟩
          obtain ⟨F2, R2, s2, den⟩ := R'.den R.gr.same q hd
          have hv' : ds.length = vs.length := h3.length
          have hp : H' p = some (.lst vs) := s _ _ h1
          refine ⟨p, vs, y, rfl, rfl, hp, by rw [← hv']; exact Nat.lt_of_lt_of_le hl (by rw [sizeLine_eq]; decide), ?_⟩
          obtain ⟨v', w1', w2'⟩ := R2.rep.at_ i _ hds (by intro z; cases z)
          rw [w1] at w1'; cases w1'
          obtain ⟨p', vs', ev, g1, g2, g3⟩ := w2'
          cases ev
          rw [hp] at g1; cases g1
          refine k F2 _ σ (R2.mut hds rfl w1 ⟨p, _, rfl, upd_same, g2, g3.append (.cons den .nil)⟩)
        · cases e
      · cases e
noncomputable def ItOk (K : PySem.W.Frag) (F₁ : Hp) (J : It) (items : List D) : Prop := ∀ (i : Nat) (F H : Hp), Same F₁ F → Same F H →
  (∀ d, items[i]? = some d → J.go i H ∧ ∀ x H', J.yld i H x H' → ∃ F2, Grow F H F2 H' ∧ Den K F2 d x) ∧ (items.length ≤ i → J.stop i H)
noncomputable def iX (K : PySem.W.Frag) (f : List Sl → Option (List D)) : TI := fun σ H R => ∃ F ρ items, Rep K F H σ ρ ∧ f ρ = some items ∧ ∀ J F' H', Grow F H F' H' → ItOk K F' J items → R J H'
noncomputable abbrev PIX (X : Cx) (tg iter : Expr) (f : List Sl → Option (List D)) : Prop := PI X tg iter (iX X.K f)
variable {tg : Expr}
private theorem PI.imp {iter : Expr} {t t' : TI} (h : PI X tg iter t) (w : ∀ σ H R, t' σ H R → t σ H R) : PI X tg iter t' := fun pins s σ H R I q => h pins s σ H R I (w _ _ _ q)
noncomputable def forG (h : D → List Sl → Option (List Sl)) (g : List Sl → Option Out) : List D → List Sl → Option Out
  | [], ρ => some (.nx ρ)
  | d :: ds, ρ => match h d ρ with
    | none => none
    | some ρ1 => match g ρ1 with
      | some (.nx ρ2) => forG h g ds ρ2
      | some (.ct ρ2) => forG h g ds ρ2
      | some (.bk ρ2) => some (.nx ρ2)
      | some (.rt r) => some (.rt r)
      | some (.ex x ρ2) => some (.ex x ρ2)
      | none => none
noncomputable def forS (f : List Sl → Option (List D)) (h : D → List Sl → Option (List Sl)) (g : List Sl → Option Out) (ρ : List Sl) : Option Out := match f (er ρ) with
  | some items => forG h g items ρ
  | none => match f (vw ρ) with
    | some items => forG h g items (vw ρ)
    | none => none
private theorem for_ok {X : Cx} {h : D → List Sl → Option (List Sl)} {g : List Sl → Option Out} {J : It} {items : List D} {D' : Ends} {F₀ H₀ F₁ H₁ : Hp} {σ : St} {ρ : List Sl} {o : Out} (it : ItOk X.K F₁ J items) (R : RepS X.K F₀ H₀ F₁ H₁ σ ρ) (e : forG h g items ρ = some o) (k : endO X F₀ H₀ D' o) :
    ∃ W : Nat → Nat → St → Hp → Prop, (∃ m, W 0 m σ H₁) ∧ ∀ i m σ H, W i m σ H →
      (J.stop i H ∧ D'.nx σ H) ∨ (J.go i H ∧ ∃ N : St → Hp → Prop, (∀ σ' H', N σ' H' → ∃ m', m' < m ∧ W (i + 1) m' σ' H') ∧ ∀ x H', J.yld i H x H' → tG X.K h x σ H' fun σ2 H2 => tQ X g { D' with nx := N, ct := N, bk := D'.nx } σ2 H2) := by
  refine ⟨fun i m σ H => m = items.length - i ∧ i ≤ items.length ∧ ∃ F ρ, RepS X.K F₀ H₀ F H σ ρ ∧ Same F₁ F ∧ forG h g (items.drop i) ρ = some o, ⟨_, rfl, Nat.zero_le _, F₁, ρ, R, .refl _, e⟩, ?_⟩
  rintro i m σ H ⟨rfl, hi, F, ρ, R, s1, e⟩
  obtain ⟨go, stop⟩ := it i F H s1 R.rep.sub
  by_cases hlt : i < items.length
  · have hd : items[i]? = some items[i] := List.getElem?_eq_getElem hlt
    rw [List.drop_eq_getElem_cons hlt] at e
    obtain ⟨g1, g2⟩ := go _ hd
    unfold forG at e
    split at e
    · cases e
    · rename_i ρ1 e1
      refine .inr ⟨g1, fun σ' H' => ∃ F ρ, RepS X.K F₀ H₀ F H' σ' ρ ∧ Same F₁ F ∧ forG h g (items.drop (i + 1)) ρ = some o, fun σ' H' n => ⟨items.length - (i + 1), by omega, rfl, hlt, n⟩, fun x H' y => ?_⟩
      obtain ⟨F2, gr, den⟩ := g2 x H' y
      refine ⟨F₀, H₀, F2, _, ρ, ρ1, R.grow gr, den, e1, fun σ2 R2 => ?_⟩
      have b2 := R2.gr
      have s2 : Same F₁ F2 := s1.trans gr.ff
      split at e
      · rename_i ρ2 e2
        exact ⟨F2, H₀, F2, ρ1, .nx ρ2, R2.based, e2, fun F3 H3 σ3 R3 => ⟨F3, ρ2, R3.rebase b2, s2.trans R3.gr.ff, e⟩⟩
      · rename_i ρ2 e2
        exact ⟨F2, H₀, F2, ρ1, .ct ρ2, R2.based, e2, fun F3 H3 σ3 R3 => ⟨F3, ρ2, R3.rebase b2, s2.trans R3.gr.ff, e⟩⟩
      · rename_i ρ2 e2
        cases e
        exact ⟨F2, H₀, F2, ρ1, .bk ρ2, R2.based, e2, fun F3 H3 σ3 R3 => k F3 H3 σ3 (R3.rebase b2)⟩
      · rename_i r e2
        cases e
        exact ⟨F2, H₀, F2, ρ1, .rt r, R2.based, e2, fun v F3 H3 g3 q3 => k v F3 H3 (b2.rebase g3) q3⟩
      · rename_i x ρ2 e2
        cases e
        exact ⟨F2, H₀, F2, ρ1, .ex x ρ2, R2.based, e2, fun F3 H3 σ3 C dx ev s' R3 xd ly => k F3 H3 σ3 C dx ev s' (R3.rebase b2) xd ly⟩
      · cases e
  · have z : i = items.length := by omega
    subst z
    rw [List.drop_length] at e
    cases e
    exact .inl ⟨stop (Nat.le_refl _), k F H σ R⟩
private theorem q_for {iter : Expr} {body : List Stmt} {f : List Sl → Option (List D)} {h : D → List Sl → Option (List Sl)} {g : List Sl → Option Out} (hp : PassesOwn (model X.prog X.w) X.A X.env X.xe) (hc : X.calm = true) (hi : PIX X tg iter f) (hg : PGX X tg h) (hb : PQs X body g)
    (hs : autoParam (∀ x, foldedSetIterable iter X.env x = pure x) _root_.zt3) : PQ X (.For tg iter body [] pos) (forS f h g) :=
  PS.imp (ps_for hp hc hi hg hb hs) fun D' σ H zq9 => by
    obtain ⟨F₀, H₀, F, ρ, o, R, e, k⟩ := zq9
    unfold forS at e
    split at e
    · rename_i items e1
      exact ⟨F, er ρ, items, R.rep.er, e1, fun J F' H' gr it => for_ok it (R.grow gr) e k⟩
    · split at e
      · rename_i items e1
        exact ⟨_, vw ρ, items, R.rep.vw, e1, fun J F' H' gr it => for_ok it (R.frozen.grow gr) e k⟩
      · cases e

private theorem itok_list' {K : PySem.W.Frag} {F : Hp} {a : Addr} {vs : List V} {ds : List D} (h1 : SqL K F a vs) (h2 : DenL K F ds vs) : ItOk K F (Itl K a) ds := fun i F' H s1 s2 => by
  have q : SqL K H a vs := (s1.trans s2).seq h1
  refine ⟨fun d e => ?_, fun hl => ⟨vs, q, by rw [← h2.length]; exact hl⟩⟩
  obtain ⟨v, e1, den⟩ := h2.get e
  refine ⟨⟨vs, v, q, e1⟩, fun x H' zq9 => ?_⟩
  obtain ⟨eH, y⟩ := zq9
  subst eH
  have := y vs q
  rw [e1] at this; cases this
  exact ⟨F', .refl s2, den.mono s1⟩
private theorem itok_tup {K : PySem.W.Frag} {F : Hp} {a : Addr} {vs : List V} {ds : List D} (h1 : SqT K F a vs) (h2 : DenL K F ds vs) : ItOk K F (Itt K a) ds := fun i F' H s1 s2 => by
  have q : SqT K H a vs := sq_mono_T (s1.trans s2) h1
  refine ⟨fun d e => ?_, fun hl => ⟨vs, q, by rw [← h2.length]; exact hl⟩⟩
  obtain ⟨v, e1, den⟩ := h2.get e
  refine ⟨⟨vs, v, q, e1⟩, fun x H' zq9 => ?_⟩
  obtain ⟨eH, y⟩ := zq9
  subst eH
  have := y vs q
  rw [e1] at this; cases this
  exact ⟨F', .refl s2, den.mono s1⟩
private theorem itok_rng {K : PySem.W.Frag} {F : Hp} (lo : Int) (n : Nat) : ItOk K F (Itr lo n) ((List.range n).map fun k => D.i (lo + (k : Nat))) := fun i F' H s1 s2 => by
  refine ⟨fun d e => ?_, fun hl => ?_⟩
  · rw [List.getElem?_map] at e
    obtain ⟨m, e1, rfl⟩ := Option.map_eq_some_iff.mp e
    obtain ⟨h1, h2⟩ := List.getElem?_eq_some_iff.mp e1
    simp at h1 h2
    subst h2
    exact ⟨h1, fun x H' ⟨eH, y⟩ => by subst eH; subst y; exact ⟨F', .refl s2, rfl⟩⟩
  · show n ≤ i
    simpa using hl
noncomputable def iSeq (K : PySem.W.Frag) (tl : TE) : TI := fun σ H R => tl σ H fun x H1 => ∃ a, x = .ref a ∧ ((∃ xs, SqL K H1 a xs ∧ R (Itl K a) H1) ∨ (∃ xs, SqT K H1 a xs ∧ R (Itt K a) H1))
private theorem pi_seq {l : Expr} {tl : TE} (hl : PE X l tl) : PI X tg l (iSeq X.K tl) := by
  intro pins s σ H R I h
  refine thn (hl pins s σ H _ I h) fun v s1 zq9 => ?_
  obtain ⟨x, H1, I1, r1, q1⟩ := zq9
  obtain ⟨a, e, hq⟩ := q1
  subst e
  cases r1
  rcases hq with ⟨xs, hq, q⟩ | ⟨xs, hq, q⟩
  · obtain ⟨its, rv, p, hz⟩ := I1.list hq
    refine wpAny_pyIter_list p.isList ?_
    refine ⟨s1.heap.objs.size, [s1.heap.objs.size], _, _, H1, rfl, I1.kept (t' := s1.toks) fun b o e => Heap.get?_push_of_some _ e, turn_list a _, ⟨_, Heap.get?_push_size _ rfl, rfl, rfl⟩, fun b hb => ?_, q⟩
    have e : b = s1.heap.objs.size := by simpa using hb
    subst e
    exact I1.fpOk (Nat.le_refl _) (I1.hok.fresh (Nat.le_refl _))
  · obtain ⟨its, rv, p, hz⟩ := I1.tuple hq
    refine wpAny_pyIter_tuple (show s1.heap.IsTuple a its.toArray from p) ?_
    refine ⟨s1.heap.objs.size, [s1.heap.objs.size], _, _, H1, rfl, I1.kept (t' := s1.toks) fun b o e => Heap.get?_push_of_some _ e, turn_tuple a _, ⟨_, Heap.get?_push_size _ rfl, rfl, rfl⟩, fun b hb => ?_, q⟩
    have e : b = s1.heap.objs.size := by simpa using hb
    subst e
    exact I1.fpOk (Nat.le_refl _) (I1.hok.fresh (Nat.le_refl _))
noncomputable def seqD : D → Option (List D)
  | .l ds => some ds
  | .t ds => some ds
  | _ => none
noncomputable def itemsF (f : List Sl → Option Sl) (ρ : List Sl) : Option (List D) := (f ρ).bind fun r => seqD r.toD
private theorem pix_seq {l : Expr} {f : List Sl → Option Sl} (hl : PX X l f) : PIX X tg l (itemsF f) := PI.imp (pi_seq hl) fun σ H R zq9 => by
  obtain ⟨F, ρ, items, R', e, k⟩ := zq9
  unfold itemsF at e
  cases e1 : f ρ with
  | none => rw [e1] at e; cases e
  | some r =>
    rw [e1] at e
    simp only [Option.bind_some] at e
    refine ⟨F, ρ, r, R', e1, fun v F1 H1 g1 q1 => ?_⟩
    obtain ⟨F2, g2, s2, den⟩ := q1.den g1
    unfold seqD at e
    split at e
    · rename_i ds ed
      cases e
      rw [ed] at den
      obtain ⟨a, vs, rfl, h1, h2⟩ := den
      exact ⟨a, rfl, .inl ⟨vs, g2.sub.seq h1, k _ F2 H1 g2 (itok_list' h1 h2)⟩⟩
    · rename_i ds ed
      cases e
      rw [ed] at den
      obtain ⟨a, vs, rfl, h1, h2⟩ := den
      exact ⟨a, rfl, .inr ⟨vs, sq_mono_T g2.sub h1, k _ F2 H1 g2 (itok_tup h1 h2)⟩⟩
    · cases e
private theorem of_log62 {j : Int} (h : j.natAbs.log2 < 62) : -(2 ^ 62) ≤ j ∧ j < 2 ^ 62 := by
  have : j.natAbs < 2 ^ 62 := by
    by_cases z : j.natAbs = 0
    · rw [z]; decide
    · exact (Nat.log2_lt z).mp h
  constructor <;> omega
noncomputable def rng1F (g : List Sl → Option (List D)) (ρ : List Sl) : Option (List D) := match g ρ with
  | some [.i j] => if j.natAbs.log2 < 62 then some ((List.range j.toNat).map fun k => D.i (0 + (k : Nat))) else none
  | _ => none
private theorem pix_range1 {g : List Sl → Option (List D)} {q : Pos} (hg : Gl X "range") (hm : X.mg "range" = none) (ha : PXs X [a] g) (hs : autoParam (starEach [a] X.env = [(false, eval a X.env)]) _root_.zt2) : PIX X tg (.Call (.Name "range" q) [a] [] pos) (rng1F g) :=
  PI.imp (pi_range1 hg hm ha hs) fun σ H R zq9 => by
    obtain ⟨F, ρ, items, R', e, k⟩ := zq9
    unfold rng1F at e
    split at e
    · rename_i j e1
      split at e
      · rename_i hb
        cases e
        refine ⟨F, ρ, _, R', e1, fun vs F1 H1 g1 q1 => ?_⟩
        obtain ⟨v, rfl, q⟩ := den1 q1
        cases (show v = V.int _ from q)
        exact ⟨j, rfl, (of_log62 hb).1, (of_log62 hb).2, k _ F1 H1 g1 (itok_rng 0 _)⟩
      · cases e
    · cases e
end

noncomputable def fnF (a n : Nat) (g : List Sl → Option Out) (ds : List D) : Option Sl := if ds.length = a then (match g (ds.map .sh ++ List.replicate (n - a) .un) with
  | some (.rt r) => some r
  | some (.nx _) => some (.sh .n)
  | _ => none) else none
private theorem repS_start {K : PySem.W.Frag} {F H : Hp} {N : List Str} {vs : List V} {ds : List D} (s : Same F H) (q : DenL K F ds vs) : RepS K F H F H (L2.start N vs) (ds.map .sh ++ List.replicate (N.length - ds.length) .un) := by
  have hl := q.length
  have no : ∀ (i : Nat) (r : Sl), (ds.map Sl.sh ++ List.replicate (N.length - ds.length) Sl.un)[i]? = some r → r.own = false := fun i r e => by
    have := List.mem_of_getElem? e
    rcases List.mem_append.mp this with z | z
    · obtain ⟨d, _, rfl⟩ := List.mem_map.mp z; rfl
    · rw [List.eq_of_mem_replicate z]; rfl
  refine ⟨⟨s, fun i r e n => ?_, fun i j r r' p e _ o => ?_, ?_⟩, .refl s, fun p h => absurd h (not_held no)⟩
  · by_cases hi : i < ds.length
    · rw [List.getElem?_append_left (by simpa using hi), List.getElem?_map] at e
      obtain ⟨d, e1, rfl⟩ := Option.map_eq_some_iff.mp e
      obtain ⟨v, e2, den⟩ := q.get e1
      refine ⟨v, ?_, den⟩
      unfold L2.start
      rw [List.getElem?_append_left (by simp; omega), List.getElem?_map, e2]; rfl
    · rw [List.getElem?_append_right (by simpa using hi)] at e
      exact absurd (List.eq_of_mem_replicate (List.mem_of_getElem? e)) n
  · rw [no i r e] at o; cases o
  · unfold L2.start
    simp
    omega
noncomputable def fnX (a n : Nat) (g : List Sl → Option Out) (ds : List D) : Option Ex := if ds.length = a then (match g (ds.map .sh ++ List.replicate (n - a) .un) with
  | some (.ex x _) => some x
  | _ => none) else none
noncomputable def spXX (K : PySem.W.Frag) (h : List D → Option Sl) (hx : List D → Option Ex) : Sp := fun vs H Q E => rCX K h vs H Q ∨ ∃ F ds x, Same F H ∧ DenL K F ds vs ∧ hx ds = some x ∧ ∀ C dx F' H', Grow F H F' H' → ExDen K F' x C dx → E (.ref C) dx H'
section
variable {P : Program} {w : World} {K : PySem.W.Frag} {mg : Str → Option Value} {base : Heap}
private theorem fn_ok {x qual : Str} {st : Stmt} {f : Addr} {fd : FuncData} {N ps : List Str} {k a n : Nat} {g : List Sl → Option Out} (F : Fun K x qual st f fd) (S : FnScope N ps (defScope st)) (ha : ps.length = a) (hn : N.length = n)
    (hb : ∀ (cdv : Value) (A : Around) (outer : List Env) (s : Shared) (H : Hp) (E : XK), Room k (A.deeper (envOfC qual (defScope st) s.heap.objs.size f cdv)) →
      PQs (cxOf (CX1 P w) P w K mg base N qual (defScope st) f cdv A outer s H E) (defBody st) g) : FnOk P w K mg base (CX1 P w) (k + 1) f fd ps (spXX K (fnF a n g) (fnX a n g)) := by
  subst ha hn
  have len : ∀ vs H Q E, spXX K (fnF ps.length N.length g) (fnX ps.length N.length g) vs H Q E → vs.length = ps.length := fun vs H Q E h => by
    rcases h with ⟨F, ds, r, hs, hd, e, _⟩ | ⟨F, ds, x, hs, hd, e, _⟩
    · unfold fnF at e
      split at e
      · rename_i hl; rw [← hd.length]; exact hl
      · cases e
    · unfold fnX at e
      split at e
      · rename_i hl; rw [← hd.length]; exact hl
      · cases e
  obtain ⟨oc, od, kV, doc, pm, an, cdv, ct, osl, rfl, lk, hcd⟩ := F.ex
  refine fn_of lk hcd S len fun A outer s H vs Q E hr h => ⟨_, hb cdv A outer s H E hr, ?_⟩
  rcases h with ⟨F1, ds, r, hs, hd, e, k⟩ | ⟨F1, ds, x, hs, hd, e, k⟩
  · unfold fnF at e
    split at e
    · rename_i hl
      rw [← hl] at e
      split at e
      · rename_i r' e1
        cases e
        exact ⟨F1, H, F1, _, _, repS_start hs hd, e1, fun v F' H' g q => k v F' H' g q⟩
      · rename_i ρ' e1
        cases e
        exact ⟨F1, H, F1, _, _, repS_start hs hd, e1, fun F' H' σ' R => k .non F' H' R.gr (.sh rfl)⟩
      · cases e
    · cases e
  · unfold fnX at e
    split at e
    · rename_i hl
      rw [← hl] at e
      split at e
      · rename_i x' ρ' e1
        cases e
        exact ⟨F1, H, F1, _, _, repS_start hs hd, e1, fun F' H' σ' C dx ev s' R xd ly => ly.leave (CX := CX0) (k C dx F' H' R.gr xd)⟩
      · cases e
    · cases e
private theorem pown {N : List Str} {qual : Str} {scope : Scope} {f : Addr} {cd : Value} {A : Around} {outer : List Env} {s : Shared} {H : Hp} {E : XK} :
    PassesOwn (model P w) (cxOf (CX1 P w) P w K mg base N qual scope f cd A outer s H E).A (cxOf (CX1 P w) P w K mg base N qual scope f cd A outer s H E).env (cxOf (CX1 P w) P w K mg base N qual scope f cd A outer s H E).xe := PassesOwn.leaving
private theorem FnOk.quiet {f : Addr} {fd : FuncData} {ps : List Str} {k : Nat} {h : List D → Option Sl} {hx : List D → Option Ex} (F : FnOk P w K mg base (CX1 P w) k f fd ps (spXX K h hx)) : FnOk P w K mg base CX0 k f fd ps (spX K h) :=
  ⟨fun vs H Q E q => F.len vs H Q E (.inl q), fun A outer s H args us vs Q E hr e0 hb hv hs => codeAny_mono (F.run A outer s H args us vs Q E0 hr e0 hb hv (.inl hs)) fun r s' q => by
    cases r with
    | error e => obtain ⟨C, dx, H', _, z⟩ := q; exact z
    | ok fl => cases fl <;> exact q⟩
end
end L3
namespace L3
open PySem PySem.Spec L2
open PyProof.Rows hiding St

noncomputable def keyD : D → Option Key
  | .i x => some (.inl x)
  | .s x => some (.inr x)
  | _ => none
private theorem keyD_of {K : PySem.W.Frag} {F : Hp} {d : D} {k : Key} {v : V} (e : keyD d = some k) (h : Den K F d v) : v = kV k := by
  cases d <;> first | (cases e; exact h) | cases e
noncomputable def valD : List Key → List D → Key → Option D
  | k' :: ks, d :: ds, k => if k' = k then some d else valD ks ds k
  | _, _, _ => none
private theorem valD_none {K : PySem.W.Frag} {F : Hp} : ∀ {ks : List Key} {ds : List D} {vs : List V} {k : Key}, ks.length = vs.length → DenL K F ds vs → (valV (ks.zip vs) k).isSome = (valD ks ds k).isSome
  | [], _, _, _, _, _ => by simp [valV, valD]
  | _ :: _, [], _, _, hl, q => by cases (show _ = [] from q); simp at hl
  | k' :: ks, d :: ds, _, k, hl, q => by
    obtain ⟨v, r, rfl, q1, q2⟩ := q
    simp only [List.length_cons, Nat.add_right_cancel_iff] at hl
    by_cases e : k' = k
    · rw [List.zip_cons_cons, valV_pos e]; simp [valD, e]
    · rw [List.zip_cons_cons, valV_neg e]; simp only [valD, if_neg e]; exact valD_none hl q2
private theorem valD_some {K : PySem.W.Frag} {F : Hp} : ∀ {ks : List Key} {ds : List D} {vs : List V} {k : Key} {d : D}, ks.length = vs.length → DenL K F ds vs → valD ks ds k = some d → ∃ v, valV (ks.zip vs) k = some v ∧ Den K F d v
  | [], _, _, _, _, _, _, e => by simp [valD] at e
  | _ :: _, [], _, _, _, _, _, e => by simp [valD] at e
  | k' :: ks, d' :: ds, _, k, d, hl, q, e => by
    obtain ⟨v, r, rfl, q1, q2⟩ := q
    simp only [List.length_cons, Nat.add_right_cancel_iff] at hl
    by_cases z : k' = k
    · simp only [valD, if_pos z] at e
      cases e
      exact ⟨v, by rw [List.zip_cons_cons, valV_pos z], q1⟩
    · simp only [valD, if_neg z] at e
      obtain ⟨w, h1, h2⟩ := valD_some hl q2 e
      exact ⟨w, by rw [List.zip_cons_cons, valV_neg z]; exact h1, h2⟩
noncomputable def repD : List Key → List D → Key → D → List D
  | k' :: ks, d' :: ds, k, d => (if k' = k then d else d') :: repD ks ds k d
  | _, _, _, _ => []
noncomputable def repV : List Key → List V → Key → V → List V
  | k' :: ks, d' :: ds, k, d => (if k' = k then d else d') :: repV ks ds k d
  | _, _, _, _ => []
private theorem repV_zip : ∀ {ks : List Key} {vs : List V} {k : Key} {v : V}, ks.length = vs.length → (ks.zip vs).map (fun kv => if kv.1 = k then (kv.1, v) else kv) = ks.zip (repV ks vs k v) ∧ (repV ks vs k v).length = ks.length
  | [], [], _, _, _ => ⟨rfl, rfl⟩
  | [], _ :: _, _, _, h => by simp at h
  | _ :: _, [], _, _, h => by simp at h
  | k' :: ks, w :: vs, k, v, h => by
    simp only [List.length_cons, Nat.add_right_cancel_iff] at h
    obtain ⟨h1, h2⟩ := repV_zip (k := k) (v := v) h
    refine ⟨?_, by simp [repV, h2]⟩
    rw [List.zip_cons_cons, List.map_cons, h1]
    by_cases e : k' = k <;> simp [repV, e]
private theorem repD_den {K : PySem.W.Frag} {F : Hp} {d : D} {v : V} (q : Den K F d v) : ∀ {ks : List Key} {ds : List D} {vs : List V} {k : Key}, ks.length = vs.length → DenL K F ds vs → DenL K F (repD ks ds k d) (repV ks vs k v)
  | [], _, _, _, _, _ => by simp [repD, repV]; exact DenL.nil
  | _ :: _, [], _, _, hl, z => by cases (show _ = [] from z); simp at hl
  | k' :: ks, d' :: ds, _, k, hl, z => by
    obtain ⟨w, r, rfl, q1, q2⟩ := z
    simp only [List.length_cons, Nat.add_right_cancel_iff] at hl
    refine ⟨_, _, rfl, ?_, repD_den q hl q2⟩
    by_cases e : k' = k
    · simp only [if_pos e]; exact q
    · simp only [if_neg e]; exact q1
noncomputable def putD (ks : List Key) (ds : List D) (k : Key) (d : D) : Sl := if (valD ks ds k).isSome then .ad ks (repD ks ds k d) else .ad (ks ++ [k]) (ds ++ [d])
private theorem putD_own {K : PySem.W.Frag} {F H : Hp} {ks : List Key} {ds : List D} {vs : List V} {k : Key} {d : D} {v : V} {p : Addr} (hl : ks.length = vs.length) (q : DenL K F ds vs) (qd : Den K F d v) (fp : F p = none) :
    Own K F (upd H p (.dK (putK (ks.zip vs) k v))) (putD ks ds k d) (.ref p) := by
  have hn := valD_none (k := k) hl q
  unfold putD putK
  rw [valV_any, hn]
  by_cases c : (valD ks ds k).isSome = true
  · rw [if_pos c, if_pos c]
    obtain ⟨h1, h2⟩ := repV_zip (k := k) (v := v) hl
    exact ⟨p, repV ks vs k v, rfl, by rw [upd_same, h1], fp, h2.symm, repD_den qd hl q⟩
  · rw [if_neg c, if_neg c]
    refine ⟨p, vs ++ [v], rfl, ?_, fp, by simp [hl], q.append (.cons qd .nil)⟩
    rw [upd_same, List.zip_append hl]; rfl

section
variable {X : Cx} {e a b c : Expr} {pos apos p1 : Pos}
noncomputable def dnewF (_ : List Sl) : Option Sl := some (.ad [] [])
private theorem px_dnew : PX X (.Dict [] [] pos) dnewF := PE.imp pe_dnewK fun σ H Q ⟨F, ρ, r, R, e, k⟩ p hp => by
  cases e
  refine k _ F _ (.own R.sub hp _) ⟨⟨p, [], rfl, upd_same, R.sub.free hp, rfl, .nil⟩, fun _ p' e' => ?_⟩
  cases e'; exact hp
noncomputable def ixA (d1 d2 : D) : Option Sl := match d1 with
  | .d ks ds => (keyD d2).bind fun k => (valD ks ds k).map .sh
  | _ => ixD d1 d2
private theorem xx_any (hu : X.A.units + 1 < cLine) : IxR X (rX X.K ixA) := by
  intro value slice pins s σ H x y v u Q I rx ry q hsub
  obtain ⟨F, d1, d2, r, hs, h1, h2, e, k⟩ := q
  unfold ixA at e
  split at e
  · rename_i ks ds
    cases e1 : keyD d2 with
    | none => rw [e1] at e; cases e
    | some key =>
      rw [e1] at e
      simp only [Option.bind_some] at e
      obtain ⟨d, e2, rfl⟩ := Option.map_eq_some_iff.mp e
      obtain ⟨a, vs, rfl, z1, z3, z2⟩ := h1
      cases rx
      cases keyD_of e1 h2
      obtain ⟨w, hw, den⟩ := valD_some z3 z2 e2
      have g : DGet H a (kV key) (some w) := by rw [← hw]; exact DGet.k (hs _ _ z1)
      exact tail_any (dict_typeIs I g) PySem.F.slot_dict_getitem.lookup (d_getItem hu I g ry fun w' s3 I3 rw' => ⟨w, H, I3, rw', k _ F H (.refl hs) (.sh den)⟩) hsub
  · exact xx_seq value slice pins s σ H x y v u Q I rx ry ⟨F, d1, d2, r, hs, h1, h2, e, k⟩ hsub
noncomputable def inD (d1 d2 : D) : Option Bool := match d2 with
  | .d ks ds => (keyD d1).map fun k => (valD ks ds k).isSome
  | .s y => match d1 with
    | .s x => some (!(Builtin.Str.occurrences y x 0 y.length 1).isEmpty)
    | _ => none
  | _ => none
noncomputable def inO (d1 d2 : D) : Option Sl := (inD d1 d2).map fun b => .sh (.b b)
private theorem ox_in (hu : X.A.units + 1 < cLine) : OpR X (compareOp .In) (rX X.K inO) := by
  intro pins s σ H x y v u Q I rx ry q
  obtain ⟨F, d1, d2, r, hs, h1, h2, e, k⟩ := q
  obtain ⟨b, e0, rfl⟩ := Option.map_eq_some_iff.mp e
  clear e
  unfold inD at e0
  split at e0
  · rename_i ks ds
    obtain ⟨key, e1, rfl⟩ := Option.map_eq_some_iff.mp e0
    obtain ⟨a, vs, rfl, z1, z3, z2⟩ := h2
    cases ry
    cases keyD_of e1 h1
    refine d_in hu I (DGet.k (hs _ _ z1)) rx fun s' I' => ⟨.bl _, H, I', rfl, ?_⟩
    rw [valD_none z3 z2]
    exact k _ F H (.refl hs) (.sh rfl)
  · split at e0
    · cases e0
      exact op_in_str pins s σ H x y v u Q I rx ry ⟨_, _, h1, h2, k _ F H (.refl hs) (.sh rfl)⟩
    · cases e0
  · cases e0
noncomputable def rSetA : V → V → V → Hp → (Hp → Prop) → Prop := fun o i v H Q => rSetL o i v H Q ∨ ∃ a H4, o = .ref a ∧ DPut H a i v H4 ∧ Q H4
private theorem set_any (hu : X.A.units + 1 < cLine) : PSet X rSetA := by
  intro pins s σ H o i v ov iv u Q I ro ri rv h
  rcases h with h | ⟨a, H4, rfl, g, q⟩
  · exact set_list pins s σ H o i v ov iv u Q I ro ri rv h
  · cases ro
    exact d_setItem hu I g ri rv fun s4 I4 => ⟨H4, I4, q⟩
noncomputable def stB (i : Nat) (q : Sl × List Sl) (s r : Sl) : Option Out := match s with
  | .ac ds => (match r with
    | .sh (.i n) => (ixN ds.length n).map fun j => .nx (q.2.set i (.ac (ds.set j q.1.toD)))
    | _ => none)
  | .ad ks ds => (match r with
    | .sh d => (keyD d).bind fun k => if ds.length < 10000000 then some (.nx (q.2.set i (putD ks ds k q.1.toD))) else none
    | _ => none)
  | _ => none
noncomputable def stA (i : Nat) (fk fe : List Sl → Option Sl) (ρ : List Sl) : Option Out := (evS fe ρ).bind fun q => (q.2[i]?).bind fun s => (fk (vw q.2)).bind fun r => stB i q s r
private theorem q_storeA {i : Nat} {x : Str} {j : Expr} {fk fe : List Sl → Option Sl} (hu : X.A.units + 1 < cLine) (hv : PE X (.Name x p1) (tVar i)) (hk : PX X j fk) (he : PX X e fe)
    (ha : autoParam (∀ v, assign (.Subscript (.Name x p1) j apos) X.env v = (do
      let ov ← holding [v] (eval (.Name x p1) X.env)
      let iv ← holding [v, ov] (eval j X.env)
      standAt apos
      holding [v, ov, iv] (setItem ov iv v)
      release [v, ov, iv] [])) _root_.zt3)
    (hs : autoParam (swapsWithSole [.Subscript (.Name x p1) j apos] e pos.line X.env = pure false) _root_.zt2) (hw : autoParam (swappedStores [.Subscript (.Name x p1) j apos] e X.env = pure none) _root_.zt2)
    (h1 : autoParam ((assignEach [.Subscript (.Name x p1) j apos] X.env).map (·.2) = [assign (.Subscript (.Name x p1) j apos) X.env]) _root_.zt2) :
    PQ X (.Assign [.Subscript (.Name x p1) j apos] e pos) (stA i fk fe) :=
  PS.imp (ps_asg he (pg_sub hv hk (set_any hu) ha) hs hw h1) fun D' σ H zq9 => by
    obtain ⟨F₀, H₀, F, ρ, o, R, e, k⟩ := zq9
    unfold stA at e
    cases e1 : evS fe ρ with
    | none => rw [e1] at e; cases e
    | some q =>
      obtain ⟨r, ρ'⟩ := q
      rw [e1] at e
      simp only [Option.bind_some] at e
      have go : ∀ {r0 : Sl} {dk : D} (hds : ρ'[i]? = some r0) (ho : r0.own = true) (hk' : fk (vw ρ') = some (.sh dk)) (hfl : Sl.flat (.sh dk) = true),
          (∀ (F2 H3 : Hp) (y z : V), RepS X.K F₀ H₀ F2 H3 σ ρ' → Den X.K F2 r.toD y → Den X.K F2 dk z → ∀ v, σ[i]? = some (some v) → Own X.K F2 H3 r0 v → rSetA v z y H3 fun H4 => D'.nx σ H4) →
          tAsg (tX X.K fe) (gSub (tVar i) (tX X.K fk) rSetA) D' σ H := fun {r0 dk} hds ho hk' hfl fin => by
        refine evS_ok R e1 fun y F' H' R' q s hd => ?_
        obtain ⟨F2, R2, s2, den⟩ := R'.den R.gr.same q hd
        obtain ⟨v, w1, w2⟩ := R2.rep.at_ i _ hds (by intro z; subst z; cases ho)
        refine ⟨v, w1, _, vw ρ', _, R2.rep.vw, hk', fun z F3 H3 g3 q3 => ?_⟩
        have g4 : Grow F2 H' F2 H3 := ⟨g3.same, .refl _, R2.rep.sub.trans g3.same, fun _ e n => absurd e n⟩
        exact fin F2 H3 y z (R2.grow g4) den (flat_den (F' := F2) (H' := H3) hfl q3).1 v w1 (w2.mono g4)
      obtain ⟨r0, hds, e⟩ := Option.bind_eq_some_iff.mp e
      obtain ⟨t0, hk', e⟩ := Option.bind_eq_some_iff.mp e
      cases r0 with
      | ac ds =>
        cases t0 with
        | sh dk =>
          cases dk with
          | i n =>
            obtain ⟨m, e3, rfl⟩ := Option.map_eq_some_iff.mp e
            refine go hds rfl hk' rfl fun F2 H3 y z R3 den dz v w1 w2 => ?_
            obtain ⟨p, vs, rfl, h1, h2, h3⟩ := w2
            refine .inl ⟨p, vs, n, m, rfl, dz, h1, by rw [← h3.length]; exact e3, ?_⟩
            exact k F2 _ σ (R3.mut hds rfl w1 ⟨p, _, rfl, upd_same, h2, h3.set den m⟩)
          | _ => cases e
        | _ => cases e
      | ad ks ds =>
        cases t0 with
        | sh dk =>
          obtain ⟨kk, e2, e⟩ := Option.bind_eq_some_iff.mp e
          by_cases hl : ds.length < 10000000
          · rw [if_pos hl] at e
            cases e
            have hfl : Sl.flat (.sh dk) = true := by cases dk <;> first | rfl | cases e2
            refine go hds rfl hk' hfl fun F2 H3 y z R3 den dz v w1 w2 => ?_
            obtain ⟨p, vs, rfl, h1, h2, h4, h3⟩ := w2
            have hz : (ks.zip vs).length < sizeLine := by
              rw [List.length_zip, ← h3.length, h4, ← h3.length, Nat.min_self]
              exact Nat.lt_of_lt_of_le hl (by rw [sizeLine_eq]; decide)
            refine .inr ⟨p, _, rfl, ?_, k F2 _ σ (R3.mut hds rfl w1 (putD_own h4 h3 den h2))⟩
            rw [keyD_of e2 dz]
            exact DPut.k h1 hz
          · rw [if_neg hl] at e
            cases e
        | _ => cases e
      | _ => cases e

noncomputable def negF (f : List Sl → Option Sl) (ρ : List Sl) : Option Sl := match f ρ with
  | some (.sh (.i x)) => some (.sh (.i (-x)))
  | _ => none
private theorem px_neg {f : List Sl → Option Sl} (ha : PX X a f) : PX X (.UnaryOp .USub a pos) (negF f) := PE.imp (pe_un un_neg ha) fun σ H Q zq9 => by
  obtain ⟨F, ρ, r, R, e, k⟩ := zq9
  unfold negF at e
  split at e
  · rename_i x e1
    cases e
    exact ⟨F, ρ, _, R, e1, fun v F1 H1 g1 q1 => ⟨x, q1.1, k _ F1 H1 g1 (.sh rfl)⟩⟩
  · cases e
noncomputable abbrev mulD := mulI
private theorem ox_mul : OpR X (binaryOp .Mult) (rX X.K mulD) := ox_mulI

noncomputable def CI (K : PySem.W.Frag) (mg : Str → Option Value) (x : Str) (d : D) : Prop := ∃ u v, mg x = some u ∧ RelV v u ∧ ∀ F, Den K F d v
private theorem px_cst {x : Str} {d : D} (h : CI X.K X.mg x d) (hg : Gl X x) (hdb : autoParam ((x == ("__debug__" : Str)) = false) _root_.zt1) : PX X (.Name x pos) (cF d) := by
  obtain ⟨u, v, h1, h2, h3⟩ := h
  exact px_glob hg h1 h2 h3 hdb
end

noncomputable def FD (K : PySem.W.Frag) (mg : Str → Option Value) (x : Str) (st : Stmt) (ps : List Str) : Prop := ∃ f fd, Fun K x x st f fd ∧ Binds K fd ps [] ∧ mg x = some (.ref f)
noncomputable def FX (P : Program) (w : World) (K : PySem.W.Frag) (mg : Str → Option Value) (base : Heap) (k : Nat) (x : Str) (ps : List Str) (h : List D → Option Sl) (hx : List D → Option Ex) : Prop :=
  ∃ f fd, FnOk P w K mg base (CX1 P w) k f fd ps (spXX K h hx) ∧ Binds K fd ps [] ∧ PySem.W.keepIn K (.ref f) = true ∧ mg x = some (.ref f)
section
variable {P : Program} {w : World} {K : PySem.W.Frag} {mg : Str → Option Value} {base : Heap}
private theorem FX.mono {j k : Nat} {x : Str} {ps : List Str} {h : List D → Option Sl} {hx : List D → Option Ex} (F : FX P w K mg base j x ps h hx) (l : j ≤ k) : FX P w K mg base k x ps h hx := by
  obtain ⟨f, fd, h1, h2, h3, h4⟩ := F
  exact ⟨f, fd, h1.mono l, h2, h3, h4⟩
private theorem FD.ok {x : Str} {st : Stmt} {N ps : List Str} {k a n : Nat} {g : List Sl → Option Out} (F : FD K mg x st ps) (S : FnScope N ps (defScope st)) (ha : ps.length = a) (hn : N.length = n)
    (hb : ∀ {f : Addr} (cdv : Value) (A : Around) (outer : List Env) (s : Shared) (H : Hp) (E : XK), Room k (A.deeper (envOfC x (defScope st) s.heap.objs.size f cdv)) →
      PQs (cxOf (CX1 P w) P w K mg base N x (defScope st) f cdv A outer s H E) (defBody st) g) : FX P w K mg base (k + 1) x ps (fnF a n g) (fnX a n g) := by
  obtain ⟨f, fd, F, b, m⟩ := F
  exact ⟨f, fd, fn_ok F S ha hn fun cdv A outer s H E hr => hb cdv A outer s H E hr, b, F.kp, m⟩
end
section
variable {X : Cx} {x : Str} {p pos : Pos} {e : Expr} {es : List Expr} {h : List D → Option Sl} {hx : List D → Option Ex} {g : List Sl → Option (List D)} {k : Nat} {ps : List Str}
private theorem px_fx (F : FX X.prog X.w X.K X.mg X.base k x ps h hx) (hr : Room k X.A) (hg : Gl X x) (ha : PXs X (e :: es) g) (hdb : autoParam ((x == ("__debug__" : Str)) = false) _root_.zt1) (he : autoParam (starEach (e :: es) X.env = (false, eval e X.env) :: starEach es X.env) _root_.zt2)
    (hpl : autoParam ((backTo pos (starEach es X.env)).any (·.1) = false) _root_.zt2) : PX X (.Call (.Name x p) (e :: es) [] pos) (callF h g) := by
  obtain ⟨f, fd, h1, h2, h3, h4⟩ := F
  exact px_call (FnOk.quiet h1) hr hg h4 h3 h2 ha hdb he hpl
end
private theorem law_sp {K : PySem.W.Frag} {H : Hp} {a : Addr} {ns : List Int} {h : List D → Option Sl} {E : XK} (hS : SqL K H a (ns.map V.int)) (ht : h [.l (ns.map D.i)] = some (.sh (.b true))) : spX K h [.ref a] H (fun v _ => v = .bl true) E :=
  ⟨H, [.l (ns.map D.i)], .sh (.b true), .refl _, .cons (show Den K H (.l (ns.map D.i)) (.ref a) from ⟨a, _, rfl, hS, .ints ns⟩) .nil, ht, fun _ _ _ _ q => q.1⟩
end L3
namespace L3
open PySem PySem.Spec L2
open PyProof.Rows hiding St

section
variable {prog : Program} {w : World} {A : Around} {R : Result → Shared → Prop} {s : Shared}
private theorem compLoop_gen {elt target iter : Expr} {ifs : List Expr} {scope : Scope} {pos : Pos} {it acc : Value} {env : Env} (I : Nat → Shared → Prop)
    (turn : ∀ n s, I n s → wpAny (model prog w) A (pyNext it) (fun r s₁ => match r with
      | none => R (.ok .next) s₁
      | some v => wpAny (model prog w) A (letOwnedTupleGo target it v) (fun _ s₁' => wpAny (model prog w) A (assign target env v) (fun _ s₂ =>
          wpAny (model prog w) A (forIn ifs true fun c r => if r = true then do let ok ← isTrue c env (eval c env); pure (ForInStep.yield ok) else pure (ForInStep.yield r)) (fun ok s₃ =>
            if ok = true then wpAny (model prog w) A (eval elt env) (fun x s₄ =>
              wpAny (model prog w) A (call (.builtin "list.append") [acc, x]) (fun _ s₅ => ∃ m, m < n ∧ I m s₅) (fun _ _ => False) s₄) (fun _ _ => False) s₃
            else ∃ m, m < n ∧ I m s₃) (fun _ _ => False) s₂) (fun _ _ => False) s₁') (fun _ _ => False) s₁) (fun _ _ => False) s)
    (n : Nat) (h : I n s) : codeAny (model prog w) A (.compLoop (.ListComp elt [⟨target, iter, ifs, 0⟩] scope pos) 0 it acc env) R s := by
  refine codeAny_loop rfl I (fun n s hI => ?_) n h
  show wpAny _ A ((compTurn (.ListComp elt [⟨target, iter, ifs, 0⟩] scope pos) 0 it acc env).onRaise (fun x => do noteFrame x env; theTreesLotGoes x)) _ _ s
  refine wpAny_noted ?_
  rw [compTurn_list]
  refine wpAny_bind (wpAny_standAt (wpAny_bind (wpAny_mono (turn n s hI) (fun r s₁ h₁ => ?_) fun _ _ h' => h'.elim)))
  cases r with
  | none => exact wpAny_pure h₁
  | some v =>
    refine wpAny_bind (wpAny_mono h₁ (fun _ s₁' h₁' => ?_) fun _ _ h' => h'.elim)
    refine wpAny_bind (wpAny_mono h₁' (fun _ s₂ h₂ => wpAny_bind (wpAny_mono h₂ (fun ok s₃ h₃ => ?_) fun _ _ h' => h'.elim)) fun _ _ h' => h'.elim)
    cases ok with
    | false => exact wpAny_pure ⟨rfl, h₃⟩
    | true =>
      exact wpAny_bind (wpAny_bind (wpAny_mono h₃ (fun x s₄ h₄ => wpAny_bind (wpAny_mono h₄ (fun _ s₅ h₅ => wpAny_pure (wpAny_pure ⟨rfl, h₅⟩)) fun _ _ h' => h'.elim)) fun _ _ h' => h'.elim))
end

noncomputable abbrev compCx (X : Cx) (N' : List Str) (cenv : Env) (s₀ : Shared) (H₀ : Hp) (ex : List Addr) : Cx :=
  { X with N := N', env := cenv, s₀ := s₀, H₀ := H₀, outer := X.stack, ex := ex, fn := fun _ => false, pn := [], xe := fun _ _ => False }
noncomputable def PTl (X : Cx) (ifs : List Expr) (t : TT) : Prop :=
  ∀ (pins : List (Addr × Obj)) (s : Shared) (σ : St) (H : Hp) (Q : Bool → Hp → Prop), Inv X pins σ H s → t σ H Q →
    wpAny (model X.prog X.w) X.A (forIn ifs true fun c r => if r = true then do let ok ← isTrue c X.env (eval c X.env); pure (ForInStep.yield ok) else pure (ForInStep.yield r)) (TP X pins σ Q) X.xe s
private theorem ptl_nil {X : Cx} : PTl X [] (fun _ H Q => Q true H) := fun pins s σ H Q I h => wpAny_tests_nil ⟨H, I, h⟩
private theorem ptl_one {X : Cx} {c : Expr} {t : TT} (h : PT X c t) : PTl X [c] t := fun pins s σ H Q I q => wpAny_tests_one (h pins s σ H Q I q)

structure CompOk (X : Cx) (scope : Scope) (cl : List (Str × Addr)) (N' : List Str) (fr : List (Option Nat)) : Prop where
  clos : closureFor scope X.env = pure cl
  kind : scope.kind = .function
  noc : ∀ y ∈ scope.names, y.2 ≠ .cell
  names : ∀ y ∈ scope.names, y.2 = .local → scope.names.lookup y.1 = some .local
  sub : ∀ x c, cl.lookup x = some c → X.env.cells.lookup x = some c
  has : ∀ x, ((relabel scope X.env).names.lookup x = some .cell ∨ (relabel scope X.env).names.lookup x = some .free) → ∃ c, cl.lookup x = some c
  len : fr.length = N'.length
  out : ∀ (i : Nat) (x : Str) (j : Nat), N'[i]? = some x → fr[i]? = some (some j) → X.N[j]? = some x ∧ X.env.scope.names.lookup x = some .cell ∧ ((relabel scope X.env).names.lookup x = some .cell ∨ (relabel scope X.env).names.lookup x = some .free)
noncomputable def inner (fr : List (Option Nat)) (σ : St) : St := fr.map fun o => o.bind fun j => (σ[j]?).getD none

private theorem comp_ok {X : Cx} {pins : List (Addr × Obj)} {σ : St} {H : Hp} {s : Shared} {scope : Scope} {cl : List (Str × Addr)} {N' : List Str} {fr : List (Option Nat)} {fp : List Addr} (I : Inv X pins σ H s) (O : CompOk X scope cl N' fr) (hf : ∀ b ∈ fp, FpOk X pins H b) (hlt : ∀ b ∈ fp, b < s.heap.objs.size) :
    (compCx X N' (compEnvC scope cl s.heap.objs.size X.env) s H fp).Ok where
  mod := I.ok.mod
  kind := O.kind
  glob := I.ok.glob
  blt := I.ok.blt
  above := Nat.le_refl _
  inj := fun x y c h1 h2 => I.ok.inj x y c (O.sub x c h1) (O.sub y c h2)
  has := fun x h => O.has x h
  cab := fun x c h => by cases h
  hd := I.ok.hd
  frames := I.ok.frames
  stk := .inl rfl
  exf := fun b hb => ⟨Nat.ne_of_lt (hlt b hb), fun x c e => (hf b hb).2.2.2.2.1 x c (O.sub x c e)⟩
  bs := I.bs
  bsz := Nat.le_trans I.ok.bsz I.sz
  noex := fun b o e hb => by
    rcases (hf b hb).2.2.2.1 with z | z
    · exact I.ok.noex b o e z
    · exact absurd (Nat.lt_of_lt_of_le (Heap.lt_size (I.ok.bs b o e).1) z) (Nat.lt_irrefl _)
  exfs := fun b hb z => by
    rcases List.mem_cons.mp (I.stkSub b z) with e | e
    · exact (hf b hb).2.1 e
    · exact (hf b hb).2.2.1 e
  funs := I.stack
  frf := I.stkFree

private theorem inner_get {fr : List (Option Nat)} {σ : St} {i : Nat} {v : V} (h : (inner fr σ)[i]? = some (some v)) : ∃ j, fr[i]? = some (some j) ∧ σ[j]? = some (some v) := by
  unfold inner at h
  rw [List.getElem?_map] at h
  obtain ⟨o, h1, h2⟩ := Option.map_eq_some_iff.mp h
  cases o with
  | none => cases h2
  | some j =>
    refine ⟨j, h1, ?_⟩
    simp only [Option.bind_some] at h2
    cases e : σ[j]? with
    | none => rw [e] at h2; cases h2
    | some q => rw [e] at h2; simp only [Option.getD_some] at h2; rw [h2]

private theorem comp_start {X : Cx} {pins : List (Addr × Obj)} {σ : St} {H : Hp} {s : Shared} {scope : Scope} {cl : List (Str × Addr)} {N' : List Str} {fr : List (Option Nat)} {fp : List Addr} {h₁ : Heap} {m : Str → Option Value} {ob : Obj} (I : Inv X pins σ H s) (O : CompOk X scope cl N' fr) (hf : ∀ b ∈ fp, FpOk X pins H b) (hlt : ∀ b ∈ fp, b < s.heap.objs.size)
    (hns : h₁.Ns s.heap.objs.size m) (hsb : Heap.SameBut s.heap.objs.size (s.heap.push ob) h₁) : Inv (compCx X N' (compEnvC scope cl s.heap.objs.size X.env) s H fp) [] (inner fr σ) H { s with heap := h₁ } := by
  have kp : ∀ b u, s.heap.get? b = some u → h₁.get? b = some u := fun b u e => (hsb.2 b (Nat.ne_of_lt (Heap.lt_size e))).trans (Heap.get?_push_of_some _ e)
  refine ⟨comp_ok I O hf hlt, rfl, I.bare, Un.kept kp, ⟨m, hns, fun i x v e1 e2 e3 => ?_⟩, fun x c e => ?_, I.hok.fresh (Nat.le_refl _), fun x c e => I.freeC x c (O.sub x c e), fun p hp => absurd (show p ∈ ([] : List (Addr × Obj)) from hp) (by simp), I.hok.kept kp, by unfold inner; rw [List.length_map]; exact O.len⟩
  · obtain ⟨j, f1, f2⟩ := inner_get e2
    obtain ⟨o1, o2, o3⟩ := O.out i x j e1 f1
    obtain ⟨mo, hn, hl⟩ := I.loc
    obtain ⟨u, ru, lk⟩ := hl j x v o1 f2 (.inr (.inl o2))
    refine ⟨u, ru, .inr ⟨o3, ?_⟩⟩
    rcases lk with ⟨k, _⟩ | ⟨_, c, e, ob', z1, z2⟩
    · have k' : X.env.scope.names.lookup x = some .local := k
      rw [o2] at k'; cases k'
    · obtain ⟨c', e'⟩ := O.has x o3
      have e'' := O.sub x c' e'
      rw [e] at e''; cases e''
      exact ⟨c, e', ob', kp _ _ z1, z2⟩
  · obtain ⟨v, ob', z1, z2⟩ := I.cell x c (O.sub x c e)
    exact ⟨v, ob', kp _ _ z1, z2⟩

noncomputable def LcW (J : It) (g : TG) (tt : TT) (te : TE) (D : Addr) (Q : Hp → Prop) (W : Nat → Nat → St → Hp → Prop) : Prop := ∀ i m σ H2, W i m σ H2 →
  (J.stop i H2 ∧ Q H2) ∨ (J.go i H2 ∧ ∀ x H3, J.yld i H2 x H3 → g x σ H3 fun σ4 H4 => tt σ4 H4 fun b H5 =>
    if b = true then te σ4 H5 fun y H6 => ∃ ys, H6 D = some (.lst ys) ∧ ys.length < sizeLine ∧ ∃ m', m' < m ∧ W (i + 1) m' σ4 (upd H6 D (.lst (ys ++ [y]))) else ∃ m', m' < m ∧ W (i + 1) m' σ4 H5)
noncomputable def tLC (fr : List (Option Nat)) (wi : TI) (g : TG) (tt : TT) (te : TE) : TE := fun σ H Q => wi σ H fun J H1 => ∀ D, H1 D = none → ∃ W : Nat → Nat → St → Hp → Prop, (∃ m, W 0 m (inner fr σ) (upd H1 D (.lst []))) ∧ LcW J g tt te D (Q (.ref D)) W

private theorem lc_loop {X : Cx} {elt tg iter : Expr} {ifs : List Expr} {scope : Scope} {pos : Pos} {g : TG} {tt : TT} {te : TE} {J : It} {fp : List Addr} {it D : Addr} {tn : Nat → Heap → Prop} {W : Nat → Nat → St → Hp → Prop} {Q : Hp → Prop} {R : Result → Shared → Prop} {σ : St} {H : Hp} {s : Shared} {m : Nat}
    (T : Turn X.prog X.w X.K tg J fp it tn) (hc : X.calm = true) (hx : X.xe = fun _ _ => False) (hg : PG X tg g) (ht : PTl X ifs tt) (he : PE X elt te) (stat : ∀ H' : Hp, (∀ b ∈ fp, H' b = none) → ∀ b ∈ fp, FpOk X [] H' b)
    (hW : LcW J g tt te D Q W) (fin : ∀ σ' H' s', Inv X [] σ' H' s' → Q H' → R (.ok .next) s') (I : Inv X [] σ H s) (st : tn 0 s.heap) (hf : ∀ b ∈ fp, H b = none) (w0 : W 0 m σ H) :
    codeAny (model X.prog X.w) X.A (.compLoop (.ListComp elt [⟨tg, iter, ifs, 0⟩] scope pos) 0 (.ref it) (.ref D) X.env) R s := by
  refine compLoop_gen (fun n s' => ∃ i σ' H', Inv X [] σ' H' s' ∧ tn i s'.heap ∧ (∀ b ∈ fp, H' b = none) ∧ W i n σ' H') ?_ m ⟨0, σ, H, I, st, hf, w0⟩
  rintro n s3 ⟨i, σ3, H3, I3, st3, fr3, w3⟩
  rcases hW i n σ3 H3 w3 with ⟨stop, qn⟩ | ⟨go, step⟩
  · refine thn (T.done X rfl rfl rfl hc i [] s3 σ3 H3 _ I3 (stat _ fr3) st3 stop) fun r s4 zq9 => ?_
    obtain ⟨hr, I4⟩ := zq9
    subst hr
    exact fin σ3 H3 s4 I4 qn
  · refine thn (T.item X rfl rfl rfl hc i [] s3 σ3 H3 _ I3 (stat _ fr3) st3 go) fun r s4 zq9 => ?_
    obtain ⟨u, hr, h4⟩ := zq9
    subst hr
    refine thn h4 fun _ s5 zq9 => ?_
    obtain ⟨x, H5, I5, r5, y5, st5, fr5⟩ := zq9
    have I5' := I5.pinned (stat _ fr5) (T.obj _ _ st5)
    have hx' : ∀ {α : Type} {t : Sem α} {Q : α → Shared → Prop} {s : Shared}, wpAny (model X.prog X.w) X.A t Q X.xe s → wpAny (model X.prog X.w) X.A t Q (fun _ _ => False) s := fun h => by rw [← hx]; exact h
    have back : ∀ {σ7 : St} {H7 : Hp} {s7 : Shared} {m' : Nat}, Inv X ([] ++ pinsAt fp s5.heap) σ7 H7 s7 → m' < n → W (i + 1) m' σ7 H7 → ∃ m, m < n ∧ ∃ i σ' H', Inv X [] σ' H' s7 ∧ tn i s7.heap ∧ (∀ b ∈ fp, H' b = none) ∧ W i m σ' H' := fun {σ7 H7 s7 m'} I7 hm w7 => by
      refine ⟨m', hm, i + 1, σ7, H7, I7.unpinned, T.keep _ _ _ st5 fun b hb o e => (I7.pin (b, o) (List.mem_append_right _ (List.mem_append_right _ (mem_pinsAt hb e)))).1, fun b hb => ?_, w7⟩
      obtain ⟨o, e, d⟩ := T.obj _ _ st5 b hb
      exact (I7.pin (b, o) (List.mem_append_right _ (List.mem_append_right _ (mem_pinsAt hb e)))).2.1
    refine hx' (thn (hg _ s5 σ3 H5 x u _ I5' r5 (step x H5 y5)) fun _ s6 zq9 => ?_)
    obtain ⟨σ6, H6, I6, q6⟩ := zq9
    refine hx' (thn (ht _ s6 σ6 H6 _ I6 q6) fun ok s7 zq9 => ?_)
    obtain ⟨H7, I7, q7⟩ := zq9
    cases ok with
    | false =>
      rw [if_neg Bool.false_ne_true] at q7 ⊢
      obtain ⟨m', hm, w7⟩ := q7
      exact back I7 hm w7
    | true =>
      rw [if_pos rfl] at q7 ⊢
      refine hx' (thn (he _ s7 σ6 H7 _ I7 q7) fun y s8 zq9 => ?_)
      obtain ⟨yv, H8, I8, r8, ys, hD, hl, m', hm, w8⟩ := zq9
      refine hx' (thn (mt_append _ s8 σ6 H8 (.ref D) [yv] (.ref D) [y] (fun v H9 => v = .non ∧ H9 = upd H8 D (.lst (ys ++ [yv]))) I8 rfl (.cons r8 .nil) ⟨D, ys, yv, rfl, rfl, hD, hl, rfl, rfl⟩) fun _ s9 zq9 => ?_)
      obtain ⟨v9, H9, I9, r9, e9, eH⟩ := zq9
      subst eH
      exact back I9 hm w8

private theorem Un.to {fs ex : List Addr} {H H' : Hp} {h h1 h2 : Heap} {C : Addr} (u : Un fs ex H H' h h1) (hC : h.get? C = none) (hs : Heap.SameBut C h1 h2) : Un fs ex H H' h h2 := by
  have ne : ∀ b o, h.get? b = some o → b ≠ C := fun b o e z => by subst z; rw [hC] at e; cases e
  exact ⟨fun b o e n hb hx => (hs.2 b (ne b o e)).trans (u.keep b o e n hb hx), fun b o e n hb hx => let ⟨sl, q⟩ := u.slot b o e n hb hx; ⟨sl, (hs.2 b (ne b o e)).trans q⟩, u.free, fun b o e hx => let ⟨o', q⟩ := u.there b o e hx; ⟨o', (hs.2 b (ne b o e)).trans q⟩, u.tups, u.frzs, u.tbls⟩

private theorem comp_end {X : Cx} {pins : List (Addr × Obj)} {σ σ' : St} {H H1 H' : Hp} {s s1 s' : Shared} {C : Addr} {h' : Heap} {cenv : Env} {N' : List Str} {fp : List Addr} (I : Inv X pins σ H s) (u : Un (frs X.stack) fp H H1 s.heap s1.heap) (hos : s1.os = s.os) (hf : ∀ b ∈ fp, FpOk X pins H b)
    (I' : Inv (compCx X N' cenv s1 H1 fp) [] σ' H' s') (hL : cenv.locals = C) (hC : s.heap.get? C = none) (hs : Heap.SameBut C s'.heap h') : Inv X pins σ H' { s' with heap := h' } := by
  have un : Un (frs X.stack) fp H H' s.heap h' := Un.to (u.trans I'.base) hC hs
  have hC' : H' C = none := by have := I'.free; rw [← hL]; exact this
  have hok : HOk X.prog X.w H' h' := fun b o e => by
    refine (I'.hok b o e).stay (fun c v hc q => (hs.2 c ?_).trans q) (fun _ q => q) fun _ _ q => q
    rintro rfl
    rcases hc with z | z
    · rw [← z, hC'] at e; cases e
    · rw [hC'] at z; cases z
  obtain ⟨hh, gg, dd, tt, oo⟩ := s'
  have eo : oo = s.os := I'.os.trans hos
  subst eo
  have fin := I.call (h' := h') (g' := gg) (d' := dd) (t' := tt) (ch := fp) un hok I'.bare fun b hb => ⟨(hf b hb).2.2.2.1, (hf b hb).2.1, (hf b hb).2.2.2.2.1, (hf b hb).2.2.2.2.2⟩
  exact fin

section
variable {X : Cx} {elt tg iter : Expr} {ifs : List Expr} {scope : Scope} {pos : Pos} {cl : List (Str × Addr)} {N' : List Str} {fr : List (Option Nat)} {wi : TI} {g : TG} {tt : TT} {te : TE}
private theorem lc_block (hc : X.calm = true) (O : CompOk X scope cl N' fr)
    (hg : ∀ C s₀ H₀ ex, PG (compCx X N' (compEnvC scope cl C X.env) s₀ H₀ ex) tg g) (ht : ∀ C s₀ H₀ ex, PTl (compCx X N' (compEnvC scope cl C X.env) s₀ H₀ ex) ifs tt) (he : ∀ C s₀ H₀ ex, PE (compCx X N' (compEnvC scope cl C X.env) s₀ H₀ ex) elt te)
    {pins : List (Addr × Obj)} {σ : St} {H2 : Hp} {s2 : Shared} {it : Addr} {fp : List Addr} {tn : Nat → Heap → Prop} {J : It} {Q : VK} {RR : Value → Addr → Result → Shared → Prop} {E : Value → Shared → Prop} (I2 : Inv X pins σ H2 s2) (T : Turn X.prog X.w X.K tg J fp it tn) (st2 : tn 0 s2.heap) (f2 : ∀ b ∈ fp, FpOk X pins H2 b)
    (q2 : ∀ D, H2 D = none → ∃ W : Nat → Nat → St → Hp → Prop, (∃ m, W 0 m (inner fr σ) (upd H2 D (.lst []))) ∧ LcW J g tt te D (Q (.ref D)) W)
    (hRR : ∀ D C H' s', s2.heap.objs.size ≤ C → H' C = none → (∃ m, s'.heap.Ns C m) → Q (.ref D) H' → (∀ h', Heap.SameBut C s'.heap h' → Inv X pins σ H' { s' with heap := h' }) → RR (.ref D) C (.ok .next) s') :
    wpAny (model X.prog X.w) X.A (newList []) (fun acc s₃ => wpAny (model X.prog X.w) X.A (newFunctionEnv scope X.env.globals cl [] X.env.qual none .none (some X.env)) (fun cenv s₄ =>
      codeAny (model X.prog X.w) X.A (.compStart (.ListComp elt [⟨tg, iter, ifs, 0⟩] scope pos) 0 (.ref it) acc { cenv with scope := relabel scope X.env }) (RR acc cenv.locals) s₄) E s₃) E s2 := by
  refine wpAny_newObj_type ?_ (by show 0 ≤ sizeLine; decide)
  have hD : H2 s2.heap.objs.size = none := I2.hok.fresh (Nat.le_refl _)
  obtain ⟨W, ⟨m0, w0⟩, turn⟩ := q2 _ hD
  have I3 : Inv X pins σ (upd H2 s2.heap.objs.size (.lst [])) { s2 with heap := s2.heap.push { cls := .type "list", data := .seq ([] : List Value).toArray } } :=
    I2.laid (t' := s2.toks) (fun b u e => Heap.get?_push_of_some _ e) (Nat.le_refl _) ⟨Nat.zero_le _, [], 0, .nil, Heap.get?_push_size _ rfl⟩
  have u23 : Un (frs X.stack) fp H2 (upd H2 s2.heap.objs.size (.lst [])) s2.heap (s2.heap.push { cls := .type "list", data := .seq ([] : List Value).toArray }) := Un.laid (fun b u e => Heap.get?_push_of_some _ e) (Nat.le_refl _) hD
  have flt : ∀ b ∈ fp, b < s2.heap.objs.size := fun b hb => let ⟨o, e, _⟩ := T.obj _ _ st2 b hb; Heap.lt_size e
  have f3 : ∀ b ∈ fp, FpOk X pins (upd H2 s2.heap.objs.size (.lst [])) b := fun b hb => ⟨by rw [upd_ne (Nat.ne_of_lt (flt b hb))]; exact (f2 b hb).1, (f2 b hb).2⟩
  have k23 : ∀ b u, s2.heap.get? b = some u → (s2.heap.push { cls := .type "list", data := .seq ([] : List Value).toArray }).get? b = some u := fun b u e => Heap.get?_push_of_some _ e
  have sz : (s2.heap.push { cls := .type "list", data := .seq ([] : List Value).toArray }).objs.size = s2.heap.objs.size + 1 := Heap.size_push _ _
  have hle : s2.heap.objs.size ≤ (s2.heap.push { cls := .type "list", data := .seq ([] : List Value).toArray }).objs.size := by rw [sz]; exact Nat.le_succ _
  have flt3 : ∀ b ∈ fp, b < (s2.heap.push { cls := .type "list", data := .seq ([] : List Value).toArray }).objs.size := fun b hb => by rw [sz]; exact Nat.lt_succ_of_lt (flt b hb)
  refine wpAny_newFunctionEnv O.noc (by intro y hy; simp at hy) (fun h₁ hns₁ hsb₁ => ?_) O.kind
  have I4 := comp_start I3 O f3 flt3 hns₁ hsb₁
  have k34 : ∀ b u, s2.heap.get? b = some u → h₁.get? b = some u := fun b u e => (hsb₁.2 b (Nat.ne_of_lt (Heap.lt_size (k23 _ _ e)))).trans (Heap.get?_push_of_some _ (k23 _ _ e))
  have st4 : tn 0 h₁ := T.keep _ _ _ st2 fun b hb o e => k34 _ _ e
  have CO := comp_ok I3 O f3 flt3
  have loop := lc_loop (X := compCx X N' (compEnvC scope cl (s2.heap.push { cls := .type "list", data := .seq ([] : List Value).toArray }).objs.size X.env) { s2 with heap := s2.heap.push { cls := .type "list", data := .seq ([] : List Value).toArray } } (upd H2 s2.heap.objs.size (.lst [])) fp)
    (elt := elt) (iter := iter) (ifs := ifs) (scope := scope) (pos := pos) (R := RR (.ref s2.heap.objs.size) (s2.heap.push { cls := .type "list", data := .seq ([] : List Value).toArray }).objs.size)
    T hc rfl (hg _ _ _ _) (ht _ _ _ _) (he _ _ _ _) (fun H' hn b hb => ⟨hn b hb, Nat.ne_of_lt (flt3 b hb), fun z => CO.exfs b hb z, .inl hb, fun x c e => (f3 b hb).2.2.2.2.1 x c (O.sub x c e), fun p hp => absurd (show p ∈ ([] : List (Addr × Obj)) from hp) (by simp)⟩)
    turn (fun σ' H' s' I' q => hRR _ _ H' s' hle I'.free (let ⟨m, hn, _⟩ := I'.loc; ⟨m, hn⟩) q fun h' hs =>
      comp_end (N' := N') (cenv := compEnvC scope cl (s2.heap.push { cls := .type "list", data := .seq ([] : List Value).toArray }).objs.size X.env) (s1 := { s2 with heap := s2.heap.push { cls := .type "list", data := .seq ([] : List Value).toArray } }) (H1 := upd H2 s2.heap.objs.size (.lst [])) (C := (s2.heap.push { cls := .type "list", data := .seq ([] : List Value).toArray }).objs.size) I2 u23 rfl f2 I' rfl (Heap.get?_none_of_le hle) hs) I4 st4 (fun b hb => (f3 b hb).1) w0
  exact codeAny_compStart_list loop (T.self X.A 0 _ _ _ st4 loop)

private theorem pe_lc (hc : X.calm = true) (O : CompOk X scope cl N' fr) (hi : PI X tg iter wi)
    (hg : ∀ C s₀ H₀ ex, PG (compCx X N' (compEnvC scope cl C X.env) s₀ H₀ ex) tg g) (ht : ∀ C s₀ H₀ ex, PTl (compCx X N' (compEnvC scope cl C X.env) s₀ H₀ ex) ifs tt) (he : ∀ C s₀ H₀ ex, PE (compCx X N' (compEnvC scope cl C X.env) s₀ H₀ ex) elt te)
    (hs : autoParam (∀ x, foldedSetIterable iter X.env x = pure x) _root_.zt3) : PE X (.ListComp elt [⟨tg, iter, ifs, 0⟩] scope pos) (tLC fr wi g tt te) := by
  intro pins s σ H Q I h
  rw [eval_ListComp]
  refine wpAny_comprehension_free (use := none) rfl hs O.clos O.kind O.names (thn (hi pins s σ H _ I h) fun v s1 h1 => thn h1 fun itv s2 h2 => ?_)
  obtain ⟨it, fp, tn, J, H2, e, I2, T, st2, f2, q2⟩ := h2
  subst e
  refine lc_block hc O hg ht he I2 T st2 f2 q2 fun D C H' s' hC hfr ⟨m, hn⟩ q inv => ?_
  exact ⟨m, hn, fun h' hs' => ⟨.ref D, H', inv h' hs', rfl, q⟩⟩
private theorem ps_lc {x : Str} {i : Nat} {px spos : Pos} (hc : X.calm = true) (O : CompOk X scope cl N' fr) (hi : PI X tg iter wi)
    (hg : ∀ C s₀ H₀ ex, PG (compCx X N' (compEnvC scope cl C X.env) s₀ H₀ ex) tg g) (ht : ∀ C s₀ H₀ ex, PTl (compCx X N' (compEnvC scope cl C X.env) s₀ H₀ ex) ifs tt) (he : ∀ C s₀ H₀ ex, PE (compCx X N' (compEnvC scope cl C X.env) s₀ H₀ ex) elt te)
    (hN : X.N.Nodup) (hx : X.N[i]? = some x) (hl : X.env.scope.names.lookup x = some .local) (hsw : swapsWith (.ListComp elt [⟨tg, iter, ifs, 0⟩] scope pos) (some (.Name x px)) spos.line X.env = pure true)
    (hs : autoParam (∀ x, foldedSetIterable iter X.env x = pure x) _root_.zt3) : PS X (.Assign [.Name x px] (.ListComp elt [⟨tg, iter, ifs, 0⟩] scope pos) spos) (tAsg (tLC fr wi g tt te) (gName i)) := by
  intro pins s σ H D' I h
  rw [exec_Assign_Name_used _ _ _ _ hsw]
  refine wpAny_bind (wpAny_standAt (wpAny_bind ?_))
  show wpAny _ _ (do let _ ← comprehension (.ListComp elt [⟨tg, iter, ifs, 0⟩] scope pos) scope X.env _ (newList []) false (eval iter X.env) (some (assign (.Name x px) X.env))) _ _ s
  refine wpAny_bind (wpAny_mono (wpAny_comprehension_free (use := some (assign (.Name x px) X.env)) (Q := fun _ s' => SP X pins D' .next s') rfl hs O.clos O.kind O.names
    (thn (hi pins s σ H _ I h) fun v s1 h1 => thn h1 fun itv s2 h2 => ?_)) (fun _ s' hq => wpAny_pure (wpAny_pure hq)) fun _ _ e => e)
  obtain ⟨it, fp, tn, J, H2, e, I2, T, st2, f2, q2⟩ := h2
  subst e
  refine lc_block (Q := fun x H1 => gName i x σ H1 D'.nx) hc O hg ht he I2 T st2 f2 q2 fun D C H' s' hC hfr ⟨m, hn⟩ q inv => ?_
  have I5 : Inv X pins σ H' s' := by
    have := inv s'.heap (.refl ..)
    obtain ⟨_, _, _, _, _⟩ := s'
    exact this
  show wpAny _ _ (assign (.Name x px) X.env (.ref D)) _ _ _
  have hCL : C ≠ X.env.locals := Nat.ne_of_gt (Nat.lt_of_lt_of_le I2.lt hC)
  have hCc : ∀ y c, X.env.cells.lookup y = some c → c ≠ C := fun y c e z => by
    obtain ⟨v, q⟩ := I2.cell y c e
    exact absurd (Nat.lt_of_lt_of_le q.lt (by rw [z]; exact hC)) (Nat.lt_irrefl _)
  have hCp : ∀ p ∈ X.pn ++ pins, p.1 ≠ C := fun p hp z => absurd (Nat.lt_of_lt_of_le (Heap.lt_size (I2.pin p hp).1) (by rw [z]; exact hC)) (Nat.lt_irrefl _)
  refine wpAny_assign_Name (store_ok2 (v := .ref D) I5 hN hx (.inl hl) rfl (fun s6 I6 zq9 => ?_) (.inr hl))
  obtain ⟨a, sb, ha⟩ := zq9
  have hCa : C ≠ a := by
    rcases ha with z | z
    · rw [z]; exact hCL
    · exact fun e => hCc _ _ z e.symm
  refine ⟨m, hn.sameBut sb hCa, fun h' hs' => ⟨_, H', I6.turned (t' := s6.toks) (fun b o hb e => (hs'.2 b hb).trans e) hfr hCL (.inr (Nat.le_trans I2.sz hC)) hCc hCp, q⟩⟩
end

noncomputable def compG (h : D → List Sl → Option (List Sl)) (ts : List Sl → Option Bool) (f : List Sl → Option Sl) : List D → List Sl → Option (List D)
  | [], _ => some []
  | d :: ds, ρ => match h d ρ with
    | none => none
    | some ρ1 => match ts ρ1 with
      | some true => match f ρ1 with
        | some r => (compG h ts f ds ρ1).map (r.toD :: ·)
        | none => none
      | some false => compG h ts f ds ρ1
      | none => none
noncomputable def innerS (fr : List (Option Nat)) (ρ : List Sl) : List Sl := fr.map fun o => match o with
  | none => .un
  | some j => ((ρ[j]?).getD .un).er
noncomputable def lcF (fi : List Sl → Option (List D)) (fr : List (Option Nat)) (h : D → List Sl → Option (List Sl)) (ts : List Sl → Option Bool) (f : List Sl → Option Sl) (ρ : List Sl) : Option Sl :=
  (fi ρ).bind fun items => if items.length < 10000000 then (compG h ts f items (innerS fr ρ)).map .ac else none
private theorem Rep.other {K : PySem.W.Frag} {F H : Hp} {σ : St} {ρ : List Sl} {p : Addr} (R : Rep K F H σ ρ) (fp : F p = none) (nh : ¬ Held σ ρ p) (o : HO) : Rep K F (upd H p o) σ ρ := by
  refine ⟨fun b u e => by rw [upd_ne (ne_of_none e fp)]; exact R.sub _ _ e, fun j r e n => ?_, R.apart, R.len⟩
  obtain ⟨w, w1, w2⟩ := R.at_ j r e n
  refine ⟨w, w1, ?_⟩
  cases r with
  | un => exact w2
  | sh d => exact w2
  | ac ds =>
    obtain ⟨p', vs, rfl, z1, z2, z3⟩ := w2
    refine ⟨p', vs, rfl, ?_, z2, z3⟩
    rw [upd_ne]; exact z1
    rintro rfl; exact nh ⟨j, _, e, rfl, w1⟩
  | ad ks ds =>
    obtain ⟨p', vs, rfl, z1, z2, z3⟩ := w2
    refine ⟨p', vs, rfl, ?_, z2, z3⟩
    rw [upd_ne]; exact z1
    rintro rfl; exact nh ⟨j, _, e, rfl, w1⟩
private theorem innerS_own {fr : List (Option Nat)} {ρ : List Sl} {i : Nat} {r : Sl} (h : (innerS fr ρ)[i]? = some r) : r.own = false := by
  unfold innerS at h
  rw [List.getElem?_map] at h
  obtain ⟨o, _, rfl⟩ := Option.map_eq_some_iff.mp h
  cases o with
  | none => rfl
  | some j => exact Sl.er_own _
private theorem rep_inner {K : PySem.W.Frag} {F H : Hp} {σ : St} {ρ : List Sl} (R : Rep K F H σ ρ) (fr : List (Option Nat)) : Rep K F H (inner fr σ) (innerS fr ρ) := by
  refine ⟨R.sub, fun i r e n => ?_, fun i j r r' p e _ o => ?_, by unfold inner innerS; rw [List.length_map, List.length_map]⟩
  · unfold innerS at e
    rw [List.getElem?_map] at e
    obtain ⟨o, h1, rfl⟩ := Option.map_eq_some_iff.mp e
    cases o with
    | none => exact absurd rfl n
    | some j =>
      simp only at n ⊢
      cases hj : ρ[j]? with
      | none => rw [hj] at n; exact absurd rfl n
      | some q =>
        rw [hj] at n
        simp only [Option.getD_some] at n ⊢
        have z := Sl.er_of n
        rw [z] at n ⊢
        obtain ⟨v, v1, v2⟩ := R.at_ j q hj n
        refine ⟨v, ?_, v2⟩
        unfold inner
        rw [List.getElem?_map, h1]
        simp [v1]
  · rw [innerS_own e] at o; cases o
inductive LcI (K : PySem.W.Frag) (h : D → List Sl → Option (List Sl)) (ts : List Sl → Option Bool) (f : List Sl → Option Sl) (items out : List D) (F1 H1 : Hp) (Da : Addr) : Nat → Nat → St → Hp → Prop
  | mk {i : Nat} {σ' : St} {H2 F' : Hp} {ρ' : List Sl} {ys : List V} {ds rest : List D} (hi : i ≤ items.length) (g2 : Grow F1 H1 F' H2) (fD : F' Da = none) (hD : H2 Da = some (.lst ys)) (hyl : ys.length ≤ i) (den : DenL K F' ds ys) (R : Rep K F' H2 σ' ρ') (nh : ∀ p, ¬ Held σ' ρ' p)
      (e3 : compG h ts f (items.drop i) ρ' = some rest) (eo : out = ds ++ rest) : LcI K h ts f items out F1 H1 Da i (items.length - i) σ' H2
private theorem lc_imp {K : PySem.W.Frag} {fi : List Sl → Option (List D)} {fr : List (Option Nat)} {h : D → List Sl → Option (List Sl)} {ts : List Sl → Option Bool} {f : List Sl → Option Sl} (σ : St) (H : Hp) (Q : VK) (q : tX K (lcF fi fr h ts f) σ H Q) :
    tLC fr (iX K fi) (tG K h) (tXt K ts) (tX K f) σ H Q := by
  obtain ⟨F, ρ, r, R, e, k⟩ := q
  unfold lcF at e
  cases e1 : fi ρ with
  | none => rw [e1] at e; cases e
  | some items =>
    rw [e1] at e
    simp only [Option.bind_some] at e
    split at e
    · rename_i hlim
      obtain ⟨out, e2, rfl⟩ := Option.map_eq_some_iff.mp e
      refine ⟨F, ρ, items, R, e1, fun J F1 H1 g1 it D hD => ?_⟩
      have fD : F1 D = none := g1.sub.free hD
      refine ⟨LcI K h ts f items out F1 H1 D, ⟨_, LcI.mk (F' := F1) (ρ' := innerS fr ρ) (ys := []) (ds := []) (rest := out) (Nat.zero_le _) (Grow.own g1.sub hD _) fD upd_same (Nat.le_refl _) .nil (((rep_inner R fr).grow g1).other fD (not_held fun i r e => innerS_own e) _) (fun p => not_held fun i r e => innerS_own e) e2 rfl⟩, ?_⟩
      rintro i m σ' H2 (@⟨_, _, F', ρ', ys, ds, rest, hi, g2, fD', hD', hyl, den, R', nh, e3, eo⟩)
      obtain ⟨go, stop⟩ := it i F' H2 g2.ff g2.sub
      by_cases hlt : i < items.length
      · have hd : items[i]? = some items[i] := List.getElem?_eq_getElem hlt
        rw [List.drop_eq_getElem_cons hlt] at e3
        obtain ⟨c1, c2⟩ := go _ hd
        unfold compG at e3
        split at e3
        · cases e3
        · rename_i ρ1 e4
          refine .inr ⟨c1, fun x H3 y => ?_⟩
          obtain ⟨F2, g3, denx⟩ := c2 x H3 y
          have fD2 : F2 D = none := by
            cases z : F2 D with
            | none => rfl
            | some o => rw [g3.new D fD' (by rw [z]; simp)] at hD'; cases hD'
          refine ⟨F2, H3, F2, _, ρ', ρ1, ⟨R'.grow g3, .refl g3.sub, fun p hp => absurd hp (nh p)⟩, denx, e4, fun σ4 R4 => ?_⟩
          have nh4 : ∀ p, ¬ Held σ4 ρ1 p := fun p hp => by
            obtain ⟨_, o, ho⟩ := R4.rep.heldFree hp
            rw [R4.fresh p hp] at ho; cases ho
          have hD3 : H3 D = some (.lst ys) := g3.same _ _ hD'
          have keepD : ∀ {F5 H5 : Hp}, Grow F2 H3 F5 H5 → F5 D = none := fun {F5 H5} g5 => by
            cases z : F5 D with
            | none => rfl
            | some o => rw [g5.new D fD2 (by rw [z]; simp)] at hD3; cases hD3
          split at e3
          · rename_i e5
            split at e3
            · rename_i r' e6
              obtain ⟨rest', e7, e8⟩ := Option.map_eq_some_iff.mp e3
              refine ⟨F2, ρ1, true, R4.rep, e5, fun F5 H5 g5 => ?_⟩
              refine iteT ?_
              refine ⟨F5, ρ1, r', R4.rep.grow g5, e6, fun y F6 H6 g6 q6 => ?_⟩
              obtain ⟨F7, g7, s7, den7⟩ := q6.den g6
              have g57 : Grow F2 H3 F7 H6 := g5.trans g7
              have fD7 := keepD g57
              have G : Grow F1 H1 F7 H6 := g2.trans (g3.trans g57)
              refine ⟨ys, g57.same _ _ hD3, ?_, items.length - (i + 1), by omega, LcI.mk (F' := F7) (ρ' := ρ1) (ys := ys ++ [y]) (ds := ds ++ [r'.toD]) (rest := rest') hlt ?_ fD7 upd_same (by rw [List.length_append, List.length_singleton]; omega) ((den.mono (g3.trans g57).ff).append (.cons den7 .nil)) ((R4.rep.grow g57).other fD7 (nh4 D) _) nh4 e7 (by rw [eo, ← e8]; simp)⟩
              · have : ys.length < 10000000 := by omega
                exact Nat.lt_of_lt_of_le this (by rw [sizeLine_eq]; decide)
              · exact ⟨fun b o e => by rw [upd_ne (ne_of_none e hD)]; exact G.same _ _ e, G.ff, fun b o e => by rw [upd_ne (ne_of_none e fD7)]; exact G.sub _ _ e, G.new⟩
            · cases e3
          · rename_i e5
            refine ⟨F2, ρ1, false, R4.rep, e5, fun F5 H5 g5 => ?_⟩
            refine iteF ?_
            exact ⟨items.length - (i + 1), by omega, LcI.mk (F' := F5) (ρ' := ρ1) (ys := ys) (ds := ds) (rest := rest) hlt (g2.trans (g3.trans g5)) (keepD g5) (g5.same _ _ hD3) (by omega) (den.mono (g3.trans g5).ff) (R4.rep.grow g5) nh4 e3 eo⟩
          · cases e3
      · have z : i = items.length := by omega
        subst z
        rw [List.drop_length] at e3
        cases e3
        refine .inl ⟨stop (Nat.le_refl _), k _ F' H2 (g1.trans g2) ⟨⟨D, ys, rfl, hD', fD', by rw [eo, List.append_nil]; exact den⟩, fun _ p ep => ?_⟩⟩
        cases ep
        exact g1.same.free hD
    · cases e
section
variable {X : Cx} {elt tg iter c : Expr} {ifs : List Expr} {scope : Scope} {pos : Pos} {cl : List (Str × Addr)} {N' : List Str} {fr : List (Option Nat)} {fi : List Sl → Option (List D)} {h : D → List Sl → Option (List Sl)} {ts : List Sl → Option Bool} {f : List Sl → Option Sl}
noncomputable abbrev PXl (X : Cx) (ifs : List Expr) (ts : List Sl → Option Bool) : Prop := PTl X ifs (tXt X.K ts)
noncomputable def yesT (_ : List Sl) : Option Bool := some true
private theorem pxl_nil : PXl X [] yesT := fun pins s σ H Q I zq9 => by
  obtain ⟨F, ρ, b, R, e, k⟩ := zq9
  cases e
  exact ptl_nil pins s σ H Q I (k F H (.refl R.sub))
private theorem pxl_one (hc : PXt X c ts) : PXl X [c] ts := ptl_one hc
private theorem px_lc (hc : X.calm = true) (O : CompOk X scope cl N' fr) (hi : PIX X tg iter fi) (hg : ∀ C s₀ H₀ ex, PGX (compCx X N' (compEnvC scope cl C X.env) s₀ H₀ ex) tg h) (ht : ∀ C s₀ H₀ ex, PXl (compCx X N' (compEnvC scope cl C X.env) s₀ H₀ ex) ifs ts)
    (he : ∀ C s₀ H₀ ex, PX (compCx X N' (compEnvC scope cl C X.env) s₀ H₀ ex) elt f) (hs : autoParam (∀ x, foldedSetIterable iter X.env x = pure x) _root_.zt3) : PX X (.ListComp elt [⟨tg, iter, ifs, 0⟩] scope pos) (lcF fi fr h ts f) :=
  PE.imp (pe_lc hc O hi hg ht he hs) lc_imp
private theorem q_setLc {x : Str} {i : Nat} {px spos : Pos} (hc : X.calm = true) (O : CompOk X scope cl N' fr) (hi : PIX X tg iter fi) (hg : ∀ C s₀ H₀ ex, PGX (compCx X N' (compEnvC scope cl C X.env) s₀ H₀ ex) tg h) (ht : ∀ C s₀ H₀ ex, PXl (compCx X N' (compEnvC scope cl C X.env) s₀ H₀ ex) ifs ts)
    (he : ∀ C s₀ H₀ ex, PX (compCx X N' (compEnvC scope cl C X.env) s₀ H₀ ex) elt f) (hN : X.N.Nodup) (hx : X.N[i]? = some x) (hl : X.env.scope.names.lookup x = some .local)
    (hsw : autoParam (swapsWith (.ListComp elt [⟨tg, iter, ifs, 0⟩] scope pos) (some (.Name x px)) spos.line X.env = pure true) _root_.zt2) (hs : autoParam (∀ x, foldedSetIterable iter X.env x = pure x) _root_.zt3) :
    PQ X (.Assign [.Name x px] (.ListComp elt [⟨tg, iter, ifs, 0⟩] scope pos) spos) (setG i (lcF fi fr h ts f)) :=
  PS.imp (ps_lc hc O hi hg ht he hN hx hl hsw hs) fun D σ H zq9 => by
    obtain ⟨F₀, H₀, F, ρ, o, R, e, k⟩ := zq9
    unfold setG at e
    obtain ⟨⟨r, ρ'⟩, e1, rfl⟩ := Option.map_eq_some_iff.mp e
    exact lc_imp σ H _ (evS_ok R e1 fun v F' H' R' q s hd => k F' H' _ (R'.store q.1 fun o p ev => ⟨fresh_not hd (q.2 o p ev), R.gr.same.free (q.2 o p ev)⟩))
end
end L3
namespace L3
open PySem PySem.Spec L2
open PyProof.Rows hiding St

private theorem Inv.turnedLay {X : Cx} {pins : List (Addr × Obj)} {σ : L2.St} {H : Hp} {s : Shared} {h' : Heap} {t' : Nat} {T : Addr} {o : HO} {fp : List Addr} (I : L2.Inv X pins σ H s) (hf : ∀ b ∈ fp, FpOk X pins H b)
    (k : ∀ b ob, b ∉ fp → s.heap.get? b = some ob → h'.get? b = some ob) (hT : s.heap.objs.size ≤ T) (new : ObjOk X.prog X.w (upd H T o) h' T o) : L2.Inv X pins σ (upd H T o) { s with heap := h', toks := t' } := by
  have hn : H T = none := I.hok.fresh hT
  have nf : ∀ b u, H b = some u → b ∉ fp := fun b u e z => by rw [(hf b z).1] at e; cases e
  refine I.step (g' := s.gens) (d' := s.drawn) (ch := fp) (fun b hb => ⟨(hf b hb).2.2.2.1, (hf b hb).2.1, (hf b hb).2.2.2.2.1, (hf b hb).2.2.2.2.2⟩) (fun b ob _ _ hc e _ => k b ob hc e) (fun b ob _ _ hc e _ => ⟨ob.slots, k b ob hc e⟩)
    (fun b ob _ e n => by rw [upd_ne (Nat.ne_of_lt (Nat.lt_of_lt_of_le (Heap.lt_size e) hT))]; exact n) (fun b ob hc e => ⟨ob, k b ob hc e⟩) (fun b xs e => by rw [upd_ne (ne_of_none e hn)]; exact e) (fun b u v e => by rw [upd_ne (ne_of_none e hn)]; exact e)
    (fun b ps e => ⟨#[], by rw [upd_ne (ne_of_none e hn), e]; simp⟩) (fun m hm => ?_) (fun b u e => ?_) I.bare
  · obtain ⟨ob, es, ep, ho, r⟩ := hm
    exact ⟨ob, es, ep, k _ ob (fun z => (hf _ z).2.1 rfl) ho, r⟩
  · by_cases z : b = T
    · subst z; rw [upd_same] at e; cases e; exact new
    · rw [upd_ne z] at e
      refine (I.hok b u e).stay (fun c v hc q => k c v ?_ q) (fun c q => by rw [upd_ne (ne_of_none q hn)]; exact q) fun c xs q => by rw [upd_ne (ne_of_none q hn)]; exact q
      rcases hc with y | y
      · rw [y]; exact nf b u e
      · exact nf c _ y
private theorem Inv.turnedL {X : Cx} {pins : List (Addr × Obj)} {σ : L2.St} {H : Hp} {s : Shared} {h' : Heap} {t' : Nat} {fp : List Addr} (I : L2.Inv X pins σ H s) (hf : ∀ b ∈ fp, FpOk X pins H b)
    (k : ∀ b ob, b ∉ fp → s.heap.get? b = some ob → h'.get? b = some ob) : L2.Inv X pins σ H { s with heap := h', toks := t' } := by
  have nf : ∀ b u, H b = some u → b ∉ fp := fun b u e z => by rw [(hf b z).1] at e; cases e
  refine I.step (g' := s.gens) (d' := s.drawn) (ch := fp) (fun b hb => ⟨(hf b hb).2.2.2.1, (hf b hb).2.1, (hf b hb).2.2.2.2.1, (hf b hb).2.2.2.2.2⟩) (fun b ob _ _ hc e _ => k b ob hc e) (fun b ob _ _ hc e _ => ⟨ob.slots, k b ob hc e⟩)
    (fun _ _ _ _ n => n) (fun b ob hc e => ⟨ob, k b ob hc e⟩) (fun _ _ e => e) (fun _ _ _ e => e) (fun b ps e => ⟨#[], by rw [e]; simp⟩) (fun m hm => ?_) (fun b u e => ?_) I.bare
  · obtain ⟨ob, es, ep, ho, r⟩ := hm
    exact ⟨ob, es, ep, k _ ob (fun z => (hf _ z).2.1 rfl) ho, r⟩
  · refine (I.hok b u e).stay (fun c v hc q => k c v ?_ q) (fun _ q => q) fun _ _ q => q
    rcases hc with y | y
    · rw [y]; exact nf b u e
    · exact nf c _ y

noncomputable def Ite (K : PySem.W.Frag) (a : Addr) : It :=
  ⟨fun i H => ∃ xs x, SqL K H a xs ∧ xs[i]? = some x, fun i H x H' => ∃ T y, (∀ xs, SqL K H a xs → xs[i]? = some y) ∧ H T = none ∧ x = .ref T ∧ H' = upd H T (.tup [.int i, y]), fun i H => ∃ xs, SqL K H a xs ∧ xs.length ≤ i⟩
private theorem turn_enum {P : Program} {w : World} {K : PySem.W.Frag} {elts : List Expr} {x1} {pos : Pos} (a e it : Addr) (hei : e ≠ it) : Turn P w K (.Tuple elts x1 pos) (Ite K a) [e, it] e (fun i h => (∃ old, IsEnum h e it i old) ∧ h.IsListIter it a i) where
  mem := by simp
  obj := fun i h ⟨⟨old, he⟩, hit⟩ b hb => by
    rcases List.mem_cons.mp hb with z | z
    · subst z; exact ⟨_, he, fun v z => by cases z⟩
    · have z : b = it := by simpa using z
      subst z
      obtain ⟨o, e, c, d⟩ := hit
      exact ⟨o, e, fun v z => by rw [d] at z; cases z⟩
  keep := fun i h h' ⟨⟨old, he⟩, hit⟩ k => ⟨⟨old, k e (by simp) _ he⟩, hit.at fun o q => k it (by simp) o q⟩
  item := by
    intro X hP hw hK hc i pins s σ H E I hf st hg
    subst hP hw hK
    obtain ⟨⟨old, he⟩, hit⟩ := st
    obtain ⟨xs, x, hq, hx⟩ := hg
    obtain ⟨its, rv, p, hz⟩ := I.list hq
    obtain ⟨u, hu, ru⟩ := rv.get hx
    refine wpAny_pyNext_enum_item he hit p.isList (x := u) (by simpa using hu) hei fun h' ho hit' hT hsz hk => ⟨_, rfl, ?_⟩
    refine wpAny_letOwnedTupleGo_enum ho fun h2 he2 hs2 => ?_
    have ne : s.heap.objs.size ≠ e := Nat.ne_of_gt (Heap.lt_size he)
    have nit : it ≠ e := Ne.symm hei
    have kp : ∀ b ob, b ∉ [e, it] → s.heap.get? b = some ob → h2.get? b = some ob := fun b ob hb q => by
      have b1 : b ≠ e := fun z => hb (by simp [z])
      have b2 : b ≠ it := fun z => hb (by simp [z])
      exact (hs2.2 b b1).trans (hk b ob b1 b2 q)
    have hit2 : h2.IsListIter it a (i + 1) := hit'.at fun o q => (hs2.2 it nit).trans q
    have hT2 : h2.get? s.heap.objs.size = some { cls := .type "tuple", data := .seq #[.int i s.toks, u] } := (hs2.2 _ ne).trans hT
    have hTn := I.hok.fresh (Nat.le_refl s.heap.objs.size)
    have I9 : L2.Inv X pins σ (upd H s.heap.objs.size (.tup [.int i, x])) { s with heap := h2, toks := s.toks + 1 } :=
      Inv.turnedLay (t' := s.toks + 1) I hf kp (Nat.le_refl _) ⟨by show 2 ≤ sizeLine; decide, [.int i s.toks, u], .cons ⟨_, rfl⟩ (.cons ru .nil), ⟨_, hT2, rfl, _, rfl⟩⟩
    refine ⟨.ref s.heap.objs.size, upd H s.heap.objs.size (.tup [.int i, x]), I9, rfl, ⟨s.heap.objs.size, x, fun ys hy => by rw [I.list_inj hy hq]; exact hx, hTn, rfl, rfl⟩, ⟨⟨u, by simpa using he2⟩, hit2⟩, fun b hb => ?_⟩
    · rw [upd_ne]
      · exact (hf b hb).1
      · intro z
        rcases List.mem_cons.mp hb with y | y
        · exact ne (z.symm.trans y)
        · have y : b = it := by simpa using y
          obtain ⟨o, q, _⟩ := hit
          exact absurd (Heap.lt_size q) (by rw [← y, z]; exact Nat.lt_irrefl _)
  done := by
    intro X hP hw hK hc i pins s σ H E I hf st hg
    subst hP hw hK
    obtain ⟨⟨old, he⟩, hit⟩ := st
    obtain ⟨xs, hq, hx⟩ := hg
    obtain ⟨its, rv, p, hz⟩ := I.list hq
    have hl := rv.length
    refine wpAny_pyNext_enum_end (I.ok.hd hc) he hit p.isList (by simp; omega) fun h' eb => ⟨rfl, Inv.turnedL (t' := s.toks) I hf fun b ob hb q => eb b ob (fun z => hb (by simp [z])) q⟩
  self := fun _ _ _ _ _ ⟨⟨old, he⟩, _⟩ h => wpAny_pyIter_enum he h

private theorem itok_enum {K : PySem.W.Frag} {F : Hp} {a : Addr} {vs : List V} {ds : List D} (h1 : SqL K F a vs) (h2 : DenL K F ds vs) : ItOk K F (Ite K a) (ds.mapIdx fun i d => .t [.i (i : Nat), d]) := fun i F' H s1 s2 => by
  have q : SqL K H a vs := (s1.trans s2).seq h1
  refine ⟨fun d e => ?_, fun hl => ⟨vs, q, by rw [List.length_mapIdx] at hl; rw [← h2.length]; exact hl⟩⟩
  rw [List.getElem?_mapIdx] at e
  obtain ⟨d', e', rfl⟩ := Option.map_eq_some_iff.mp e
  obtain ⟨v, e1, den⟩ := h2.get e'
  refine ⟨⟨vs, v, q, e1⟩, fun x H' zq9 => ?_⟩
  obtain ⟨T, y, hy, hT, hx, eH⟩ := zq9
  subst hx eH
  have := hy vs q
  rw [e1] at this; cases this
  have g := Grow.lay s2 hT (.tup [.int i, v])
  exact ⟨_, g, T, _, rfl, SqT.of upd_same, .cons rfl (.cons (den.mono (s1.trans g.ff)) .nil)⟩
section
variable {X : Cx} {pos q : Pos} {elts : List Expr} {x1 : _} {tpos : Pos}
noncomputable def enumF (g : List Sl → Option (List D)) (ρ : List Sl) : Option (List D) := match g ρ with
  | some [.l ds] => some (ds.mapIdx fun i d => .t [.i (i : Nat), d])
  | _ => none
private theorem pix_enum {a : Expr} {g : List Sl → Option (List D)} (hg : Gl X "enumerate") (hm : X.mg "enumerate" = none) (hb : bootBuiltins "enumerate" = some (.type "enumerate")) (ha : PXs X [a] g) (hs : autoParam (starEach [a] X.env = [(false, eval a X.env)]) _root_.zt2) :
    PIX X (.Tuple elts x1 tpos) (.Call (.Name "enumerate" q) [a] [] pos) (enumF g) := by
  intro pins s σ H R I zq9
  obtain ⟨F, ρ, items, R', e, k⟩ := zq9
  unfold enumF at e
  split at e
  · rename_i ds e1
    cases e
    refine Call_ (ld_blt I hg hm hb (PyProof.Rows.callWith_type1 (thn (ha pos pins s σ H (fun vs H1 => ∃ F1, Grow F H F1 H1 ∧ DenL X.K F1 [.l ds] vs) I ⟨F, ρ, _, R', e1, fun vs F1 H1 g1 q1 => ⟨F1, g1, q1⟩⟩) fun us s1 zq9 => ?_) hs rfl))
    obtain ⟨vs, H1, I1, r1, F1, g1, q1⟩ := zq9
    obtain ⟨v, rfl, b, xs, rfl, z1, z2⟩ := den1 q1
    cases r1 with
    | cons r rr =>
      cases rr
      cases r
      obtain ⟨its, rv, p, hz⟩ := I1.list (g1.sub.seq z1)
      refine call_enumerate_list p.isList fun h' he hit hsz kp => wpAny_pyIter_enum he ?_
      have I2 : L2.Inv X pins σ H1 { s1 with heap := h' } := I1.kept (t' := s1.toks) kp
      refine ⟨s1.heap.objs.size + 1, [s1.heap.objs.size + 1, s1.heap.objs.size], _, _, H1, rfl, I2, turn_enum b _ _ (Nat.ne_of_gt (Nat.lt_succ_self _)), ⟨⟨_, he⟩, hit⟩, fun c hc => ?_, k _ F1 H1 g1 (itok_enum z1 z2)⟩
      have hc' : s1.heap.objs.size ≤ c := by
        rcases List.mem_cons.mp hc with z | z
        · rw [z]; exact Nat.le_succ _
        · rw [show c = s1.heap.objs.size by simpa using z]; exact Nat.le_refl _
      exact I1.fpOk hc' (I1.hok.fresh hc')
  · cases e
end

noncomputable def closL (names : List (Str × NameKind)) (env : Env) : List (Str × Addr) := (names.filterMap fun p => if p.2 = .free then (env.cells.lookup p.1).map (p.1, ·) else none).reverse
private theorem closureFor_eq {scope : Scope} {env : Env} (h : ∀ p ∈ scope.names, p.2 = .free → ∃ c, env.cells.lookup p.1 = some c) : closureFor scope env = pure (closL scope.names env) := by
  unfold closureFor closL
  have aux : ∀ (l : List (Str × NameKind)) (acc : List (Str × Addr)), (∀ p ∈ l, p.2 = .free → ∃ c, env.cells.lookup p.1 = some c) →
      (forIn l acc fun x cs => (do let (name, kind) := x; if (kind == .free) = true then do let c ← cellOf env name; pure (ForInStep.yield ((name, c) :: cs)) else pure (ForInStep.yield cs) : Sem (ForInStep (List (Str × Addr))))) =
      (pure ((l.filterMap fun p => if p.2 = .free then (env.cells.lookup p.1).map (p.1, ·) else none).reverse ++ acc) : Sem (List (Str × Addr))) := by
    intro l
    induction l with
    | nil => intro acc _; rfl
    | cons p r ih =>
      intro acc hl
      obtain ⟨n, k⟩ := p
      rw [List.forIn_cons]
      by_cases hk : k = .free
      · subst hk
        obtain ⟨c, hc⟩ := hl (n, .free) (List.mem_cons_self ..) rfl
        have e1 : cellOf env n = pure c := by unfold cellOf; rw [hc]
        simp only [beq_self_eq_true, if_true, e1, pure_bind, List.filterMap_cons, hc, Option.map_some]
        rw [ih _ fun q hq => hl q (List.mem_cons_of_mem _ hq)]
        simp
      · have hb : (k == NameKind.free) = false := by simpa using hk
        simp only [hb, Bool.false_eq_true, if_false, pure_bind, List.filterMap_cons, if_neg hk]
        exact ih _ fun q hq => hl q (List.mem_cons_of_mem _ hq)
  have := aux scope.names [] h
  rw [List.append_nil] at this
  simp only [bind_pure]
  exact this
end L3
namespace L3
open PySem PySem.Spec L2
open PyProof.Rows hiding St

private theorem closL_sub {names : List (Str × NameKind)} {env : Env} {x : Str} {c : Addr} (h : (closL names env).lookup x = some c) : env.cells.lookup x = some c := by
  have hm : (x, c) ∈ closL names env := PySem.mem_of_lookup h
  unfold closL at hm
  rw [List.mem_reverse] at hm
  obtain ⟨p, _, hp⟩ := List.mem_filterMap.mp hm
  split at hp
  · obtain ⟨d, e1, e2⟩ := Option.map_eq_some_iff.mp hp
    cases e2
    exact e1
  · cases hp
private theorem lookup_of_mem {α : Type} {x : Str} {c : α} : ∀ {l : List (Str × α)}, (x, c) ∈ l → ∃ d, l.lookup x = some d
  | [], h => by simp at h
  | (y, d) :: r, h => by
    by_cases e : (x == y) = true
    · exact ⟨d, by rw [List.lookup_cons, e]⟩
    · have e' : (x == y) = false := by simpa using e
      rw [List.lookup_cons, e']
      rcases List.mem_cons.mp h with z | z
      · cases z; simp at e'
      · exact lookup_of_mem z
private theorem relabel_free {env : Env} : ∀ {names : List (Str × NameKind)} {x : Str}, names.lookup x = some .free →
    (names.map fun (n, k) => if (k == NameKind.free && env.scope.kind == .function && env.kindOf n == some .cell) then (n, NameKind.cell) else (n, k)).lookup x = some .cell ∨
    (names.map fun (n, k) => if (k == NameKind.free && env.scope.kind == .function && env.kindOf n == some .cell) then (n, NameKind.cell) else (n, k)).lookup x = some .free
  | [], _, h => by simp at h
  | (n, k) :: r, x, h => by
    have ih := @relabel_free env r x
    show List.lookup x ((if (k == NameKind.free && env.scope.kind == .function && env.kindOf n == some .cell) = true then (n, NameKind.cell) else (n, k)) :: _) = _ ∨ List.lookup x ((if (k == NameKind.free && env.scope.kind == .function && env.kindOf n == some .cell) = true then (n, NameKind.cell) else (n, k)) :: _) = _
    cases hx : x == n with
    | true =>
      simp only [List.lookup_cons, hx] at h
      cases h
      by_cases hc : (NameKind.free == NameKind.free && env.scope.kind == .function && env.kindOf n == some .cell) = true
      · rw [if_pos hc]; simp [List.lookup_cons, hx]
      · rw [if_neg hc]; simp [List.lookup_cons, hx]
    | false =>
      simp only [List.lookup_cons, hx] at h
      by_cases hc : (k == NameKind.free && env.scope.kind == .function && env.kindOf n == some .cell) = true
      · rw [if_pos hc]; simp only [List.lookup_cons, hx]; exact ih h
      · rw [if_neg hc]; simp only [List.lookup_cons, hx]; exact ih h
private theorem of_relabel {env : Env} {κ : NameKind} (hκ : κ = .cell ∨ κ = .free) : ∀ {names : List (Str × NameKind)} {x : Str}, (∀ y ∈ names, y.2 ≠ .cell) →
    (names.map fun (n, k) => if (k == NameKind.free && env.scope.kind == .function && env.kindOf n == some .cell) then (n, NameKind.cell) else (n, k)).lookup x = some κ → names.lookup x = some .free
  | [], _, _, h => by simp at h
  | (n, k) :: r, x, no, h => by
    have ih := @of_relabel env κ hκ r x fun y hy => no y (List.mem_cons_of_mem _ hy)
    have hk : k ≠ .cell := no (n, k) (List.mem_cons_self ..)
    have h : List.lookup x ((if (k == NameKind.free && env.scope.kind == .function && env.kindOf n == some .cell) = true then (n, NameKind.cell) else (n, k)) :: _) = _ := h
    cases hx : x == n with
    | true =>
      simp only [List.lookup_cons, hx]
      by_cases hc : (k == NameKind.free && env.scope.kind == .function && env.kindOf n == some .cell) = true
      · have : k = .free := by
          simp only [Bool.and_eq_true, beq_iff_eq] at hc
          exact hc.1.1
        rw [this]
      · rw [if_neg hc] at h
        simp only [List.lookup_cons, hx] at h
        cases h
        rcases hκ with z | z
        · exact absurd z hk
        · rw [z]
    | false =>
      simp only [List.lookup_cons, hx]
      by_cases hc : (k == NameKind.free && env.scope.kind == .function && env.kindOf n == some .cell) = true
      · rw [if_pos hc] at h; simp only [List.lookup_cons, hx] at h; exact ih h
      · rw [if_neg hc] at h; simp only [List.lookup_cons, hx] at h; exact ih h
noncomputable def frOk (N N' : List Str) (fr : List (Option Nat)) (names : List (Str × NameKind)) : Bool :=
  fr.length == N'.length && (List.range N'.length).all fun i => match N'[i]?, fr[i]? with
    | some x, some (some j) => N[j]? == some x && names.lookup x == some .free
    | _, _ => true
private theorem compOk_of {X : Cx} {scope : Scope} {N' : List Str} {fr : List (Option Nat)} (hk : scope.kind = .function) (noc : (scope.names.all fun y => y.2 != .cell) = true) (names : (scope.names.all fun y => y.2 != .local || scope.names.lookup y.1 == some .local) = true)
    (frees : (scope.names.all fun y => y.2 != .free || X.env.scope.names.lookup y.1 == some .cell) = true) (hc : ∀ x, X.env.scope.names.lookup x = some .cell → ∃ c, X.env.cells.lookup x = some c) (ok : frOk X.N N' fr scope.names = true) : CompOk X scope (closL scope.names X.env) N' fr := by
  have noc' : ∀ y ∈ scope.names, y.2 ≠ .cell := fun y hy => by simpa using List.all_eq_true.mp noc y hy
  have frees' : ∀ y ∈ scope.names, y.2 = .free → X.env.scope.names.lookup y.1 = some .cell := fun y hy e => by
    have := List.all_eq_true.mp frees y hy
    rw [e] at this
    simpa using this
  have hcl : ∀ p ∈ scope.names, p.2 = .free → ∃ c, X.env.cells.lookup p.1 = some c := fun p hp e => hc _ (frees' p hp e)
  unfold frOk at ok
  simp only [Bool.and_eq_true, beq_iff_eq] at ok
  refine ⟨closureFor_eq hcl, hk, noc', fun y hy e => ?_, fun x c => closL_sub, fun x h => ?_, ok.1, fun i x j e1 e2 => ?_⟩
  · have := List.all_eq_true.mp names y hy
    rw [e] at this
    simpa using this
  · have hf : scope.names.lookup x = some .free := by
      rcases h with h | h
      · exact of_relabel (.inl rfl) noc' h
      · exact of_relabel (.inr rfl) noc' h
    have hm := PySem.mem_of_lookup hf
    obtain ⟨c, e⟩ := hcl _ hm rfl
    refine lookup_of_mem (c := c) ?_
    unfold closL
    rw [List.mem_reverse]
    exact List.mem_filterMap.mpr ⟨_, hm, by simp [e]⟩
  · have hi : i < N'.length := (List.getElem?_eq_some_iff.mp e1).1
    have := List.all_eq_true.mp ok.2 i (List.mem_range.mpr hi)
    rw [e1, e2] at this
    simp only [Bool.and_eq_true, beq_iff_eq] at this
    exact ⟨this.1, frees' _ (PySem.mem_of_lookup this.2) rfl, relabel_free this.2⟩
private theorem compOk_at {X : Cx} {scope sc : Scope} {N N' : List Str} {fr : List (Option Nat)} (hsc : X.env.scope = sc) (hN : X.N = N) (hk : scope.kind = .function) (noc : (scope.names.all fun y => y.2 != .cell) = true) (names : (scope.names.all fun y => y.2 != .local || scope.names.lookup y.1 == some .local) = true)
    (frees : (scope.names.all fun y => y.2 != .free || sc.names.lookup y.1 == some .cell) = true) (hc : ∀ x, X.env.scope.names.lookup x = some .cell → ∃ c, X.env.cells.lookup x = some c) (ok : frOk N N' fr scope.names = true) : CompOk X scope (closL scope.names X.env) N' fr :=
  compOk_of hk noc names (by rw [hsc]; exact frees) hc (by rw [hN]; exact ok)
private theorem cells_def {CX : CXT} {P : Program} {w : World} {K : PySem.W.Frag} {mg : Str → Option Value} {base : Heap} {N : List Str} {qual : Str} {scope : Scope} {f : Addr} {cd : Value} {A : Around} {outer : List Env} {s : Shared} {H : Hp} {E : XK} :
    ∀ x, (cxOf CX P w K mg base N qual scope f cd A outer s H E).env.scope.names.lookup x = some .cell → ∃ c, (cxOf CX P w K mg base N qual scope f cd A outer s H E).env.cells.lookup x = some c := fun _ h => cell_has h

noncomputable def intsOf : List D → Option (List Int)
  | [] => some []
  | .i x :: ds => (intsOf ds).map (x :: ·)
  | _ => none
private theorem intsOf_map (ns : List Int) : intsOf (ns.map D.i) = some ns := by
  induction ns with
  | nil => rfl
  | cons n ns ih => simp [intsOf, ih]
private theorem intsOf_eq : ∀ {ds : List D} {ns : List Int}, intsOf ds = some ns → ds = ns.map D.i
  | [], _, h => by cases h; rfl
  | .i x :: ds, _, h => by
    obtain ⟨r, e, rfl⟩ := Option.map_eq_some_iff.mp (show (intsOf ds).map (x :: ·) = _ from h)
    rw [intsOf_eq e]; rfl
  | .n :: _, _, h => by cases h
  | .b _ :: _, _, h => by cases h
  | .s _ :: _, _, h => by cases h
  | .t _ :: _, _, h => by cases h
  | .l _ :: _, _, h => by cases h
  | .d _ _ :: _, _, h => by cases h
  | .x _ _ _ :: _, _, h => by cases h
  | .o _ _ _ :: _, _, h => by cases h
private theorem denL_ints {K : PySem.W.Frag} {F : Hp} : ∀ {ns : List Int} {vs : List V}, DenL K F (ns.map D.i) vs → vs = ns.map V.int
  | [], _, q => q
  | n :: ns, _, q => by
    obtain ⟨v, r, rfl, q1, q2⟩ := q
    rw [denL_ints q2, show v = V.int n from q1]; rfl
section
variable {X : Cx}
private theorem DenL.rep {K : PySem.W.Frag} {F : Hp} {ds : List D} {vs : List V} (q : DenL K F ds vs) : ∀ n : Nat, DenL K F (List.replicate n ds).flatten (List.replicate n vs).flatten
  | 0 => by simp; exact DenL.nil
  | n + 1 => by
    rw [List.replicate_succ, List.replicate_succ, List.flatten_cons, List.flatten_cons]
    exact q.append (DenL.rep q n)
end
end L3
namespace L3
open PySem PySem.Spec L2
open PyProof.Rows hiding St

noncomputable def Itz (K : PySem.W.Frag) (a b : Addr) : It :=
  ⟨fun i H => ∃ xs ys x y, SqL K H a xs ∧ SqL K H b ys ∧ xs[i]? = some x ∧ ys[i]? = some y,
   fun i H v H' => ∃ T x y, (∀ xs, SqL K H a xs → xs[i]? = some x) ∧ (∀ ys, SqL K H b ys → ys[i]? = some y) ∧ H T = none ∧ v = .ref T ∧ H' = upd H T (.tup [x, y]),
   fun i H => ∃ xs ys, SqL K H a xs ∧ SqL K H b ys ∧ (xs.length ≤ i ∨ ys.length ≤ i)⟩
private theorem turn_zip {P : Program} {w : World} {K : PySem.W.Frag} {elts : List Expr} {x1} {pos : Pos} (a b z TI TO i1 i2 : Addr) (D : ZipApart z TI TO i1 i2 a b) : Turn P w K (.Tuple elts x1 pos) (Itz K a b) [z, TI, TO, i1, i2] z
    (fun i h => IsZip h z TI TO .none ∧ IsPair h TI (.ref i1) (.ref i2) ∧ (∃ c d, IsPair h TO c d) ∧ h.IsListIter i1 a i ∧ h.IsListIter i2 b i) where
  mem := by simp
  obj := fun i h ⟨hz, hTI, ⟨c, d, hTO⟩, h1, h2⟩ q hq => by
    simp only [List.mem_cons, List.not_mem_nil, or_false] at hq
    rcases hq with rfl | rfl | rfl | rfl | rfl
    · exact ⟨_, hz, fun v z => by cases z⟩
    · exact ⟨_, hTI, fun v z => by cases z⟩
    · exact ⟨_, hTO, fun v z => by cases z⟩
    · obtain ⟨o, e, c, d⟩ := h1
      exact ⟨o, e, fun v z => by rw [d] at z; cases z⟩
    · obtain ⟨o, e, c, d⟩ := h2
      exact ⟨o, e, fun v z => by rw [d] at z; cases z⟩
  keep := fun i h h' ⟨hz, hTI, ⟨c, d, hTO⟩, h1, h2⟩ k => ⟨k z (by simp) _ hz, k TI (by simp) _ hTI, ⟨c, d, k TO (by simp) _ hTO⟩, h1.at fun o q => k i1 (by simp) o q, h2.at fun o q => k i2 (by simp) o q⟩
  item := by
    intro X hP hw hK hc i pins s σ H E I hf st hg
    subst hP hw hK
    obtain ⟨hz, hTI, ⟨c, d, hTO⟩, h1, h2⟩ := st
    obtain ⟨xs, ys, x, y, hqx, hqy, hx, hy⟩ := hg
    obtain ⟨its, rv, p, hzx⟩ := I.list hqx
    obtain ⟨jts, rw', p', hzy⟩ := I.list hqy
    obtain ⟨u, hu, ru⟩ := rv.get hx
    obtain ⟨u', hu', ru'⟩ := rw'.get hy
    refine wpAny_pyNext_zip_item D hz hTI hTO h1 h2 p.isList p'.isList (x := u) (y := u') (by simpa using hu) (by simpa using hu') fun h' a1 a2 a3 a4 a5 a6 hk => ⟨_, rfl, ?_⟩
    refine wpAny_letOwnedTupleGo_zip a1 fun h3 hz3 hs3 => ?_
    have nez : s.heap.objs.size ≠ z := Nat.ne_of_gt (Heap.lt_size hz)
    have kp : ∀ b ob, b ∉ [z, TI, TO, i1, i2] → s.heap.get? b = some ob → h3.get? b = some ob := fun b ob hb q => by
      have b1 : b ≠ z := fun z => hb (by simp [z])
      exact hs3.extBut _ _ b1 (hk b ob b1 (fun z => hb (by simp [z])) (fun z => hb (by simp [z])) (fun z => hb (by simp [z])) q)
    have hT3 : h3.get? s.heap.objs.size = some { cls := .type "tuple", data := .seq #[u, u'] } := hs3.extBut _ _ nez a5
    have hTn := I.hok.fresh (Nat.le_refl s.heap.objs.size)
    have I9 : L2.Inv X pins σ (upd H s.heap.objs.size (.tup [x, y])) { s with heap := h3, toks := s.toks } :=
      Inv.turnedLay (t' := s.toks) I hf kp (Nat.le_refl _) ⟨by show 2 ≤ sizeLine; decide, [u, u'], .cons ru (.cons ru' .nil), ⟨_, hT3, rfl, _, rfl⟩⟩
    refine ⟨.ref s.heap.objs.size, upd H s.heap.objs.size (.tup [x, y]), I9, rfl, ⟨s.heap.objs.size, x, y, fun zs hy => by rw [I.list_inj hy hqx]; exact hx, fun zs hy' => by rw [I.list_inj hy' hqy]; exact hy, hTn, rfl, rfl⟩,
      ⟨hz3, hs3.extBut _ _ D.TIz (hk _ _ D.TIz D.TITO D.TIi1 D.TIi2 hTI), ⟨_, _, hs3.extBut _ _ D.TOz a2⟩, a3.at fun o q => hs3.extBut _ _ D.i1z q, a4.at fun o q => hs3.extBut _ _ D.i2z q⟩, fun q hq => ?_⟩
    rw [upd_ne]
    · exact (hf q hq).1
    · intro e
      have lt : q < s.heap.objs.size := by
        simp only [List.mem_cons, List.not_mem_nil, or_false] at hq
        rcases hq with rfl | rfl | rfl | rfl | rfl
        · exact Heap.lt_size hz
        · exact Heap.lt_size hTI
        · exact Heap.lt_size hTO
        · obtain ⟨o, e, _⟩ := h1; exact Heap.lt_size e
        · obtain ⟨o, e, _⟩ := h2; exact Heap.lt_size e
      rw [e] at lt; exact absurd lt (Nat.lt_irrefl _)
  done := by
    intro X hP hw hK hc i pins s σ H E I hf st hg
    subst hP hw hK
    obtain ⟨hz, hTI, ⟨c, d, hTO⟩, h1, h2⟩ := st
    obtain ⟨xs, ys, hqx, hqy, he⟩ := hg
    obtain ⟨its, rv, p, hzx⟩ := I.list hqx
    obtain ⟨jts, rw', p', hzy⟩ := I.list hqy
    have hl := rv.length
    have hl' := rw'.length
    refine wpAny_pyNext_zip_end (I.ok.hd hc) D hz hTI hTO h1 h2 p.isList p'.isList (by
      rcases he with he | he
      · exact .inl (by simp; omega)
      · exact .inr (by simp; omega)) fun h' hk => ⟨rfl, Inv.turnedL (t' := s.toks) I hf fun b ob hb q => hk b ob (fun z => hb (by simp [z])) (fun z => hb (by simp [z])) (fun z => hb (by simp [z])) (fun z => hb (by simp [z])) q⟩
  self := fun _ _ _ _ _ ⟨hz, _⟩ h => wpAny_pyIter_zip hz h

noncomputable def zipDs : List D → List D → List D
  | x :: xs, y :: ys => .t [x, y] :: zipDs xs ys
  | _, _ => []
private theorem zipDs_get : ∀ {xs ys : List D} {i : Nat} {d : D}, (zipDs xs ys)[i]? = some d → ∃ x y, xs[i]? = some x ∧ ys[i]? = some y ∧ d = .t [x, y]
  | [], _, _, _, h => by simp [zipDs] at h
  | _ :: _, [], _, _, h => by simp [zipDs] at h
  | x :: xs, y :: ys, 0, d, h => by simp [zipDs] at h; exact ⟨x, y, rfl, rfl, h.symm⟩
  | x :: xs, y :: ys, i + 1, d, h => by
    have h' : (zipDs xs ys)[i]? = some d := by simpa [zipDs] using h
    obtain ⟨a, b, h1, h2, h3⟩ := zipDs_get h'
    exact ⟨a, b, by simpa using h1, by simpa using h2, h3⟩
private theorem zipDs_len : ∀ {xs ys : List D} {i : Nat}, (zipDs xs ys).length ≤ i → xs.length ≤ i ∨ ys.length ≤ i
  | [], _, _, _ => .inl (Nat.zero_le _)
  | _ :: _, [], _, _ => .inr (Nat.zero_le _)
  | x :: xs, y :: ys, 0, h => by simp [zipDs] at h
  | x :: xs, y :: ys, i + 1, h => by
    have h' : (zipDs xs ys).length ≤ i := by simpa [zipDs] using h
    rcases zipDs_len h' with q | q
    · exact .inl (by simpa using q)
    · exact .inr (by simpa using q)
private theorem itok_zip {K : PySem.W.Frag} {F : Hp} {a b : Addr} {vs us : List V} {ds es : List D} (h1 : SqL K F a vs) (h2 : DenL K F ds vs) (k1 : SqL K F b us) (k2 : DenL K F es us) : ItOk K F (Itz K a b) (zipDs ds es) := fun i F' H s1 s2 => by
  have q : SqL K H a vs := (s1.trans s2).seq h1
  have r : SqL K H b us := (s1.trans s2).seq k1
  refine ⟨fun d e => ?_, fun hl => ⟨vs, us, q, r, by rw [← h2.length, ← k2.length]; exact zipDs_len hl⟩⟩
  obtain ⟨x, y, ex, ey, rfl⟩ := zipDs_get e
  obtain ⟨v, e1, den⟩ := h2.get ex
  obtain ⟨u, e2, den2⟩ := k2.get ey
  refine ⟨⟨vs, us, v, u, q, r, e1, e2⟩, fun x H' zq9 => ?_⟩
  obtain ⟨T, v', u', hv, hu, hT, hx, eH⟩ := zq9
  subst hx eH
  have z1 := hv vs q
  rw [e1] at z1; cases z1
  have z2 := hu us r
  rw [e2] at z2; cases z2
  have g := Grow.lay s2 hT (.tup [v, u])
  exact ⟨_, g, T, _, rfl, SqT.of upd_same, .cons (den.mono (s1.trans g.ff)) (.cons (den2.mono (s1.trans g.ff)) .nil)⟩
section
variable {X : Cx} {pos q : Pos} {elts : List Expr} {x1 : _} {tpos : Pos}
noncomputable def zipF (g : List Sl → Option (List D)) (ρ : List Sl) : Option (List D) := match g ρ with
  | some [.l ds, .l es] => some (zipDs ds es)
  | _ => none
private theorem pix_zip {a b : Expr} {g : List Sl → Option (List D)} (hg : Gl X "zip") (hm : X.mg "zip" = none) (hb : bootBuiltins "zip" = some (.type "zip")) (ha : PXs X [a, b] g)
    (hs : autoParam (starEach [a, b] X.env = (false, eval a X.env) :: starEach [b] X.env) _root_.zt2) (hpl : autoParam ((backTo pos (starEach [b] X.env)).any (·.1) = false) _root_.zt2) :
    PIX X (.Tuple elts x1 tpos) (.Call (.Name "zip" q) [a, b] [] pos) (zipF g) := by
  intro pins s σ H R I zq9
  obtain ⟨F, ρ, items, R', e, k⟩ := zq9
  unfold zipF at e
  split at e
  · rename_i ds es e1
    cases e
    refine Call_ (ld_blt I hg hm hb (PyProof.Rows.callWith_type1 (thn (ha pos pins s σ H (fun vs H1 => ∃ F1, Grow F H F1 H1 ∧ DenL X.K F1 [.l ds, .l es] vs) I ⟨F, ρ, _, R', e1, fun vs F1 H1 g1 q1 => ⟨F1, g1, q1⟩⟩) fun us s1 zq9 => ?_) hs hpl))
    obtain ⟨vs, H1, I1, r1, F1, g1, q1⟩ := zq9
    obtain ⟨v, v', rfl, ⟨c, xs, rfl, z1, z2⟩, ⟨c', ys, rfl, y1, y2⟩⟩ := den2 q1
    obtain ⟨u, u', rfl, r, r'⟩ := Vals.two r1
    cases r
    cases r'
    obtain ⟨its, rv, p, hz⟩ := I1.list (g1.sub.seq z1)
    obtain ⟨jts, rv', p', hz'⟩ := I1.list (g1.sub.seq y1)
    have lc : c < s1.heap.objs.size := by obtain ⟨o, e, _⟩ := p.isList; exact Heap.lt_size e
    have lc' : c' < s1.heap.objs.size := by obtain ⟨o, e, _⟩ := p'.isList; exact Heap.lt_size e
    refine call_zip_2 p.isList p'.isList fun h' hzz hTI hTO hi1 hi2 hsz kp => wpAny_pyIter_zip hzz ?_
    have I2 : L2.Inv X pins σ H1 { s1 with heap := h' } := I1.kept (t' := s1.toks) kp
    refine ⟨s1.heap.objs.size + 4, [s1.heap.objs.size + 4, s1.heap.objs.size + 2, s1.heap.objs.size + 3, s1.heap.objs.size, s1.heap.objs.size + 1], _, _, H1, rfl, I2, turn_zip c c' _ _ _ _ _ (PySem.W.ktu_apart _ _ _ lc lc'), ⟨hzz, hTI, ⟨_, _, hTO⟩, hi1, hi2⟩, fun d hd => ?_, k _ F1 H1 g1 (itok_zip z1 z2 y1 y2)⟩
    have hd' : s1.heap.objs.size ≤ d := by
      simp only [List.mem_cons, List.not_mem_nil, or_false] at hd
      rcases hd with rfl | rfl | rfl | rfl | rfl <;> omega
    exact I1.fpOk hd' (I1.hok.fresh hd')
  · cases e
end
end L3
namespace L3
open PySem PySem.Spec L2
open PyProof.Rows hiding St

section
variable {prog : Program} {w : World} {A : Around} {E : Value → Shared → Prop} {s : Shared}
end

noncomputable def Sq (b : Bool) (h : Heap) (l : Addr) (xs : Array Value) : Prop := match b with
  | true => IsTup h l xs
  | false => h.IsList l xs
noncomputable def SqI (b : Bool) (h : Heap) (it l : Addr) (i : Nat) : Prop := match b with
  | true => IsTupIter h it l i
  | false => h.IsListIter it l i
section
variable {prog : Program} {w : World} {A : Around} {E : Value → Shared → Prop} {s : Shared} {b : Bool} {h m : Heap} {l it c : Addr} {xs : Array Value} {i : Nat}
private theorem Sq.at_ (x : Sq b h l xs) (k : ∀ o, h.get? l = some o → m.get? l = some o) : Sq b m l xs := by
  cases b with
  | true => obtain ⟨o, e, r⟩ := x; exact ⟨o, k _ e, r⟩
  | false => obtain ⟨o, e, r⟩ := x; exact ⟨o, k _ e, r⟩
private theorem SqI.at_ (x : SqI b h it l i) (k : ∀ o, h.get? it = some o → m.get? it = some o) : SqI b m it l i := by
  cases b with
  | true => obtain ⟨o, e, r⟩ := x; exact ⟨o, k _ e, r⟩
  | false => obtain ⟨o, e, r⟩ := x; exact ⟨o, k _ e, r⟩
private theorem SqI.ob (x : SqI b h it l i) : ∃ o, h.get? it = some o ∧ ∀ v, o.data ≠ .cell v := by
  cases b with
  | true => obtain ⟨o, e, _, d⟩ := x; exact ⟨o, e, fun v z => by rw [d] at z; cases z⟩
  | false => obtain ⟨o, e, _, d⟩ := x; exact ⟨o, e, fun v z => by rw [d] at z; cases z⟩
end
section
variable {prog : Program} {w : World} {A : Around} {E : Value → Shared → Prop} {s : Shared} {b1 b2 : Bool} {z TI TO i1 i2 l1 l2 : Addr} {k1 k2 : Nat} {xs ys : Array Value} {a b : Value}
end
section
variable {prog : Program} {w : World} {A : Around} {E : Value → Shared → Prop} {s : Shared} {b b1 b2 : Bool} {l l1 l2 : Addr} {xs ys : Array Value}
end

noncomputable def SqH (b : Bool) (K : PySem.W.Frag) (H : Hp) (a : Addr) (xs : List V) : Prop := match b with
  | true => SqT K H a xs
  | false => SqL K H a xs
private theorem _root_.L2.Inv.sq {X : Cx} {pins : List (Addr × Obj)} {σ : St} {H : Hp} {s : Shared} {b : Bool} {a : Addr} {xs : List V} (I : L2.Inv X pins σ H s) (h : SqH b X.K H a xs) : ∃ its : List Value, Vals xs its ∧ Sq b s.heap a its.toArray := by
  cases b with
  | true => obtain ⟨its, r, t, _⟩ := I.tuple h; exact ⟨its, r, t⟩
  | false => obtain ⟨its, r, p, _⟩ := I.list h; exact ⟨its, r, p.isList⟩
private theorem SqH.mono {b : Bool} {K : PySem.W.Frag} {H H' : Hp} {a : Addr} {xs : List V} (s : Same H H') (h : SqH b K H a xs) : SqH b K H' a xs := by
  cases b with
  | true => exact sq_mono_T s h
  | false => exact s.seq h
section
variable {X : Cx} {pos q : Pos} {elts : List Expr} {x1 : _} {tpos : Pos}
end
end L3
namespace L3
open PySem PySem.Spec L2
open PyProof.Rows hiding St

section
variable {prog : Program} {w : World} {A : Around} {E : Value → Shared → Prop} {s : Shared}
end

section
variable {X : Cx} {a b c e : Expr} {pos p2 : Pos}
private theorem DenL.reverse {K : PySem.W.Frag} {F : Hp} : ∀ {ds : List D} {vs : List V}, DenL K F ds vs → DenL K F ds.reverse vs.reverse
  | [], _, h => by cases (show _ = [] from h); exact DenL.nil
  | d :: ds, _, h => by
    obtain ⟨v, r, rfl, q1, q2⟩ := h
    rw [List.reverse_cons, List.reverse_cons]
    exact (DenL.reverse q2).append (.cons q1 .nil)
private theorem vals_rev : ∀ {xs : List V} {us : List Value}, Vals xs us → Vals xs.reverse us.reverse
  | _, _, .nil => .nil
  | _, _, .cons r q => by rw [List.reverse_cons, List.reverse_cons]; exact (vals_rev q).append (.cons r .nil)
end

section
variable {X : Cx}
noncomputable def neL (d1 d2 : D) : Option Sl := match d1, d2 with
  | .l (_ :: _), .l [] => some (.sh (.b true))
  | .l [], .l [] => some (.sh (.b false))
  | _, _ => neO d1 d2
end
end L3
namespace L3
open PySem PySem.Spec L2
open PyProof.Rows hiding St

section
variable {X : Cx} {tg : Expr}
noncomputable def intB : List D → Option Sl
  | [.i n] => some (.sh (.i n))
  | [.b b] => some (.sh (.i (if b then 1 else 0)))
  | [.s x] => if x.length ≤ 640 then (intText? x).map fun n => .sh (.i n) else none
  | _ => none
private theorem cx_int : CallR X (.type "int") (rCX X.K intB) := by
  intro pins s σ H xs us Q I r q
  obtain ⟨F, ds, rr, hs, hd, e, k⟩ := q
  unfold intB at e
  split at e
  · cases e
    obtain ⟨v, rfl, q⟩ := den1 hd
    cases (show v = V.int _ from q)
    exact call_int1 pins s σ H _ us Q I r (.inl ⟨_, rfl, k _ F H (.refl hs) (.sh rfl)⟩)
  · cases e
    obtain ⟨v, rfl, q⟩ := den1 hd
    cases (show v = V.bl _ from q)
    exact call_int1 pins s σ H _ us Q I r (.inr ⟨_, rfl, k _ F H (.refl hs) (.sh rfl)⟩)
  · rename_i x
    split at e
    · rename_i hl
      obtain ⟨n, e1, rfl⟩ := Option.map_eq_some_iff.mp e
      obtain ⟨v, rfl, q⟩ := den1 hd
      cases (show v = V.str _ from q)
      obtain ⟨u, rfl, t, rfl⟩ := vals1 r
      exact PySem.W.KIN.call_text e1 hl ⟨.int n, H, I.tok _, ⟨_, rfl⟩, k _ F H (.refl hs) (.sh rfl)⟩
    · cases e
  · cases e
end
end L3
namespace L3
open PySem PySem.Spec L2
open PyProof.Rows hiding St

noncomputable def tR (X : Cx) (x : List Sl → Option Ex) : TE := fun σ H _ => ∃ F ρ ex, Rep X.K F H σ ρ ∧ x ρ = some ex ∧ ∀ F' H' C dx e s', Grow F H F' H' → ExDen X.K F' ex C dx → Lies X σ H' C dx e s' → X.xe e s'
noncomputable abbrev RX (X : Cx) (e : Expr) (x : List Sl → Option Ex) : Prop := PE X e (tR X x)
section
variable {X : Cx} {x : Str} {p pos : Pos} {e a b : Expr} {es : List Expr} {h : List D → Option Sl} {hx : List D → Option Ex} {g : List Sl → Option (List D)} {k : Nat} {ps : List Str}
noncomputable def callX (hx : List D → Option Ex) (g : List Sl → Option (List D)) (ρ : List Sl) : Option Ex := (g ρ).bind hx
private theorem rx_fx (F : FX X.prog X.w X.K X.mg X.base k x ps h hx) (hr : Room k X.A) (hg : Gl X x) (ha : PXs X (e :: es) g) (hdb : autoParam ((x == ("__debug__" : Str)) = false) _root_.zt1) (he : autoParam (starEach (e :: es) X.env = (false, eval e X.env) :: starEach es X.env) _root_.zt2)
    (hpl : autoParam ((backTo pos (starEach es X.env)).any (·.1) = false) _root_.zt2) : RX X (.Call (.Name x p) (e :: es) [] pos) (callX hx g) := by
  obtain ⟨f, fd, h1, h2, h3, h4⟩ := F
  intro pins s σ H Q I zq9
  obtain ⟨F, ρ, ex, R, e1, kx⟩ := zq9
  unfold callX at e1
  obtain ⟨ds, e2, e3⟩ := Option.bind_eq_some_iff.mp e1
  refine wpAny_Call_Name_kw (ld_glob I hg h4 ?_ hdb)
  refine PySem.W.callWith_K (h₀ := X.base) I.ok.mod.kin h3 (thn (ha pos pins s σ H (fun vs H1 => ∃ F1, Grow F H F1 H1 ∧ DenL X.K F1 ds vs) I ⟨F, ρ, ds, R, e2, fun vs F1 H1 g1 q1 => ⟨F1, g1, q1⟩⟩) fun us s1 ⟨vs, H1, I1, r, F1, g1, q1⟩ => ⟨I1.kIn, ?_⟩) he hpl
  have sp : spXX X.K h hx (vs ++ []) H1 Q (fun C dx H' => ∀ (A : Addr) (s' : Value × Shared), C = .ref A → Lies X σ H' A dx s'.1 s'.2 → X.xe s'.1 s'.2) := .inr ⟨F1, ds, ex, g1.sub, by rw [List.append_nil]; exact q1, e3, fun C dx F2 H2 g2 xd D s' eq ly => by
    cases eq
    exact kx F2 H2 C dx s'.1 s'.2 (g1.trans g2) xd ly⟩
  have r2 : Vals (vs ++ []) (us ++ []) := r.append .nil
  have hl : (us ++ []).length = ps.length := by rw [← r2.length]; exact h1.len _ _ _ _ sp
  refine wpAny_call (codeAny_mono (h1.run X.A X.stack s1 H1 ⟨us, []⟩ (us ++ []) (vs ++ []) Q _ hr I1.env0 (h2 s1 us I1.kIn hl) r2 sp) fun r s' hq => ?_)
  cases r with
  | error v =>
    obtain ⟨C, dx, H', lie, hE⟩ := hq
    exact hE C (v, s') rfl ⟨pins, H1, s1, I1, lie⟩
  | ok fl =>
    cases fl with
    | ret u => exact I1.after hq
    | next => exact False.elim hq
    | brk => exact False.elim hq
    | cont => exact False.elim hq
end

private theorem PS.or {X : Cx} {st : Stmt} {t u : TS} (h : PS X st t) (k : PS X st u) : PS X st (fun D σ H => t D σ H ∨ u D σ H) := fun pins s σ H D I q => by
  rcases q with q | q
  · exact h pins s σ H D I q
  · exact k pins s σ H D I q
noncomputable def evX (x : List Sl → Option Ex) (ρ : List Sl) : Option Out := match x (er ρ) with
  | some ex => some (.ex ex ρ)
  | none => match x (vw ρ) with
    | some ex => some (.ex ex (vw ρ))
    | none => none
private theorem evX_ok {X : Cx} {x : List Sl → Option Ex} {F₀ H₀ F H : Hp} {σ : St} {ρ : List Sl} {o : Out} {D : Ends} {Q : VK} (R : RepS X.K F₀ H₀ F H σ ρ) (e : evX x ρ = some o) (k : endO X F₀ H₀ D o) : tR X x σ H Q := by
  unfold evX at e
  split at e
  · rename_i ex e1
    cases e
    exact ⟨F, er ρ, ex, R.rep.er, e1, fun F' H' C dx ev s' g xd ly => k F' H' σ C dx ev s' (R.grow g) xd ly⟩
  · split at e
    · rename_i ex e1
      cases e
      exact ⟨_, vw ρ, ex, R.rep.vw, e1, fun F' H' C dx ev s' g xd ly => k F' H' σ C dx ev s' (R.frozen.grow g) xd ly⟩
    · cases e
noncomputable def orO (g h : List Sl → Option Out) (ρ : List Sl) : Option Out := match g ρ with
  | some o => some o
  | none => h ρ
section
variable {X : Cx} {e : Expr} {pos : Pos}
private theorem q_or {st : Stmt} {g h : List Sl → Option Out} (hg : PQ X st g) (hh : PQ X st h) : PQ X st (orO g h) := PS.imp (PS.or hg hh) fun D σ H zq9 => by
  obtain ⟨F₀, H₀, F, ρ, o, R, e, k⟩ := zq9
  unfold orO at e
  split at e
  · rename_i o' e1
    cases e
    exact .inl ⟨F₀, H₀, F, ρ, o, R, e1, k⟩
  · exact .inr ⟨F₀, H₀, F, ρ, o, R, e, k⟩
private theorem q_setX {i : Nat} {x : Str} {pos' : Pos} {y : List Sl → Option Ex} (hN : X.N.Nodup) (hi : X.N[i]? = some x) (hx : Loc X.env.scope x) (he : RX X e y) (hs : autoParam (swapsWith e (some (.Name x pos')) pos.line X.env = pure false) _root_.zt2)
    (hf : autoParam (X.fn x = true ∨ X.env.scope.names.lookup x = some .local) _root_.zt0) : PQ X (.Assign [.Name x pos'] e pos) (evX y) :=
  PS.imp (ps_set hN hi hx he hs hf) fun D σ H ⟨F₀, H₀, F, ρ, o, R, e, k⟩ => evX_ok R e k
structure XI (P : Program) (w : World) (K : PySem.W.Frag) (mg : Str → Option Value) (base : Heap) (c : Str) (fn : List Str) : Prop where
  ex : ∃ C fI fd ps, xclsIn K C = true ∧ PySem.W.findIn K (.ref C) "__init__" = some (some (.ref fI)) ∧ PySem.W.typeIn K (.ref fI) = some (.type "function") ∧ PySem.W.keepIn K (.ref C) = true ∧ FnOk P w K mg base CX0 1 fI fd ps (spI C fn) ∧ Binds K fd ps [] ∧ mg c = some (.ref C) ∧
    PySem.W.nsIn K mainGlobals c = some (some (.ref C))
structure XP (K : PySem.W.Frag) (mg : Str → Option Value) (c : Str) : Prop where
  ex : ∃ C, PySem.W.excIn K C xTail "ValueError.__new__" = true ∧ xclsIn K C = true ∧ PySem.W.keepIn K (.ref C) = true ∧ mg c = some (.ref C) ∧ PySem.W.nsIn K mainGlobals c = some (some (.ref C))
noncomputable def raiseI (c : Str) (fn : List Str) (g : List Sl → Option (List D)) (ρ : List Sl) : Option Out := match g (er ρ) with
  | some ds => if ds.length = fn.length then some (.ex ⟨c, fn, ds⟩ ρ) else none
  | none => match g (vw ρ) with
    | some ds => if ds.length = fn.length then some (.ex ⟨c, fn, ds⟩ (vw ρ)) else none
    | none => none
variable {c : Str} {p cpos : Pos} {es : List Expr} {fn : List Str} {g : List Sl → Option (List D)} {k : Nat}
private theorem q_raiseI (xi : XI X.prog X.w X.K X.mg X.base c fn) (hr : Room k X.A) (hk : 2 ≤ k) (hfn : fn.length ≤ 1000) (hne : fn ≠ []) (hg : Gl X c) (ha : PXs X (e :: es) g) (hdb : autoParam ((c == ("__debug__" : Str)) = false) _root_.zt1)
    (he : autoParam (starEach (e :: es) X.env = (false, eval e X.env) :: starEach es X.env) _root_.zt2) (hpl : autoParam ((backTo cpos (starEach es X.env)).any (·.1) = false) _root_.zt2) : PQ X (.Raise (some (.Call (.Name c p) (e :: es) [] cpos)) none pos) (raiseI c fn g) := by
  obtain ⟨C, fI, fd, ps, h1, h2, h3, h4, h5, h6, h7, h8⟩ := xi.ex
  refine PS.imp (ps_raiseI h1 h2 h3 h4 h5 (hr.mono hk) h6 hfn hg h7 ha hdb he hpl) fun D σ H zq9 => ?_
  obtain ⟨F₀, H₀, F, ρ, o, R, e, k⟩ := zq9
  have go : ∀ {F1 H1 : Hp} {ρ1 : List Sl} {ds : List L3.D} {vs : List V}, RepS X.K F₀ H₀ F1 H1 σ ρ1 → DenL X.K F1 ds vs → ds.length = fn.length → (∀ F H σ C dx e s', RepS X.K F₀ H₀ F H σ ρ1 → ExDen X.K F ⟨c, fn, ds⟩ C dx → Lies X σ H C dx e s' → X.xe e s') →
      vs.length = fn.length ∧ ∀ d ex s', H1 d = none → Lies X σ (upd H1 d (dcH d (fn.zip vs))) C (some d) ex s' → X.xe ex s' := fun {F1 H1 ρ1 ds vs} R1 q hl k => ⟨by rw [← q.length]; exact hl, fun d ex s' hd ly => by
    have gr := Grow.lay R1.rep.sub hd (dcH d (fn.zip vs))
    exact k _ _ σ C (some d) ex s' (R1.grow gr) ⟨h8, vs, .inr ⟨d, rfl, upd_same, by rw [← q.length]; exact hl.symm⟩, q.mono gr.ff⟩ ly⟩
  unfold raiseI at e
  split at e
  · rename_i ds e1
    split at e
    · rename_i hl
      cases e
      exact ⟨F, er ρ, ds, R.rep.er, e1, fun vs F1 H1 g1 q1 => go (R.grow g1) q1 hl k⟩
    · cases e
  · split at e
    · rename_i ds e1
      split at e
      · rename_i hl
        cases e
        exact ⟨_, vw ρ, ds, R.rep.vw, e1, fun vs F1 H1 g1 q1 => go (R.frozen.grow g1) q1 hl k⟩
      · cases e
    · cases e
end
end L3
namespace L3
open PySem PySem.Spec L2
open PyProof.Rows hiding St
open PySem.W (InstAt Looks)

section
variable {prog : Program} {w : World} {A : Around} {E : Value → Shared → Prop} {s : Shared} {K : PySem.W.Frag} {a C : Addr} {ox : Obj} {odo : Option Obj} {name : Str} {v : Value}
private theorem xga_check {M : Model} {nameV : Value} {Q : Unit → Shared → Prop} (X : K.In s.heap) (q : xclsIn K C = true) (hx : s.heap.get? a = some ox) (hc : ox.cls = .ref C) (hq : Q () s) : wpAny M A (checkBuiltinCall "BaseException.__getattribute__" ⟨[.ref a, nameV], []⟩) Q E s := by
  obtain ⟨nm, qn, N, bs, bm, hd, sn, sub, ab, col, dd, k0, k1, k2, k3, k5, lk, tl⟩ := xcls_of q
  have hC := X _ _ lk
  have hk : builtinKind "BaseException.__getattribute__" = some .slot := by decide +kernel
  have hsplit : splitId "BaseException.__getattribute__" = some ("BaseException", "__getattribute__") := by decide +kernel
  have hcB : (Value.ref C :: bm).contains (.type "BaseException") = true := by rw [List.contains_cons, (PySem.W.tail_of_in X tl).hasType (show xTail.contains (.type "BaseException") = true by decide +kernel), Bool.or_true]
  have ha := F.args_bexc_ga (.ref a) nameV
  obtain ⟨h, g, d, t, os⟩ := s
  simp only [checkBuiltinCall, hk, hsplit]
  refine wpAny_bind ?_
  · unfold isInstance
    repeat (first | (with_reducible refine wpAny_loadPart_at hx ?_; rw [hc]) | (with_reducible refine wpAny_isSubtype_exc hC ?_; rw [hcB]) | wp_step)
    exact hq
private theorem xga_value {tk : Tok} {Q : Fin → Shared → Prop} (X : K.In s.heap) (I : InstAt s.heap a ox C odo) (hf : PySem.W.findObj K C odo name = some (.value v)) (k : Q (.done (.ret v)) s) : wpAny (model prog w) A (Builtin.«object.__getattribute__» ⟨[.ref a, .str name tk], []⟩) Q E s := by
  obtain ⟨hh, gg, d, t, os⟩ := s
  have L0 := I.type (M := model prog w)
  have L1 := PySem.W.looks_find (M := model prog w) X I hf
  refine wpAny_bind (wpAny_pure (wpAny_bind (wpAny_pure (wpAny_bind (L0.at (wpAny_bind (L1.at ?_)))))))
  exact wpAny_pure k
private theorem xga_by {tk : Tok} {fill expr : Bool} {Q : Value → Shared → Prop} (X : K.In s.heap) (q : xclsIn K C = true) (I : InstAt s.heap a ox C odo) (hga : PySem.W.findIn K (.ref C) "__getattribute__" = some (some (.builtin "BaseException.__getattribute__"))) (hgt : PySem.W.findIn K (.ref C) "__getattr__" = some none)
    (h : ∀ (A' : Around) (E' : Value → Shared → Prop) (P : Fin → Shared → Prop), P (.done (.ret v)) s → wpAny (model prog w) A' (Builtin.«object.__getattribute__» ⟨[.ref a, .str name tk], []⟩) P E' s) (hv : PySem.W.handedIn v = true) (k : Q v s) :
    wpAny (model prog w) A (getAttrBy (.ref a) (.str name tk) fill expr) Q E s := by
  have chk := fun (M : Model) (A' : Around) (E' : Value → Shared → Prop) (nv : Value) (P : Unit → Shared → Prop) (hp : P () s) => xga_check (M := M) (A := A') (E := E') (nameV := nv) X q I.at_ I.cls hp
  obtain ⟨hh, gg, d, t, os⟩ := s
  have L0 := I.type (M := model prog w)
  have L1 := PySem.W.looks_findIn (M := model prog w) X hga
  have L2 := PySem.W.looks_findIn (M := model prog w) X hgt
  have f3 := PySem.F.attr_ValueError.ga.bind (.ref a)
  have hx0 : (expr && onTheHeap (Value.builtin "BaseException.__getattribute__")) = false := by cases expr <;> rfl
  have hx1 : (onTheHeap (Value.ref C) && Value.builtin "BaseException.__getattribute__" == Value.builtin "object.__getattribute__") = false := by rw [show (Value.builtin "BaseException.__getattribute__" == Value.builtin "object.__getattribute__") = false by decide +kernel]; rfl
  unfold getAttrBy
  refine wpAny_holding (wpAny_bind (L0.at (wpAny_bind (L1.at ?_))))
  simp only [hx1, Bool.false_eq_true, if_false]
  unfold getAttrByItsOwn hookBefore
  refine wpAny_bind ?_
  rw [if_pos (show onTheHeap (Value.ref C) = true from rfl)]
  refine L2.at ?_
  refine wpAny_bind (wpAny_attempt (wpAny_holding ?_))
  unfold callGetattribute
  rw [hx0]
  simp only [Bool.false_eq_true, if_false]
  unfold boundAndCalled
  rw [f3]
  refine wpAny_bind (wpAny_pure ?_)
  refine wpAny_call ?_
  refine codeAny_call_builtin PySem.F.attr_ValueError.ga.plain F.entry_bexc_ga (chk _ _ _ _ _ (h _ _ _ ?_))
  show wpAny _ _ (handedOut v) _ _ _
  rw [PySem.W.handedOut_of hv]; exact wpAny_pure k
private theorem xget' {expr : Bool} {Q : Value → Shared → Prop} (X : K.In s.heap) (q : xclsIn K C = true) (I : InstAt s.heap a ox C odo) (hga : PySem.W.findIn K (.ref C) "__getattribute__" = some (some (.builtin "BaseException.__getattribute__"))) (hgt : PySem.W.findIn K (.ref C) "__getattr__" = some none)
    (hf : PySem.W.findObj K C odo name = some (.value v)) (hv : PySem.W.handedIn v = true) (k : ∀ t, Q v { s with toks := t }) : wpAny (model prog w) A (getAttr (.ref a) name expr) Q E s := by
  obtain ⟨hh, gg, d, t, os⟩ := s
  unfold getAttr
  exact wpAny_bind (wpAny_mkText (xga_by (s := ⟨hh, gg, d, t + 1, os⟩) X q I hga hgt (fun A' E' P hp => xga_value (s := ⟨hh, gg, d, t + 1, os⟩) X I hf hp) hv (k _)))
end
end L3
namespace L3
open PySem PySem.Spec L2
open PyProof.Rows hiding St
open PySem.W (InstAt Looks)

private theorem held_unset {σ : St} {ρ : List Sl} {i : Nat} {p : Addr} (h : Held (σ.set i none) (ρ.set i .un) p) : Held σ ρ p := by
  obtain ⟨j, r, e, o, q⟩ := h
  by_cases z : i = j
  · subst z
    have hi : i < ρ.length := by
      by_cases hl : i < ρ.length
      · exact hl
      · rw [List.getElem?_eq_none (by simpa using hl)] at e; cases e
    rw [List.getElem?_set_self hi] at e
    cases e; cases o
  · rw [List.getElem?_set_ne z] at e q
    exact ⟨j, r, e, o, q⟩
private theorem RepS.unset {K : PySem.W.Frag} {F₀ H₀ F H : Hp} {σ : St} {ρ : List Sl} {i : Nat} (R : RepS K F₀ H₀ F H σ ρ) : RepS K F₀ H₀ F H (σ.set i none) (ρ.set i .un) := by
  have nun : ∀ {j : Nat} {r : Sl}, (ρ.set i .un)[j]? = some r → r ≠ .un → i ≠ j ∧ ρ[j]? = some r := fun {j r} e n => by
    rcases get_set_inv e with ⟨_, z, _⟩ | ⟨z, e'⟩
    · exact absurd z n
    · exact ⟨Ne.symm z, e'⟩
  refine ⟨⟨R.rep.sub, fun j r e n => ?_, fun j j' r1 r2 p e1 e2 o1 o2 s1 s2 => ?_, by simpa using R.rep.len⟩, R.gr, fun p h => R.fresh p (held_unset h)⟩
  · obtain ⟨z, e'⟩ := nun e n
    obtain ⟨w, w1, w2⟩ := R.rep.at_ j r e' n
    exact ⟨w, by rw [List.getElem?_set_ne z]; exact w1, w2⟩
  · obtain ⟨z1, e1'⟩ := nun e1 (by rintro rfl; cases o1)
    obtain ⟨z2, e2'⟩ := nun e2 (by rintro rfl; cases o2)
    rw [List.getElem?_set_ne z1] at s1
    rw [List.getElem?_set_ne z2] at s2
    exact R.rep.apart j j' r1 r2 p e1' e2' o1 o2 s1 s2

noncomputable abbrev _root_.L2.Cx.trial (X : Cx) (E : Value → Shared → Prop) (pn : List (Addr × Obj)) : Cx := { X with xe := E, pn := pn }
section
variable {X : Cx} {pins : List (Addr × Obj)} {σ : St} {H : Hp} {s : Shared} {E : Value → Shared → Prop}
private theorem _root_.L2.Inv.trial (I : L2.Inv X pins σ H s) (E : Value → Shared → Prop) : L2.Inv (X.trial E (X.pn ++ pins)) [] σ H s :=
  ⟨⟨I.ok.mod, I.ok.kind, I.ok.glob, I.ok.blt, I.ok.above, I.ok.inj, I.ok.has, I.ok.cab, I.ok.hd, I.ok.frames, I.ok.stk, I.ok.exf, I.ok.bs, I.ok.bsz, I.ok.noex, I.ok.exfs, I.ok.funs, I.ok.frf⟩, I.os, I.bare, I.base, I.loc, I.cell, I.free, I.freeC, fun p hp => I.pin p (by simpa using hp), I.hok, I.len⟩
private theorem _root_.L2.Inv.untrial {ps : List (Addr × Obj)} (I : L2.Inv (X.trial E (X.pn ++ pins)) ps σ H s) : L2.Inv X pins σ H s :=
  ⟨⟨I.ok.mod, I.ok.kind, I.ok.glob, I.ok.blt, I.ok.above, I.ok.inj, I.ok.has, I.ok.cab, I.ok.hd, I.ok.frames, I.ok.stk, I.ok.exf, I.ok.bs, I.ok.bsz, I.ok.noex, I.ok.exfs, I.ok.funs, I.ok.frf⟩, I.os, I.bare, I.base, I.loc, I.cell, I.free, I.freeC, fun p hp => I.pin p (List.mem_append_left _ hp), I.hok, I.len⟩
private theorem SP.untrial {D : Ends} {f : Flow} {s' : Shared} (h : SP (X.trial E (X.pn ++ pins)) [] D f s') : SP X pins D f s' := by
  cases f with
  | next => obtain ⟨σ', H', I, q⟩ := h; exact ⟨σ', H', I.untrial, q⟩
  | brk => obtain ⟨σ', H', I, q⟩ := h; exact ⟨σ', H', I.untrial, q⟩
  | cont => obtain ⟨σ', H', I, q⟩ := h; exact ⟨σ', H', I.untrial, q⟩
  | ret u => obtain ⟨v, σ', H', I, r, q⟩ := h; exact ⟨v, σ', H', I.untrial, r, q⟩
private theorem lie_here {M : Model} {H' : Hp} {C : Addr} {dx : Option Addr} {ex : Value} {s' : Shared} {Q : Value → Shared → Prop} (I : L2.Inv X pins σ H s) (L : Lie X.prog X.w X.stack H s H' C dx ex s') (hst : X.stack = X.env :: X.outer) (hfr : X.env.frame = some X.env.locals)
    (k : ∀ a s'', ex = .ref a → H' a = none → Here X pins σ H' C dx a s'' → Q ex s'') :
    wpAny M X.A (noteFrame ex X.env) (fun _ s2 => wpAny M X.A (setFlight ex none) (fun _ s3 => Q ex s3) E s2) E s' := by
  have fa : ∃ a, ex = .ref a ∧ H' a = none := by
    obtain ⟨a, B, e, _, _, fa, _⟩ := L.ex
    exact ⟨a, e, fa⟩
  obtain ⟨a, B, rfl, fl, step⟩ := lie_land L
  have os := L.os
  have bare := L.bare
  have inv : ∀ h', Flies B X.stack a (.ref C) dx h' → s'.heap.UpToSlots h' → Inv X pins σ (upd H' a (xoH a C dx)) { s' with heap := h' } := fun h' f u =>
    I.call' (s' := { s' with heap := h' }) os (step h' f u).1 (step h' f u).2 bare (fun b z => absurd z (by simp))
  rw [hst] at fl inv
  refine note_land (by rw [I.ok.frames, hst]) hfr fl fun h' f u => k a _ rfl (by obtain ⟨a', e, z⟩ := fa; cases e; exact z) ⟨B, ?_, fun h2 f2 u2 => ?_⟩
  · rw [hst]; exact f
  · rw [hst] at f2; exact inv h2 f2 (u.trans u2)
end
structure Cl where
  t : List (Str × Bool)
  i : Option Nat
  h : List Sl → Option Out
noncomputable def noEx : Out → Option Out
  | .ex _ _ => none
  | o => some o
noncomputable def unO (i : Nat) : Out → Option Out
  | .nx ρ => some (.nx (ρ.set i .un))
  | .bk ρ => some (.bk (ρ.set i .un))
  | .ct ρ => some (.ct (ρ.set i .un))
  | .rt r => some (.rt r)
  | .ex _ _ => none
noncomputable def clsG : List Cl → Ex → List Sl → Option Out
  | [], _, _ => none
  | c :: r, x, ρ => match c.t.lookup x.c with
    | some true => (match c.i with
      | none => (c.h ρ).bind noEx
      | some i => (c.h (ρ.set i (.sh (.x x.c x.ks x.vs)))).bind (unO i))
    | some false => clsG r x ρ
    | none => none
noncomputable def tryG (g : List Sl → Option Out) (cs : List Cl) (ρ : List Sl) : Option Out := match g ρ with
  | some (.ex x ρ') => clsG cs x ρ'
  | o => o
structure XT (K : PySem.W.Frag) (mg : Str → Option Value) (hx : Str) (tb : List (Str × Bool)) : Prop where
  ex : ∃ cv, (mg hx = some cv ∨ (mg hx = none ∧ bootBuiltins hx = some cv ∧ hx ≠ "__name__")) ∧ ∀ p ∈ tb, ∃ C, PySem.W.nsIn K mainGlobals p.1 = some (some (.ref C)) ∧ PySem.W.exmOne K (.ref C) cv = some p.2
private theorem lookup_mem {tb : List (Str × Bool)} {n : Str} {b : Bool} (h : tb.lookup n = some b) : (n, b) ∈ tb := by
  induction tb with
  | nil => cases h
  | cons p r ih =>
    obtain ⟨m, c⟩ := p
    rw [List.lookup_cons] at h
    split at h
    · rename_i z
      cases h
      rw [eq_of_beq z]; exact List.mem_cons_self
    · exact List.mem_cons_of_mem _ (ih h)
inductive Clauses (X : Cx) : List ExceptHandler → List Cl → Prop
  | nil : Clauses X [] []
  | cl {hx : Str} {np pos : Pos} {b0 : Stmt} {body : List Stmt} {rest : List ExceptHandler} {cs : List Cl} {tb : List (Str × Bool)} {h : List Sl → Option Out} : XT X.K X.mg hx tb → Gl X hx → (hx == ("__debug__" : Str)) = false → (∀ e, PQs (suite X e) (b0 :: body) h) → Clauses X rest cs →
      Clauses X (.ExceptHandler (some (.Name hx np)) none (b0 :: body) pos :: rest) (⟨tb, none, h⟩ :: cs)
  | as {hx n : Str} {i : Nat} {np pos : Pos} {b0 : Stmt} {body : List Stmt} {rest : List ExceptHandler} {cs : List Cl} {tb : List (Str × Bool)} {h : List Sl → Option Out} : XT X.K X.mg hx tb → Gl X hx → (hx == ("__debug__" : Str)) = false → (∀ e, PQs (suite X e) (b0 :: body) h) →
      X.N[i]? = some n → X.env.scope.names.lookup n = some .local → Clauses X rest cs → Clauses X (.ExceptHandler (some (.Name hx np)) (some n) (b0 :: body) pos :: rest) (⟨tb, some i, h⟩ :: cs)
section
variable {X : Cx}
private theorem XT.nam {hx : Str} {tb : List (Str × Bool)} (x : XT X.K X.mg hx tb) (hg : Gl X hx) (hd : (hx == ("__debug__" : Str)) = false) : ∃ cv, Nam X hx cv ∧ ∀ n b C, tb.lookup n = some b → PySem.W.nsIn X.K mainGlobals n = some (some (.ref C)) → PySem.W.exmOne X.K (.ref C) cv = some b := by
  obtain ⟨cv, h1, h2⟩ := x.ex
  refine ⟨cv, ⟨hg, h1, hd⟩, fun n b C e q => ?_⟩
  obtain ⟨C', q', z⟩ := h2 _ (lookup_mem e)
  simp only at q' z
  rw [q] at q'; cases q'
  exact z
private theorem cls_ok (hN : X.N.Nodup) : ∀ {hs : List ExceptHandler} {cs : List Cl}, Clauses X hs cs → ∀ {pins : List (Addr × Obj)} {σ : St} {F₀ H₀ F H' : Hp} {C a : Addr} {dx : Option Addr} {s : Shared} {D : Ends} {ρ : List Sl} {x : Ex} {o : Out},
    Here X pins σ H' C dx a s → RepS X.K F₀ H₀ F H' σ ρ → ExDen X.K F x C dx → H' a = none → clsG cs x ρ = some o → endO X F₀ H₀ D o → wpAny (model X.prog X.w) X.A (handleBy (.ref a) X.env hs) (SP X pins D) X.xe s := by
  intro hs cs h
  induction h with
  | nil => intro pins σ F₀ H₀ F H' C a dx s D ρ x o _ _ _ _ e; cases e
  | cl xt hg hd hb _ ih =>
    intro pins σ F₀ H₀ F H' C a dx s D ρ x o hr R xd fa e k
    obtain ⟨cv, nm, tt⟩ := xt.nam hg hd
    unfold clsG at e
    split at e
    · rename_i e1
      simp only at e
      obtain ⟨o', e2, e3⟩ := Option.bind_eq_some_iff.mp e
      have gr := Grow.lay R.rep.sub fa (xoH a C dx)
      refine clause_hit hr nm (tt _ _ _ e1 xd.1) (hb _) ⟨F₀, H₀, _, ρ, o', R.grow gr, e2, ?_⟩
      cases o' <;> cases e3 <;> exact k
    · rename_i e1
      exact clause_miss hr nm (tt _ _ _ e1 xd.1) (ih hr R xd fa e k)
    · cases e
  | @as hx n i np pos b0 body rest cs tb h xt hg hd hb hi hl _ ih =>
    intro pins σ F₀ H₀ F H' C a dx s D ρ x o hr R xd fa e k
    obtain ⟨cv, nm, tt⟩ := xt.nam hg hd
    unfold clsG at e
    split at e
    · rename_i e1
      simp only at e
      obtain ⟨o', e2, e3⟩ := Option.bind_eq_some_iff.mp e
      have gr := Grow.lay R.rep.sub fa (xoH a C dx)
      have xd' := xd.mono gr.ff
      obtain ⟨q1, us, q2, q3⟩ := xd'
      have den : Den X.K (upd F a (xoH a C dx)) (.x x.c x.ks x.vs) (.ref a) := ⟨a, C, dx, us, rfl, q1, upd_same, q2, q3⟩
      refine clause_hitAs hr nm (tt _ _ _ e1 xd.1) (hb _) hN hi hl ⟨F₀, H₀, _, _, o', (R.grow gr).store (i := i) (r := .sh (.x x.c x.ks x.vs)) den (fun o => by cases o), e2, ?_⟩
      cases o' with
      | nx ρ' => cases e3; exact fun F H σ R => k F H _ R.unset
      | bk ρ' => cases e3; exact fun F H σ R => k F H _ R.unset
      | ct ρ' => cases e3; exact fun F H σ R => k F H _ R.unset
      | rt r => cases e3; exact k
      | ex _ _ => cases e3
    · rename_i e1
      exact clause_miss hr nm (tt _ _ _ e1 xd.1) (ih hr R xd fa e k)
    · cases e
private theorem q_try {body : List Stmt} {h0 : ExceptHandler} {hs : List ExceptHandler} {pos : Pos} {cs : List Cl} {g : List Sl → Option Out} (hN : X.N.Nodup) (hst : X.stack = X.env :: X.outer) (hfr : X.env.frame = some X.env.locals)
    (hb : ∀ E pn, PassesOwn (model X.prog X.w) X.A X.env E → PQs (X.trial E pn) body g) (hc : Clauses X (h0 :: hs) cs) : PQ X (.Try body (h0 :: hs) [] [] pos) (tryG g cs) := by
  intro pins s σ H D I zq9
  obtain ⟨F₀, H₀, F, ρ, o, R, e, k⟩ := zq9
  refine wpAny_Try_except ?_
  have fin : ∀ (E : Value → Shared → Prop) (f : Flow) (s1 : Shared), SP (X.trial E (X.pn ++ pins)) [] D f s1 → (match f with | .next => wpAny (model X.prog X.w) X.A (execs [] X.env) (SP X pins D) X.xe s1 | f => SP X pins D f s1) := fun E f s1 h1 => by
    have h2 := SP.untrial h1
    cases f with
    | next => obtain ⟨σ', H', I', q⟩ := h2; exact pss_nil pins s1 σ' H' D I' q
    | brk => exact h2
    | cont => exact h2
    | ret u => exact h2
  refine wpAny_mono (hb _ (X.pn ++ pins) PassesOwn.looking [] s σ H D (I.trial _) ?_) (fun f s1 h1 => fin _ f s1 h1) fun _ _ z => z
  unfold tryG at e
  split at e
  · rename_i x ρ' e1
    refine ⟨F₀, H₀, F, ρ, .ex x ρ', R, e1, fun F1 H1 σ1 C dx ev s' R1 xd zq9 => ?_⟩
    obtain ⟨ps, H2, s2, I2, L⟩ := zq9
    exact lie_here (E := X.xe) (Q := fun e s3 => wpAny (model X.prog X.w) X.A (handleBy e X.env (h0 :: hs)) (SP X pins D) X.xe s3) I2.untrial L hst hfr fun a s'' ee fa hr => by
      subst ee
      exact cls_ok hN hc hr R1 xd fa e k
  · rename_i hne
    cases o with
    | nx ρ' => exact ⟨F₀, H₀, F, ρ, _, R, e, k⟩
    | bk ρ' => exact ⟨F₀, H₀, F, ρ, _, R, e, k⟩
    | ct ρ' => exact ⟨F₀, H₀, F, ρ, _, R, e, k⟩
    | rt r => exact ⟨F₀, H₀, F, ρ, _, R, e, k⟩
    | ex x ρ' => exact absurd e (hne x ρ')
end
end L3
namespace L3
open PySem PySem.Spec L2
open PyProof.Rows hiding St
open PySem.W (InstAt Looks)

structure XV (K : PySem.W.Frag) (C : Addr) : Prop where
  q : xclsIn K C = true
  cl : (PySem.W.clsIn K C).isSome = true
  ga : PySem.W.findIn K (.ref C) "__getattribute__" = some (some (.builtin "BaseException.__getattribute__"))
  gt : PySem.W.findIn K (.ref C) "__getattr__" = some none
  ac : PySem.W.findIn K (.ref C) "__class__" = some (some (.builtin "object.__class__"))
  sp : PySem.W.specialIn K (.builtin "object.__class__") "__get__" = some (some (.builtin "getset_descriptor.__get__"))
  tk : PySem.W.takesIn K (.builtin "object.__class__") = some true
  ob : PySem.W.mroIn K C (.type "object") = some true
noncomputable def xvB (K : PySem.W.Frag) (C : Addr) : Bool := xclsIn K C && (PySem.W.clsIn K C).isSome && PySem.W.findIn K (.ref C) "__getattribute__" == some (some (.builtin "BaseException.__getattribute__")) && PySem.W.findIn K (.ref C) "__getattr__" == some none &&
  PySem.W.findIn K (.ref C) "__class__" == some (some (.builtin "object.__class__")) && PySem.W.specialIn K (.builtin "object.__class__") "__get__" == some (some (.builtin "getset_descriptor.__get__")) && PySem.W.takesIn K (.builtin "object.__class__") == some true && PySem.W.mroIn K C (.type "object") == some true
private theorem xv_of {K : PySem.W.Frag} {C : Addr} (h : xvB K C = true) : XV K C := by
  unfold xvB at h
  simp only [Bool.and_eq_true, beq_iff_eq] at h
  obtain ⟨⟨⟨⟨⟨⟨⟨h1, h2⟩, h3⟩, h4⟩, h5⟩, h6⟩, h7⟩, h8⟩ := h
  exact ⟨h1, h2, h3, h4, h5, h6, h7, h8⟩
noncomputable def vv : V → Value
  | .ref a => .ref a
  | .ty T => .type T
  | _ => .none
noncomputable def isCV : V → Bool
  | .ref _ => true
  | .ty _ => true
  | _ => false
noncomputable def ClN (mg : Str → Option Value) (n : Str) (v : V) : Prop := (∃ C, v = .ref C ∧ mg n = some (.ref C)) ∨ ∃ T, v = .ty T ∧ mg n = none ∧ bootBuiltins n = some (.type T) ∧ n ≠ "__name__"
inductive ClNs (mg : Str → Option Value) : List Str → List V → Prop
  | nil : ClNs mg [] []
  | cons {n : Str} {v : V} {ns : List Str} {vs : List V} : ClN mg n v → ClNs mg ns vs → ClNs mg (n :: ns) (v :: vs)
private theorem ClN.cv {mg : Str → Option Value} {n : Str} {v : V} (h : ClN mg n v) : isCV v = true := by
  rcases h with ⟨C, rfl, _⟩ | ⟨T, rfl, _⟩ <;> rfl
private theorem ClNs.cv {mg : Str → Option Value} {ns : List Str} {vs : List V} (h : ClNs mg ns vs) : ∀ v ∈ vs, isCV v = true := by
  induction h with
  | nil => intro v m; cases m
  | cons a _ ih =>
    intro v m
    rcases List.mem_cons.mp m with rfl | m
    · exact a.cv
    · exact ih v m
section
variable {X : Cx} {pos p q : Pos} {a e : Expr}
noncomputable def fldD : List Str → List D → Str → Option D
  | k :: ks, d :: ds, f => if k = f then some d else fldD ks ds f
  | _, _, _ => none
private theorem fldD_ok {K : PySem.W.Frag} {F : Hp} : ∀ {ks : List Str} {ds : List D} {us : List V} {f : Str} {d : D}, DenL K F ds us → fldD ks ds f = some d → ∃ u, (ks.zip us).lookup f = some u ∧ Den K F d u
  | [], _, _, _, _, _, e => by simp [fldD] at e
  | _ :: _, [], _, _, _, _, e => by simp [fldD] at e
  | k :: ks, d' :: ds, _, f, d, q, e => by
    obtain ⟨v, r, rfl, q1, q2⟩ := q
    by_cases z : k = f
    · simp only [fldD, if_pos z] at e
      cases e
      exact ⟨v, by rw [List.zip_cons_cons, List.lookup_cons, beq_iff_eq.mpr z.symm], q1⟩
    · simp only [fldD, if_neg z] at e
      obtain ⟨u, h1, h2⟩ := fldD_ok q2 e
      exact ⟨u, by rw [List.zip_cons_cons, List.lookup_cons, show (f == k) = false from beq_eq_false_iff_ne.mpr (Ne.symm z)]; exact h1, h2⟩
structure AT (K : PySem.W.Frag) (f : Str) (cs : List Str) : Prop where
  ex : ∀ c ∈ cs, ∃ C, PySem.W.nsIn K mainGlobals c = some (some (.ref C)) ∧ XV K C ∧ PySem.W.hasDictIn K C = true ∧ PySem.W.findIn K (.ref C) f = some none
noncomputable def fldX (cs : List Str) (f : Str) : D → Option Sl
  | .x c ks ds => if c ∈ cs then (fldD ks ds f).map .sh else none
  | _ => none
noncomputable def atF (cs : List Str) (f : Str) (g : List Sl → Option Sl) (ρ : List Sl) : Option Sl := (g ρ).bind fun r => fldX cs f r.toD
private theorem px_at {f : Str} {cs : List Str} {g : List Sl → Option Sl} (at_ : AT X.K f cs) (he : PX X e g) (hb : autoParam (attributeBase e f X.env (eval e X.env) = eval e X.env) _root_.zt2) : PX X (.Attribute e f pos) (atF cs f g) := by
  intro pins s σ H Q I zq9
  obtain ⟨F, ρ, r, R, e1, k⟩ := zq9
  unfold atF at e1
  obtain ⟨r', e2, e1⟩ := Option.bind_eq_some_iff.mp e1
  unfold fldX at e1
  split at e1
  · rename_i c ks ds hr
    split at e1
    · rename_i hc
      obtain ⟨d, e3, rfl⟩ := Option.map_eq_some_iff.mp e1
      refine attr_of hb (thn (he pins s σ H (fun v H1 => ∃ F1, Grow F H F1 H1 ∧ Den X.K F1 (.x c ks ds) v) I ⟨F, ρ, r', R, e2, fun v F1 H1 g1 q1 => ?_⟩) fun u s1 ⟨x, H1, I1, rx, F1, g1, den⟩ => ?_)
      · obtain ⟨F2, g2, s2, den⟩ := q1.den g1
        exact ⟨F2, g2, by rw [← hr]; exact den⟩
      · obtain ⟨a, C, od, us, rfl, q1, q2, q3, q4⟩ := den
        obtain rfl : u = Value.ref a := rx
        obtain ⟨C', q', xv, hd, hf⟩ := at_.ex c hc
        rw [q1] at q'; cases q'
        obtain ⟨w, lw, dw⟩ := fldD_ok q4 e3
        obtain ⟨vs, sl, ga⟩ := xoH_get I1.hok (g1.sub _ _ q2)
        rcases q3 with ⟨rfl, rfl, _⟩ | ⟨dd, rfl, hdd, _⟩
        · cases lw
        · obtain ⟨mA, nA, rA, _⟩ := dcH_get I1.hok (g1.sub _ _ hdd)
          obtain ⟨od, god, lod⟩ := lookIn_ns nA
          obtain ⟨uv, hu, ru⟩ := RelO.some_of (v := w) (o := mA f) (by rw [← lw]; exact rA f)
          have J : InstAt s1.heap a ⟨.ref C, some dd, .fields vs, sl⟩ C (some od) := ⟨ga, rfl, rfl, god⟩
          exact xget' I1.kIn xv.q J xv.ga xv.gt (PySem.W.findObj_own hd hf rfl (by rw [lod, hu])) (handed_of ru) fun t => ⟨w, H1, I1.tok t, ru, k w F1 H1 g1 (.sh dw)⟩
    · cases e1
  · cases e1
end
end L3
namespace L3
open PySem PySem.Spec L2
open PyProof.Rows hiding St

end L3
namespace L3
open PySem PySem.Spec L2
open PyProof.Rows hiding St

noncomputable def clsOf (K : PySem.W.Frag) (c : Str) : Option Addr := match PySem.W.nsIn K mainGlobals c with
  | some (some (.ref C)) => some C
  | _ => none
private theorem clsOf_ns {K : PySem.W.Frag} {c : Str} {C : Addr} (h : clsOf K c = some C) : PySem.W.nsIn K mainGlobals c = some (some (.ref C)) := by
  unfold clsOf at h
  split at h
  · rename_i q; cases h; exact q
  · cases h
noncomputable def xiB (K : PySem.W.Frag) (C fI : Addr) (fn : List Str) : Bool := xclsIn K C && PySem.W.typeIn K (.ref fI) == some (.type "function") && PySem.W.keepIn K (.ref C) && PySem.W.findIn K (.ref C) "__setattr__" == some (some (.builtin "object.__setattr__")) && xOver K C &&
  fn.all fun f => PySem.W.findIn K (.ref C) f == some none
private theorem xi_of {P : Program} {w : World} {K : PySem.W.Frag} {h : Heap} {mg : Str → Option Value} {base : Heap} {c : Str} {C fI : Addr} {fd : FuncData} {ps fn : List Str} (X : K.In h) (G : h.Ns mainGlobals mg) (a : PySem.W.nsIn K mainGlobals c = some (some (.ref C)))
    (i : PySem.W.findIn K (.ref C) "__init__" = some (some (.ref fI))) (b : xiB K C fI fn = true) (F : XCl K C → (∀ f ∈ fn, NoAttr K C f) → FnOk P w K mg base CX0 1 fI fd ps (spI C fn)) (bi : Binds K fd ps []) : XI P w K mg base c fn := by
  unfold xiB at b
  simp only [Bool.and_eq_true, beq_iff_eq, List.all_eq_true] at b
  obtain ⟨⟨⟨⟨⟨b1, b2⟩, b3⟩, b4⟩, b5⟩, b6⟩ := b
  exact ⟨C, fI, fd, ps, b1, i, b2, b3, F ⟨b4, b5⟩ b6, bi, PySem.W.mg_of X G a, a⟩
noncomputable def bltCls (n : Str) : Option String := if n = "ValueError" then some "ValueError" else if n = "Exception" then some "Exception" else if n = "KeyError" then some "KeyError" else if n = "TypeError" then some "TypeError" else if n = "IndexError" then some "IndexError" else none
private theorem bltCls_of {n : Str} {T : String} (h : bltCls n = some T) : bootBuiltins n = some (.type T) ∧ n ≠ "__name__" := by
  unfold bltCls at h
  split at h
  · rename_i z; cases h; subst z; exact ⟨by decide +kernel, by decide⟩
  · split at h
    · rename_i z; cases h; subst z; exact ⟨by decide +kernel, by decide⟩
    · split at h
      · rename_i z; cases h; subst z; exact ⟨by decide +kernel, by decide⟩
      · split at h
        · rename_i z; cases h; subst z; exact ⟨by decide +kernel, by decide⟩
        · split at h
          · rename_i z; cases h; subst z; exact ⟨by decide +kernel, by decide⟩
          · cases h
noncomputable def clV (K : PySem.W.Frag) (n : Str) : Option V := match PySem.W.nsIn K mainGlobals n with
  | some (some (.ref C)) => some (.ref C)
  | some none => (bltCls n).map .ty
  | _ => none
private theorem clV_of {K : PySem.W.Frag} {h : Heap} {mg : Str → Option Value} {n : Str} {v : V} (X : K.In h) (G : h.Ns mainGlobals mg) (e : clV K n = some v) : ClN mg n v := by
  unfold clV at e
  split at e
  · rename_i q; cases e; exact .inl ⟨_, rfl, PySem.W.mg_of X G q⟩
  · rename_i q
    obtain ⟨T, e1, rfl⟩ := Option.map_eq_some_iff.mp e
    exact .inr ⟨T, rfl, PySem.W.mg_none_of X G q, (bltCls_of e1).1, (bltCls_of e1).2⟩
  · cases e
noncomputable def xtB (K : PySem.W.Frag) (n : Str) (tb : List (Str × Bool)) : Bool := match clV K n with
  | some v => tb.all fun p => match clsOf K p.1 with
    | some C => PySem.W.exmOne K (.ref C) (vv v) == some p.2
    | none => false
  | none => false
private theorem xt_of {K : PySem.W.Frag} {h : Heap} {mg : Str → Option Value} {n : Str} {tb : List (Str × Bool)} (X : K.In h) (G : h.Ns mainGlobals mg) (e : xtB K n tb = true) : XT K mg n tb := by
  unfold xtB at e
  split at e
  · rename_i v q
    simp only [List.all_eq_true] at e
    refine ⟨vv v, ?_, fun p m => ?_⟩
    · rcases clV_of X G q with ⟨C, rfl, z⟩ | ⟨T, rfl, z1, z2, z3⟩
      · exact .inl z
      · exact .inr ⟨z1, z2, z3⟩
    · have z := e p m
      split at z
      · rename_i C qc
        exact ⟨C, clsOf_ns qc, beq_iff_eq.mp z⟩
      · cases z
  · cases e
noncomputable def atB (K : PySem.W.Frag) (f : Str) (cs : List Str) : Bool := cs.all fun c => match clsOf K c with
  | some C => xvB K C && PySem.W.hasDictIn K C && PySem.W.findIn K (.ref C) f == some none
  | none => false
private theorem at_of {K : PySem.W.Frag} {f : Str} {cs : List Str} (e : atB K f cs = true) : AT K f cs := by
  unfold atB at e
  simp only [List.all_eq_true] at e
  refine ⟨fun c m => ?_⟩
  have z := e c m
  split at z
  · rename_i C qc
    simp only [Bool.and_eq_true, beq_iff_eq] at z
    exact ⟨C, clsOf_ns qc, xv_of z.1.1, z.1.2, z.2⟩
  · cases z
end L3
namespace L3
open PySem PySem.Spec L2
open PyProof.Rows hiding St
open PySem.W (Looks)

private theorem lookup_mem2 {α : Type} {tb : List (Str × α)} {n : Str} {b : α} (h : tb.lookup n = some b) : (n, b) ∈ tb := by
  induction tb with
  | nil => cases h
  | cons p r ih =>
    obtain ⟨m, c⟩ := p
    rw [List.lookup_cons] at h
    split at h
    · rename_i z
      cases h
      rw [eq_of_beq z]; exact List.mem_cons_self
    · exact List.mem_cons_of_mem _ (ih h)
section
variable {P : Program} {w : World} {K : PySem.W.Frag} {mg : Str → Option Value} {base : Heap}
end

noncomputable def ON (K : PySem.W.Frag) (mg : Str → Option Value) (c : Str) : Prop :=
  ∃ C, PySem.W.nsIn K mainGlobals c = some (some (.ref C)) ∧ mg c = some (.ref C) ∧ PySem.W.makesIn K C = true ∧ PySem.W.findIn K (.ref C) "__init__" = some (some (.builtin "object.__init__")) ∧ PySem.W.keepIn K (.ref C) = true
private theorem grow_obj {F H : Hp} (h : Same F H) {x dx C : Addr} {fs : List (Str × V)} (hx : H x = none) (hd : H dx = none) (ne : dx ≠ x) :
    Grow F H (upd (upd F dx (.own x)) x (.ins C dx fs)) (upd (upd H dx (.own x)) x (.ins C dx fs)) :=
  (Grow.lay h hd (.own x)).trans (Grow.lay (Grow.lay h hd (.own x)).sub (by rw [upd_ne (Ne.symm ne)]; exact hx) (.ins C dx fs))
section
variable {X : Cx} {c : Str} {p pos apos : Pos} {e o : Expr} {es : List Expr} {k : Nat}
private theorem pe_makeN {C : Addr} (hm : PySem.W.makesIn X.K C = true) (hi : PySem.W.findIn X.K (.ref C) "__init__" = some (some (.builtin "object.__init__"))) (kp : PySem.W.keepIn X.K (.ref C) = true) (hg : Gl X c) (hmg : X.mg c = some (.ref C))
    (hdb : autoParam ((c == ("__debug__" : Str)) = false) _root_.zt1) : PE X (.Call (.Name c p) [] [] pos) (fun _ H Q => ∀ x dx, H x = none → H dx = none → dx ≠ x → Q (.ref x) (upd (upd H dx (.own x)) x (.ins C dx []))) := by
  intro pins s σ H Q I h
  refine wpAny_Call_Name_kw (ld_glob I hg hmg ?_ hdb)
  refine PySem.W.callWith_K0 I.kIn kp ?_
  have I2 := Inv.made (C := C) I
  have Y := PySem.W.makes_of (M := model X.prog X.w) I.kIn hm
  have q := h (s.heap.objs.size + 1) s.heap.objs.size (I.hok.fresh (Nat.le_succ _)) (I.hok.fresh (Nat.le_refl _)) (Nat.ne_of_lt (Nat.lt_succ_self _))
  refine wpAny_call (make_map0 I.kIn hm hi (fun self => Looks.of_pure (PySem.W.oi_bind self)) ?_)
  have hx : ((s.heap.push PySem.W.emptyDict).push (PySem.W.instObj C s.heap.objs.size)).get? (s.heap.objs.size + 1) = some (PySem.W.instObj C s.heap.objs.size) := by
    have := Heap.get?_push_size (s.heap.push PySem.W.emptyDict) (o := PySem.W.instObj C s.heap.objs.size) rfl
    rwa [Heap.size_push] at this
  have t1 : Looks (model X.prog X.w) ((s.heap.push PySem.W.emptyDict).push (PySem.W.instObj C s.heap.objs.size)) (typeOf (.ref (s.heap.objs.size + 1))) (.ref C) := (Looks.ld hx).andThen .now
  have t2 : Looks (model X.prog X.w) ((s.heap.push PySem.W.emptyDict).push (PySem.W.instObj C s.heap.objs.size)) (isInstance (.ref (s.heap.objs.size + 1)) (.type "object")) true := t1.andThen (Y.top.keeps fun b o e => Heap.get?_push_of_some _ (Heap.get?_push_of_some _ e))
  refine codeAny_call_builtin PySem.W.oi_plain PySem.W.entry_oi (PySem.W.check_slot (i := "object.__init__") (owner := "object") (n := "__init__") (self := .ref (s.heap.objs.size + 1)) (rest := []) (kw := []) PySem.W.oi_kind PySem.W.oi_split t2 (PySem.W.oi_args (.ref (s.heap.objs.size + 1))) ?_)
  rw [PySem.W.oi_run]
  exact wpAny_pure (And.intro rfl ⟨V.ref (s.heap.objs.size + 1), _, I2, rfl, q⟩)
private theorem px_makeN (on : ON X.K X.mg c) (hg : Gl X c) (hdb : autoParam ((c == ("__debug__" : Str)) = false) _root_.zt1) : PX X (.Call (.Name c p) [] [] pos) (cF (.o c [] [])) := by
  obtain ⟨C, h1, h2, h3, h4, h5⟩ := on
  refine PE.imp (pe_makeN h3 h4 h5 hg h2 hdb) fun σ H Q ⟨F, ρ, r, R, e1, kk⟩ x dx hx hd ne => ?_
  cases e1
  exact kk _ _ _ (grow_obj R.sub hx hd ne) (.sh ⟨x, C, dx, [], rfl, h1, upd_same, rfl, .nil⟩)

noncomputable abbrev MTb := List (Str × (List D → Option Sl) × (List D → Option Ex))
noncomputable def MC (K : PySem.W.Frag) (c m : Str) (f : Addr) : Prop := ∃ C, PySem.W.nsIn K mainGlobals c = some (some (.ref C)) ∧ Cls K C ∧ Meth K C m f
noncomputable def FM (P : Program) (w : World) (K : PySem.W.Frag) (mg : Str → Option Value) (base : Heap) (k : Nat) (f : Addr) (h : List D → Option Sl) (hx : List D → Option Ex) : Prop := ∃ fd ps, FnOk P w K mg base (CX1 P w) k f fd ps (spXX K h hx) ∧ Binds K fd ps []
noncomputable def MT (P : Program) (w : World) (K : PySem.W.Frag) (mg : Str → Option Value) (base : Heap) (k : Nat) (m : Str) (tb : MTb) : Prop := ∀ q ∈ tb, ∃ f, MC K q.1 m f ∧ FM P w K mg base k f q.2.1 q.2.2
section
variable {P : Program} {w : World} {K : PySem.W.Frag} {mg : Str → Option Value} {base : Heap}
private theorem FM.mono {j k : Nat} {f : Addr} {h : List D → Option Sl} {hx : List D → Option Ex} (F : FM P w K mg base j f h hx) (l : j ≤ k) : FM P w K mg base k f h hx := by
  obtain ⟨fd, ps, h1, h2⟩ := F
  exact ⟨fd, ps, h1.mono l, h2⟩
private theorem MT.mono {j k : Nat} {m : Str} {tb : MTb} (T : MT P w K mg base j m tb) (l : j ≤ k) : MT P w K mg base k m tb := fun q hq => by
  obtain ⟨f, h1, h2⟩ := T q hq
  exact ⟨f, h1, h2.mono l⟩
private theorem MT.nil {k : Nat} {m : Str} : MT P w K mg base k m [] := fun _ hq => by cases hq
private theorem MT.cons {k : Nat} {m c : Str} {f : Addr} {h : List D → Option Sl} {hx : List D → Option Ex} {tb : MTb} (a : MC K c m f) (b : FM P w K mg base k f h hx) (T : MT P w K mg base k m tb) : MT P w K mg base k m ((c, h, hx) :: tb) := fun q hq => by
  rcases List.mem_cons.mp hq with rfl | hq
  · exact ⟨f, a, b⟩
  · exact T q hq
end
noncomputable def methD (m : Str) (tb : MTb) (d : D) : Option (List D → Option Sl) := match d with
  | .o c ks _ => if m ∈ ks then none else (tb.lookup c).map (·.1)
  | _ => none
noncomputable def methF (m : Str) (tb : MTb) (f : List Sl → Option Sl) (g : List Sl → Option (List D)) (ρ : List Sl) : Option Sl := (f ρ).bind fun r => (methD m tb r.toD).bind fun h => (g ρ).bind fun as => h (r.toD :: as)
private theorem zip_no {m : Str} : ∀ {ks : List Str} {us : List V}, m ∉ ks → (ks.zip us).lookup m = none
  | [], _, _ => by simp
  | _ :: _, [], _ => by simp
  | k :: ks, u :: us, h => by
    rw [List.zip_cons_cons, List.lookup_cons, show (m == k) = false from beq_eq_false_iff_ne.mpr fun z => h (by rw [z]; exact List.mem_cons_self)]
    exact zip_no fun z => h (List.mem_cons_of_mem _ z)
private theorem meth_open {m : Str} {tb : MTb} {f : List Sl → Option Sl} {pl : Sem Bool} {pins : List (Addr × Obj)} {s : Shared} {σ : St} {H F : Hp} {ρ : List Sl} {r : Sl} {c : Str} {ks : List Str} {ds : List D} {q : (List D → Option Sl) × (List D → Option Ex)} {args : List Expr} {Q : Value → Shared → Prop}
    (mt : MT X.prog X.w X.K X.mg X.base k m tb) (ho : PX X o f) (I : L2.Inv X pins σ H s) (R : Rep X.K F H σ ρ) (e1 : f ρ = some r) (e2 : r.toD = .o c ks ds) (hm : m ∉ ks) (e3 : tb.lookup c = some q)
    (h : ∀ a fn s1 F1 H1, L2.Inv X pins σ H1 s1 → Grow F H F1 H1 → Den X.K F1 r.toD (.ref a) → FM X.prog X.w X.K X.mg X.base k fn q.1 q.2 → PySem.W.keepIn X.K (.ref fn) = true →
      wpAny (model X.prog X.w) X.A (callWith pos (.ref fn) [.ref a] (backTo pos (starEach args X.env)) (backToKw pos (keywordEach [] X.env))) Q X.xe s1)
    (ht : eval (.Call (.Attribute o m apos) args [] pos) X.env = (do
      let ov ← eval o X.env
      standAt apos.atName
      let (f, first) ← holding [ov] (getMethod ov m pl)
      callWith pos f first (backTo pos (starEach args X.env)) (backToKw pos (keywordEach [] X.env)))) :
    wpAny (model X.prog X.w) X.A (eval (.Call (.Attribute o m apos) args [] pos) X.env) Q X.xe s := by
  refine PySem.W.methodCall_KW (pl := pl) (thn (ho pins s σ H (fun v H1 => ∃ F1, Grow F H F1 H1 ∧ Den X.K F1 r.toD v) I ⟨F, ρ, r, R, e1, fun v F1 H1 g1 q1 => ?_⟩) fun u s1 ⟨x, H1, I1, rx, F1, g1, den⟩ => ?_) ht
  · obtain ⟨F2, g2, s2, den⟩ := q1.den g1
    exact ⟨F2, g2, den⟩
  · have den0 := den
    rw [e2] at den
    obtain ⟨a, C, dx, us, rfl, z1, z2, z3, z4⟩ := den
    obtain rfl : u = Value.ref a := rx
    obtain ⟨fn, ⟨C', y1, y2, y3⟩, fm⟩ := mt _ (lookup_mem2 e3)
    rw [z1] at y1; cases y1
    exact getmeth_ok I1 (g1.sub _ _ z2) y2 y3 (zip_no hm) (h a fn s1 F1 H1 I1 g1 den0 fm y3.kp)
private theorem meth_inv {m : Str} {tb : MTb} {d : D} {h : List D → Option Sl} (e : methD m tb d = some h) : ∃ c ks ds hx, d = .o c ks ds ∧ m ∉ ks ∧ tb.lookup c = some (h, hx) := by
  unfold methD at e
  split at e
  · rename_i c ks ds
    split at e
    · cases e
    · rename_i hm
      obtain ⟨⟨a, b⟩, e1, rfl⟩ := Option.map_eq_some_iff.mp e
      exact ⟨c, ks, ds, b, rfl, hm, e1⟩
  · cases e
private theorem px_meth {m : Str} {tb : MTb} {f : List Sl → Option Sl} {g : List Sl → Option (List D)} {pl : Sem Bool} (mt : MT X.prog X.w X.K X.mg X.base k m tb) (ho : PX X o f) (hr : Room k X.A) (ha : PXs X (e :: es) g)
    (hst : autoParam (starEach (e :: es) X.env = (false, eval e X.env) :: starEach es X.env) _root_.zt2) (hpl : autoParam ((backTo pos (starEach es X.env)).any (·.1) = false) _root_.zt2)
    (ht : autoParam (eval (.Call (.Attribute o m apos) (e :: es) [] pos) X.env = (do
      let ov ← eval o X.env
      standAt apos.atName
      let (f, first) ← holding [ov] (getMethod ov m pl)
      callWith pos f first (backTo pos (starEach (e :: es) X.env)) (backToKw pos (keywordEach [] X.env)))) _root_.zt2) : PX X (.Call (.Attribute o m apos) (e :: es) [] pos) (methF m tb f g) := by
  intro pins s σ H Q I zq9
  obtain ⟨F, ρ, r, R, e1, kk⟩ := zq9
  unfold methF at e1
  obtain ⟨r', e2, e1⟩ := Option.bind_eq_some_iff.mp e1
  obtain ⟨h, e3, e1⟩ := Option.bind_eq_some_iff.mp e1
  obtain ⟨as, e4, e1⟩ := Option.bind_eq_some_iff.mp e1
  obtain ⟨c, ks, ds, hx, z1, z2, z3⟩ := meth_inv e3
  refine meth_open (pl := pl) mt ho I R e2 z1 z2 z3 (fun a fn s1 F1 H1 I1 g1 den fm kp => ?_) ht
  obtain ⟨fd, ps, fm, bd⟩ := fm
  refine PySem.W.callWith_K (first := [.ref a]) (h₀ := X.base) I.ok.mod.kin kp (thn (ha pos pins s1 σ H1 (fun vs H2 => ∃ F2, Grow F1 H1 F2 H2 ∧ DenL X.K F2 as vs) I1 ⟨F1, ρ, as, R.grow g1, e4, fun vs F2 H2 g2 q2 => ⟨F2, g2, q2⟩⟩) fun us s2 ⟨vs, H2, I2, rv, F2, g2, q2⟩ => ⟨I2.kIn, ?_⟩) hst hpl
  refine run_fn (us := .ref a :: us) (vs := .ref a :: vs) (FnOk.quiet fm) hr bd .nil pass0 I2 (.cons rfl rv) ?_
  exact ⟨F2, r'.toD :: as, r, g2.sub, by rw [List.append_nil]; exact .cons (den.mono g2.ff) q2, e1, fun v F' H' g q => kk v F' H' ((g1.trans g2).trans g) (q.weak (g1.trans g2).same)⟩
end

noncomputable def clsB (K : PySem.W.Frag) (C : Addr) : Bool := PySem.W.plainGet K C Str.empty && PySem.W.hasDictIn K C && PySem.W.plainOver K C && PySem.W.findIn K (.ref C) "__setattr__" == some (some (.builtin "object.__setattr__"))
private theorem cls_of {K : PySem.W.Frag} {C : Addr} (h : clsB K C = true) : Cls K C := by
  unfold clsB at h
  simp only [Bool.and_eq_true, beq_iff_eq] at h
  exact ⟨h.1.1.1, h.1.1.2, h.1.2, h.2⟩
noncomputable def onB (K : PySem.W.Frag) (c : Str) : Bool := match clsOf K c with
  | some C => PySem.W.makesIn K C && PySem.W.findIn K (.ref C) "__init__" == some (some (.builtin "object.__init__")) && PySem.W.keepIn K (.ref C)
  | none => false
private theorem on_of {K : PySem.W.Frag} {h : Heap} {mg : Str → Option Value} {c : Str} (X : K.In h) (G : h.Ns mainGlobals mg) (e : onB K c = true) : ON K mg c := by
  unfold onB at e
  split at e
  · rename_i C q
    simp only [Bool.and_eq_true, beq_iff_eq] at e
    have ns := clsOf_ns q
    exact ⟨C, ns, PySem.W.mg_of X G ns, e.1.1, e.1.2, e.2⟩
  · cases e
noncomputable def mcB (K : PySem.W.Frag) (c m : Str) (f : Addr) : Bool := match clsOf K c with
  | some C => clsB K C && PySem.W.findIn K (.ref C) m == some (some (.ref f)) && PySem.W.isFn K (.ref f) && PySem.W.keepIn K (.ref f)
  | none => false
private theorem mc_of {K : PySem.W.Frag} {c m : Str} {f : Addr} (e : mcB K c m f = true) : MC K c m f := by
  unfold mcB at e
  split at e
  · rename_i C qc
    simp only [Bool.and_eq_true, beq_iff_eq] at e
    exact ⟨C, clsOf_ns qc, cls_of e.1.1.1, e.1.1.2, e.1.2, e.2⟩
  · cases e
end L3
namespace L3
open PySem PySem.Spec L2
open PyProof.Rows hiding St
open PySem.Builtin PySem.Builtin.Str

private theorem rangeSize_nonneg (a b c : Int) : 0 ≤ Builtin.Range.rangeSize a b c := by
  unfold Builtin.Range.rangeSize
  split
  · split
    · have := Int.ediv_nonneg (a := b - a - 1) (b := c) (by omega) (by omega); omega
    · omega
  · split
    · have := Int.ediv_nonneg (a := a - b - 1) (b := -c) (by omega) (by omega); omega
    · omega
noncomputable def Itc (lo c : Int) (n : Nat) : It := ⟨fun i _ => i < n, fun i H x H' => H' = H ∧ x = .int (lo + (i : Nat) * c), fun i _ => n ≤ i⟩
private theorem turn_step {P : Program} {w : World} {K : PySem.W.Frag} {tg : Expr} (it : Addr) (lo c : Int) (n : Nat) : Turn P w K tg (Itc lo c n) [it] it (fun i h => IsRangeIter h it (lo + (i : Nat) * c) ((n : Int) - (i : Nat)) c) where
  mem := by simp
  obj := fun i h st b hb => by
    have e : b = it := by simpa using hb
    subst e
    exact ⟨_, st, fun v z => by
      have z' : Data.fields _ = Data.cell v := z
      cases z'⟩
  keep := fun i h h' st k => k it (by simp) _ st
  item := by
    intro X hP hw hK hc i pins s σ H E I hf st hg
    subst hP hw hK
    obtain ⟨f0, f1, f2, f3, f4, f5⟩ := hf it (by simp)
    have W := Walks.range (prog := X.prog) (w := X.w) (I.ok.hd hc) it lo c n
    refine W.item i s _ _ hg st fun v h' tk hv st' kk => ?_
    obtain ⟨t, rfl⟩ := hv
    have I1 : L2.Inv X pins σ H { s with heap := h', toks := tk } := I.turned (fun b o hb e => kk b o (by simpa using hb) e) f0 f1 f3 f4 f5
    exact ⟨_, rfl, go_of (s := { s with heap := h', toks := tk }) (n := "range_iterator") st' rfl rfl (by decide) ⟨.int (lo + (i : Nat) * c), H, I1, ⟨t, rfl⟩, ⟨rfl, rfl⟩, st', fun b hb => (hf b hb).1⟩⟩
  done := by
    intro X hP hw hK hc i pins s σ H E I hf st hg
    subst hP hw hK
    obtain ⟨f0, f1, f2, f3, f4, f5⟩ := hf it (by simp)
    exact wpAny_pyNext_range_end (I.ok.hd hc) st (by have : n ≤ i := hg; omega) fun h' eb => ⟨rfl, I.turned (t' := s.toks) (fun b o hb e => eb b o hb e) f0 f1 f3 f4 f5⟩
  self := fun _ _ _ _ _ st h => wpAny_pyIter_rangeiter st h
private theorem itok_step {K : PySem.W.Frag} {F : Hp} (lo c : Int) (n : Nat) : ItOk K F (Itc lo c n) ((List.range n).map fun k => D.i (lo + (k : Nat) * c)) := fun i F' H s1 s2 => by
  refine ⟨fun d e => ?_, fun hl => ?_⟩
  · rw [List.getElem?_map] at e
    obtain ⟨m, e1, rfl⟩ := Option.map_eq_some_iff.mp e
    obtain ⟨h1, h2⟩ := List.getElem?_eq_some_iff.mp e1
    simp at h1 h2
    subst h2
    exact ⟨h1, fun x H' ⟨eH, y⟩ => by subst eH; subst y; exact ⟨F', .refl s2, rfl⟩⟩
  · show n ≤ i
    simpa using hl
section
variable {X : Cx} {tg a b c e l : Expr} {es : List Expr} {pos p q : Pos}
private theorem step_it {pins : List (Addr × Obj)} {σ : St} {H : Hp} {s : Shared} {R : It → Hp → Prop} {E : Value → Shared → Prop} {lo hi c : Int} {t u v : Tok} {tk : Nat} (I : L2.Inv X pins σ H s) (hsm : Builtin.Range.small lo hi c = true)
    (q : R (Itc lo c (Builtin.Range.rangeSize lo hi c).toNat) H) : wpAny (model X.prog X.w) X.A (pyIter (.ref s.heap.objs.size)) (PIE X pins σ tg R) E { s with heap := s.heap.push { cls := .type "range", data := .fields #[.int lo t, .int hi u, .int c v] }, toks := tk } := by
  refine wpAny_pyIter_range (IsRange.new ..) hsm ?_
  have I1 : L2.Inv X pins σ H { s with heap := s.heap.push { cls := .type "range", data := .fields #[.int lo t, .int hi u, .int c v] }, toks := tk } := I.kept fun b o e => Heap.get?_push_of_some _ e
  refine ⟨(s.heap.push { cls := .type "range", data := .fields #[.int lo t, .int hi u, .int c v] }).objs.size, [(s.heap.push { cls := .type "range", data := .fields #[.int lo t, .int hi u, .int c v] }).objs.size], _, _, H, rfl,
    I1.kept (t' := tk) fun b o e => Heap.get?_push_of_some _ e, turn_step _ lo c (Builtin.Range.rangeSize lo hi c).toNat, ?_, fun b hb => ?_, q⟩
  · have e1 : lo + ((0 : Nat) : Int) * c = lo := by simp
    have e2 : (((Builtin.Range.rangeSize lo hi c).toNat : Nat) : Int) - ((0 : Nat) : Int) = Builtin.Range.rangeSize lo hi c := by have := rangeSize_nonneg lo hi c; omega
    show IsRangeIter _ _ (lo + ((0 : Nat) : Int) * c) ((((Builtin.Range.rangeSize lo hi c).toNat : Nat) : Int) - ((0 : Nat) : Int)) c
    rw [e1, e2]
    exact Heap.get?_push_size _ rfl
  · have e : b = (s.heap.push { cls := .type "range", data := .fields #[.int lo t, .int hi u, .int c v] }).objs.size := by simpa using hb
    subst e
    exact I1.fpOk (Nat.le_refl _) (I1.hok.fresh (Nat.le_refl _))
noncomputable def rng3F (g : List Sl → Option (List D)) (ρ : List Sl) : Option (List D) := match g ρ with
  | some [.i i, .i j, .i c] => if c ≠ 0 ∧ c.natAbs < 1073741824 ∧ Builtin.Range.small i j c = true then some ((List.range (Builtin.Range.rangeSize i j c).toNat).map fun k => D.i (i + (k : Nat) * c)) else none
  | _ => none
private theorem den3 {K : PySem.W.Frag} {F : Hp} {d1 d2 d3 : D} {vs : List V} (h : DenL K F [d1, d2, d3] vs) : ∃ v1 v2 v3, vs = [v1, v2, v3] ∧ Den K F d1 v1 ∧ Den K F d2 v2 ∧ Den K F d3 v3 := by
  obtain ⟨v1, r1, rfl, q1, h⟩ := h
  obtain ⟨v2, r2, rfl, q2, h⟩ := h
  obtain ⟨v3, r3, rfl, q3, h⟩ := h
  cases (show r3 = [] from h)
  exact ⟨v1, v2, v3, rfl, q1, q2, q3⟩
private theorem pix_range3 {g : List Sl → Option (List D)} (hg : Gl X "range") (hm : X.mg "range" = none) (ha : PXs X [a, b, c] g) (he : autoParam (starEach [a, b, c] X.env = (false, eval a X.env) :: starEach [b, c] X.env) _root_.zt2) (hpl : autoParam ((backTo pos (starEach [b, c] X.env)).any (·.1) = false) _root_.zt2) :
    PIX X tg (.Call (.Name "range" p) [a, b, c] [] pos) (rng3F g) := by
  intro pins s σ H R I zq9
  obtain ⟨F, ρ, items, R', e, k⟩ := zq9
  unfold rng3F at e
  split at e
  · rename_i i j c e1
    split at e
    · rename_i hb
      cases e
      refine Call_ (ld_blt I hg hm boot_range (PyProof.Rows.callWith_type1 (thn (ha pos pins s σ H (fun vs H1 => ∃ F1, Grow F H F1 H1 ∧ DenL X.K F1 [.i i, .i j, .i c] vs) I ⟨F, ρ, _, R', e1, fun vs F1 H1 g1 q1 => ⟨F1, g1, q1⟩⟩) fun us s1 zq9 => ?_) he hpl))
      obtain ⟨vs, H1, I1, r1, F1, g1, q1⟩ := zq9
      obtain ⟨v1, v2, v3, rfl, z1, z2, z3⟩ := den3 q1
      cases (show v1 = V.int _ from z1)
      cases (show v2 = V.int _ from z2)
      cases (show v3 = V.int _ from z3)
      cases r1 with
      | cons r rr =>
        cases rr with
        | cons r' rr =>
          cases rr with
          | cons r'' rr =>
            cases rr
            obtain ⟨t, rfl⟩ := r
            obtain ⟨t', rfl⟩ := r'
            obtain ⟨t'', rfl⟩ := r''
            exact call_range_3 hb.1 (step_it I1 hb.2.2 (k _ F1 H1 g1 (itok_step i c _))) (.inl (PyProof.noPylong_small hb.2.1))
    · cases e
  · cases e

noncomputable def revIt (f : List Sl → Option Sl) (ρ : List Sl) : Option (List D) := match f ρ with
  | some (.sh (.l ds)) => some ds.reverse
  | some (.ac ds) => some ds.reverse
  | _ => none
noncomputable def extG (i : Nat) (f : List Sl → Option Sl) (ρ : List Sl) : Option Out := (evS f ρ).bind fun q => match q.2[i]?, q.1 with
  | some (.ac ds), .ac es => if ds.length + es.length ≤ 10000000 then some (.nx (q.2.set i (.ac (ds ++ es)))) else none
  | _, _ => none
variable {apos cpos p1 : Pos}
private theorem q_extend {i : Nat} {x : Str} {f : List Sl → Option Sl} (hv : PE X (.Name x p1) (tVar i)) (he : PX X e f)
    (hbase : autoParam (attributeBase (.Name x p1) "extend" X.env (eval (.Name x p1) X.env) = eval (.Name x p1) X.env) _root_.zt2)
    (hfew : autoParam (((backTo cpos (starEach [e] X.env)).all (fun x => !x.1) && (backToKw cpos (keywordEach [] X.env)).all (fun x => x.1.isSome)
      && decide (([e] : List Expr).length + ([] : List Keyword).length + (if ([] : List Keyword).isEmpty then 0 else 1) < 30)) = true) _root_.zt2)
    (hline : autoParam ((apos.endLine == cpos.line) = true) _root_.zt2) (hs : autoParam (starEach [e] X.env = (false, eval e X.env) :: starEach [] X.env) _root_.zt2) (hplain : autoParam ((backTo cpos (starEach [] X.env)).any (·.1) = false) _root_.zt2)
    (hsw : autoParam (swapsWith (.Call (.Attribute (.Name x p1) "extend" apos) [e] [] cpos) none pos.line X.env = pure false) _root_.zt2) :
    PQ X (.Expr (.Call (.Attribute (.Name x p1) "extend" apos) [e] [] cpos) pos) (extG i f) :=
  PS.imp (ps_expr (pe_bm PySem.F.plainAttrs_list PySem.F.slot_list_extend PySem.F.type_list_extend mt_extend hv (pa_cons he pa_nil hs) hbase hfew hline hs hplain) hsw) fun D σ H zq9 => by
    obtain ⟨F₀, H₀, F, ρ, o, R, e, k⟩ := zq9
    unfold extG at e
    cases e1 : evS f ρ with
    | none => rw [e1] at e; cases e
    | some q =>
      obtain ⟨r, ρ'⟩ := q
      rw [e1] at e
      simp only [Option.bind_some] at e
      split at e
      · rename_i u0 ds es hds
        split at e
        · rename_i hl
          cases e
          have z := evS_own e1 hds rfl
          subst z
          obtain ⟨v, w1, w2⟩ := R.rep.at_ i _ hds (by intro z; cases z)
          obtain ⟨p, vs, rfl, h1, h2, h3⟩ := id w2
          refine ⟨_, w1, .inl ⟨rfl, _, SqL.of h1⟩, evS_ok R e1 fun y F' H' R' q s hd => ?_⟩
          obtain ⟨p2, vs2, rfl, y1, y2, y3⟩ := q.1
          have hv' : ds.length = vs.length := h3.length
          have hv2 : es.length = vs2.length := y3.length
          have hp : H' p = some (.lst vs) := s _ _ h1
          refine ⟨p, p2, vs, vs2, rfl, rfl, hp, y1, by rw [← hv', ← hv2]; exact Nat.le_trans hl (by rw [sizeLine_eq]; decide), ?_⟩
          obtain ⟨v', w1', w2'⟩ := R'.rep.at_ i _ hds (by intro z; cases z)
          rw [w1] at w1'; cases w1'
          obtain ⟨p', vs', ev, g1, g2, g3⟩ := w2'
          cases ev
          rw [hp] at g1; cases g1
          exact k F' _ σ (R'.mut hds rfl w1 ⟨p, _, rfl, upd_same, g2, g3.append y3⟩)
        · cases e
      · cases e

end
end L3
namespace L3
open PySem PySem.Spec L2
open PyProof.Rows hiding St
open PySem.SeqAt (EqAt)

section
variable {X : Cx}
variable {o e : Expr} {apos cpos : Pos}
noncomputable def rngP (r : Addr) (i j c : Int) (h : Heap) : Prop := ∃ t u v, IsRange h r i j c t u v
noncomputable def okR (i j c : Int) : Bool := decide (c ≠ 0) && decide (c.natAbs < 1073741824) && Builtin.Range.small i j c && decide ((Builtin.Range.rangeSize i j c).toNat ≤ 16777216)
noncomputable def rngsD (i j c : Int) : List D := (List.range (Builtin.Range.rangeSize i j c).toNat).map fun k => D.i (i + (k : Nat) * c)
noncomputable def argR : List D → Option (Int × Int × Int)
  | [.i j] => some (0, j, 1)
  | [.i i, .i j] => some (i, j, 1)
  | [.i i, .i j, .i c] => some (i, j, c)
  | _ => none
noncomputable def tRng (X : Cx) (g : List Sl → Option (List D)) : TE := fun σ H Q => ∃ F ρ ds i j c, Rep X.K F H σ ρ ∧ g ρ = some ds ∧ argR ds = some (i, j, c) ∧ okR i j c = true ∧ ∀ r F1 H1, Grow F H F1 H1 → H1 r = none → Q (.ref r) (upd H1 r (.ext (rngP r i j c)))
private theorem okR_of {i j c : Int} (h : okR i j c = true) : c ≠ 0 ∧ c.natAbs < 1073741824 ∧ Builtin.Range.small i j c = true ∧ (Builtin.Range.rangeSize i j c).toNat ≤ 16777216 := by
  unfold okR at h
  simp only [Bool.and_eq_true, decide_eq_true_eq] at h
  exact ⟨h.1.1.1, h.1.1.2, h.1.2, h.2⟩
private theorem rng_laid {pins : List (Addr × Obj)} {σ : St} {H : Hp} {s : Shared} {i j c : Int} {t u v : Tok} {tk : Nat} (I : L2.Inv X pins σ H s) :
    L2.Inv X pins σ (upd H s.heap.objs.size (.ext (rngP s.heap.objs.size i j c))) { s with heap := s.heap.push { cls := .type "range", data := .fields #[.int i t, .int j u, .int c v] }, toks := tk } :=
  I.laid (fun _ _ q => Heap.get?_push_of_some _ q) (Nat.le_refl _) ⟨⟨t, u, v, IsRange.new ..⟩, ⟨_, Heap.get?_push_size _ rfl⟩, fun h1 h2 ⟨t, u, v, q⟩ k => ⟨t, u, v, k _ q⟩⟩
variable {es : List Expr} {p pos q : Pos}
private theorem pe_rng {g : List Sl → Option (List D)} (hg : Gl X "range") (hm : X.mg "range" = none) (ha : PXs X (e :: es) g) (he : autoParam (starEach (e :: es) X.env = (false, eval e X.env) :: starEach es X.env) _root_.zt2) (hpl : autoParam ((backTo pos (starEach es X.env)).any (·.1) = false) _root_.zt2) :
    PE X (.Call (.Name "range" p) (e :: es) [] pos) (tRng X g) := by
  intro pins s σ H Q I zq9
  obtain ⟨F, ρ, ds, i, j, c, R, e1, e2, e3, k⟩ := zq9
  refine Call_ (ld_blt I hg hm boot_range (PyProof.Rows.callWith_type1 (thn (ha pos pins s σ H (fun vs H1 => ∃ F1, Grow F H F1 H1 ∧ DenL X.K F1 ds vs) I ⟨F, ρ, _, R, e1, fun vs F1 H1 g1 q1 => ⟨F1, g1, q1⟩⟩) fun us s1 zq9 => ?_) he hpl))
  obtain ⟨vs, H1, I1, r1, F1, g1, q1⟩ := zq9
  have fin : ∀ (t u v : Tok) (tk : Nat), EP X pins σ Q (.ref s1.heap.objs.size) { s1 with heap := s1.heap.push { cls := .type "range", data := .fields #[.int i t, .int j u, .int c v] }, toks := tk } := fun t u v tk =>
    ⟨.ref s1.heap.objs.size, _, rng_laid I1, rfl, k _ F1 H1 g1 I1.fresh⟩
  unfold argR at e2
  split at e2
  · cases e2
    obtain ⟨v, rfl, z⟩ := den1 q1
    cases (show v = V.int _ from z)
    obtain ⟨u, rfl, t, rfl⟩ := vals1 r1
    exact call_range_1 (fin _ _ _ _)
  · cases e2
    obtain ⟨v, v', rfl, z, z'⟩ := den2 q1
    cases (show v = V.int _ from z)
    cases (show v' = V.int _ from z')
    obtain ⟨u, u', rfl, ⟨t, rfl⟩, ⟨t', rfl⟩⟩ := Vals.two r1
    exact call_range_2 (fin _ _ _ _)
  · cases e2
    obtain ⟨v1, v2, v3, rfl, z1, z2, z3⟩ := den3 q1
    cases (show v1 = V.int _ from z1)
    cases (show v2 = V.int _ from z2)
    cases (show v3 = V.int _ from z3)
    have ok := okR_of e3
    cases r1 with
    | cons r rr =>
      cases rr with
      | cons r' rr =>
        cases rr with
        | cons r'' rr =>
          cases rr
          obtain ⟨t, rfl⟩ := r
          obtain ⟨t', rfl⟩ := r'
          obtain ⟨t'', rfl⟩ := r''
          exact call_range_3 ok.1 (fin _ _ _ _) (.inl (PyProof.noPylong_small ok.2.1))
  · cases e2
private theorem items_vals {i c : Int} : ∀ {n : Nat} {acc : Array Value}, ItemsOf (fun k v => ∃ t, v = Value.int (i + (k : Nat) * c) t) acc n → Vals ((List.range n).map fun k => V.int (i + (k : Nat) * c)) acc.toList := by
  intro n acc zq9
  obtain ⟨h1, h2⟩ := zq9
  have main : ∀ (l : List Value) (m : Nat), (∀ k v, l[k]? = some v → ∃ t, v = Value.int (i + ((m + k : Nat) : Int) * c) t) → Vals ((List.range' m l.length).map fun k => V.int (i + (k : Nat) * c)) l := by
    intro l
    induction l with
    | nil => intro m _; exact .nil
    | cons x l ih =>
      intro m h
      rw [List.length_cons, List.range'_succ, List.map_cons]
      obtain ⟨t, ht⟩ := h 0 x rfl
      refine .cons ⟨t, by rw [ht]; rfl⟩ (ih (m + 1) fun k v hk => ?_)
      obtain ⟨t, ht⟩ := h (k + 1) v (by simpa using hk)
      exact ⟨t, by rw [ht, show m + 1 + k = m + (k + 1) by omega]⟩
  have := main acc.toList 0 fun k v hk => by
    obtain ⟨t, ht⟩ := h2 k v (by rw [← Array.getElem?_toList]; exact hk)
    exact ⟨t, by rw [ht, Nat.zero_add]⟩
  rw [Array.length_toList, h1, ← List.range_eq_range'] at this
  exact this
noncomputable def lrF (g : List Sl → Option (List D)) (ρ : List Sl) : Option Sl := (g ρ).bind fun ds => (argR ds).bind fun t => if okR t.1 t.2.1 t.2.2 = true then some (.ac (rngsD t.1 t.2.1 t.2.2)) else none
private theorem denL_rngs {K : PySem.W.Frag} {F : Hp} {i c : Int} : ∀ (l : List Nat), DenL K F (l.map fun k => D.i (i + (k : Nat) * c)) (l.map fun k => V.int (i + (k : Nat) * c))
  | [] => DenL.nil
  | _ :: r => .cons rfl (denL_rngs r)
private theorem cx_lrng (hc : X.calm = true) : CallR X (.type "list") (fun xs H Q => ∃ r i j c, xs = [.ref r] ∧ H r = some (.ext (rngP r i j c)) ∧ okR i j c = true ∧ ∀ l, H l = none → Q (.ref l) (upd H l (.lst ((List.range (Builtin.Range.rangeSize i j c).toNat).map fun k => V.int (i + (k : Nat) * c))))) := by
  intro pins s σ H xs us Q I r q
  obtain ⟨a, i, j, c, rfl, h1, h2, k⟩ := q
  obtain ⟨u, rfl, rfl⟩ := vals1 r
  obtain ⟨⟨t, u, v, hr⟩, _, _⟩ := I.hok a _ h1
  have ok := okR_of h2
  have nn := rangeSize_nonneg i j c
  refine call_list_range (n := (Builtin.Range.rangeSize i j c).toNat) (I.ok.hd hc) hr ok.2.2.1 (by omega) (by have := ok.2.2.2; omega) fun h' tk acc' c' hk hS hacc => ?_
  have hv := items_vals hacc
  refine ⟨.ref s.heap.objs.size, _, I.laid (t' := tk) (o := .lst ((List.range (Builtin.Range.rangeSize i j c).toNat).map fun k => V.int (i + (k : Nat) * c))) hk (Nat.le_refl _) ⟨?_, acc'.toList, c', hv, ?_⟩, rfl, k _ I.fresh⟩
  · rw [List.length_map, List.length_range, sizeLine_eq]; have := ok.2.2.2; omega
  · rw [Array.toArray_toList]; exact hS
private theorem px_lrng {g : List Sl → Option (List D)} (hc : X.calm = true) (hgl : Gl X "list") (hml : X.mg "list" = none) (hg : Gl X "range") (hm : X.mg "range" = none) (ha : PXs X (e :: es) g) (he : autoParam (starEach (e :: es) X.env = (false, eval e X.env) :: starEach es X.env) _root_.zt2)
    (hpl : autoParam ((backTo pos (starEach es X.env)).any (·.1) = false) _root_.zt2) {lp lpos : Pos}
    (he2 : autoParam (starEach [.Call (.Name "range" p) (e :: es) [] pos] X.env = (false, eval (.Call (.Name "range" p) (e :: es) [] pos) X.env) :: starEach [] X.env) _root_.zt2) (hpl2 : autoParam ((backTo lpos (starEach [] X.env)).any (·.1) = false) _root_.zt2) :
    PX X (.Call (.Name "list" lp) [.Call (.Name "range" p) (e :: es) [] pos] [] lpos) (lrF g) := by
  refine PE.imp (pe_callTy (cx_lrng hc) hgl hml PyProof.Rows.boot_list (pa_cons (pe_rng hg hm ha he hpl) pa_nil he2) (by decide) (by decide) he2 hpl2) fun σ H Q zq9 => ?_
  obtain ⟨F, ρ, r, R, e1, k⟩ := zq9
  unfold lrF at e1
  obtain ⟨ds, e2, e1⟩ := Option.bind_eq_some_iff.mp e1
  obtain ⟨⟨i, j, c⟩, e3, e1⟩ := Option.bind_eq_some_iff.mp e1
  split at e1
  · rename_i ok
    cases e1
    refine ⟨F, ρ, ds, i, j, c, R, e2, e3, ok, fun r F1 H1 g1 hr => ?_⟩
    refine ⟨r, i, j, c, rfl, upd_same, ok, fun l hl => ?_⟩
    have g2 := Grow.own g1.sub hr (.ext (rngP r i j c))
    have g3 := Grow.own g2.sub hl (.lst ((List.range (Builtin.Range.rangeSize i j c).toNat).map fun k => V.int (i + (k : Nat) * c)))
    refine k _ F1 _ ((g1.trans g2).trans g3) ⟨⟨l, _, rfl, upd_same, g2.sub.free hl, denL_rngs _⟩, fun _ p' e' => ?_⟩
    cases e'
    exact (g1.trans g2).same.free hl
  · cases e1
end
end L3
namespace L3
open PySem PySem.Spec L2
open PyProof.Rows hiding St
section
variable {prog : Program} {w : World} {A : Around} {E : Value → Shared → Prop} {s : Shared}
private theorem cat_lists {l b : Addr} {vs ws : List Value} {Q : Value → Shared → Prop} (hl : s.heap.IsList l vs.toArray) (hb : s.heap.IsList b ws.toArray) (hsz : vs.length + ws.length ≤ sizeLine)
    (k : Q (.ref s.heap.objs.size) { s with heap := s.heap.push { cls := .type "list", data := .seq (vs ++ ws).toArray } }) : wpAny (model prog w) A (binaryOp .Add (.ref l) (.ref b)) Q E s := by
  obtain ⟨⟨c1, d1, x1, s1⟩, ho, hc, n, hd⟩ := id hl
  obtain ⟨⟨c2, d2, x2, s2⟩, ho2, hc2, n2, hd2⟩ := id hb
  simp only at hc hd hc2 hd2
  subst hc hd hc2 hd2
  have ea : vs.toArray ++ ws.toArray = (vs ++ ws).toArray := by simp
  rw [← ea] at k
  exact concat_meets ⟨_, ho, rfl⟩ ⟨_, ho2, rfl⟩ noFill_list_add seq_list_add PySem.F.slot_list_add PySem.F.entry_list_add (PySem.F.args_list_add_2 _ _) (list_addW l b vs.toArray ws.toArray n n2 d1 d2 s1 s2 (by simpa using hsz)) ⟨ho, ho2, k⟩
end
section
variable {X : Cx}
end
end L3
namespace L3
open PySem PySem.Spec L2
open PyProof.Rows hiding St
section
variable {X : Cx} {pos : Pos}
inductive DP (X : Cx) : List Str → List (Option Expr) → List Expr → (List Sl → Option (List D)) → Prop
  | nil : DP X [] [] [] nilF
  | cons {k : Str} {j : Nat} {p : Pos} {v : Expr} {ks : List Str} {keys : List (Option Expr)} {vs : List Expr} {f : List Sl → Option Sl} {g : List Sl → Option (List D)} : PX X v f → DP X ks keys vs g → DP X (k :: ks) (some (.Constant (.str k) j p) :: keys) (v :: vs) (consF f g)
private theorem DP.go {ks : List Str} {keys : List (Option Expr)} {vs : List Expr} {g : List Sl → Option (List D)} (d : DP X ks keys vs g) : ∃ trs, PPs X pos keys vs trs ∧ ∀ (σ : St) (H F : Hp) (ρ : List Sl) (ds : List D) (Q : List (V × V) → Hp → Prop), Rep X.K F H σ ρ → g ρ = some ds →
    (∀ us F' H', Grow F H F' H' → DenL X.K F' ds us → ks.length = us.length → Q ((ks.zip us).map fun z => (V.str z.1, z.2)) H') → tPairs trs σ H Q := by
  induction d with
  | nil => exact ⟨[], pps_nil, fun σ H F ρ ds Q R e k => by cases e; exact k [] F H (.refl R.sub) .nil rfl⟩
  | @cons k j p v ks keys vs f g hv _ ih =>
    obtain ⟨trs, h1, h2⟩ := ih
    refine ⟨(tC (.str k), tX X.K f) :: trs, pps_cons pe_str hv h1, fun σ H F ρ ds Q R e kk => ?_⟩
    unfold consF at e
    obtain ⟨r, e1, e⟩ := Option.bind_eq_some_iff.mp e
    obtain ⟨ds', e2, e⟩ := Option.bind_eq_some_iff.mp e
    cases e
    show tX X.K f σ H fun y H2 => tPairs trs σ H2 fun ps H3 => Q ((V.str k, y) :: ps) H3
    refine ⟨F, ρ, r, R, e1, fun y F1 H1 g1 q1 => ?_⟩
    obtain ⟨F2, g2, s2, den⟩ := q1.den g1
    refine h2 σ H1 F2 ρ ds' _ (R.grow g2) e2 fun us F3 H3 g3 q3 hl => ?_
    exact kk (y :: us) F3 H3 (g2.trans g3) (.cons (den.mono g3.ff) q3) (by simp [hl])
end
end L3
namespace L3
open PySem PySem.Spec L2
open PyProof.Rows hiding St
section
variable {prog : Program} {w : World} {A : Around} {E : Value → Shared → Prop} {s : Shared}
end
section
variable {X : Cx} {e : Expr} {pos p2 : Pos}
end
end L3
namespace L3
open PySem PySem.Spec L2
open PyProof.Rows hiding St
section
variable {prog : Program} {w : World} {A : Around} {E : Value → Shared → Prop} {s : Shared}
end
section
variable {X : Cx} {tg e : Expr} {es : List Expr} {pos p pos2 p2 : Pos}
end
end L3
namespace L3
open PySem PySem.Spec L2
open PyProof.Rows hiding St
end L3
namespace L3
open PySem PySem.Spec L2
open PyProof.Rows hiding St
section
variable {X : Cx}
noncomputable def isX (d1 d2 : D) : Option Sl := match d1, d2 with
  | .b x, .b y => some (.sh (.b (x == y)))
  | _, _ => isO d1 d2
noncomputable def isnotX (d1 d2 : D) : Option Sl := match d1, d2 with
  | .b x, .b y => some (.sh (.b (!(x == y))))
  | _, _ => isnotO d1 d2
private theorem bool_beq (x y : Bool) : (Value.bool x == Value.bool y) = (x == y) := by cases x <;> cases y <;> rfl
private theorem ox_isX : OpR X (compareOp .Is) (rX X.K isX) := by
  intro pins s σ H x y v u Q I rx ry q
  obtain ⟨F, d1, d2, r, hs, h1, h2, e, k⟩ := q
  unfold isX at e
  split at e
  · rename_i a b
    cases e
    cases (show x = V.bl a from h1)
    cases (show y = V.bl b from h2)
    cases (show v = Value.bool a from rx)
    cases (show u = Value.bool b from ry)
    refine wpAny_bind (wpAny_isSame_plain rfl (wpAny_pure ⟨.bl (a == b), H, I, ?_, k _ F H (.refl hs) (.sh rfl)⟩))
    rw [bool_beq]; rfl
  · exact ox_is pins s σ H x y v u Q I rx ry ⟨F, d1, d2, r, hs, h1, h2, e, k⟩
private theorem ox_isnotX : OpR X (compareOp .IsNot) (rX X.K isnotX) := by
  intro pins s σ H x y v u Q I rx ry q
  obtain ⟨F, d1, d2, r, hs, h1, h2, e, k⟩ := q
  unfold isnotX at e
  split at e
  · rename_i a b
    cases e
    cases (show x = V.bl a from h1)
    cases (show y = V.bl b from h2)
    cases (show v = Value.bool a from rx)
    cases (show u = Value.bool b from ry)
    refine wpAny_bind (wpAny_isSame_plain rfl (wpAny_pure ⟨.bl (!(a == b)), H, I, ?_, k _ F H (.refl hs) (.sh rfl)⟩))
    rw [bool_beq]; rfl
  · exact ox_isnot pins s σ H x y v u Q I rx ry ⟨F, d1, d2, r, hs, h1, h2, e, k⟩
end
end L3
namespace L3
open PySem PySem.Spec L2
open PyProof.Rows hiding St
private theorem vw_flat1 {r : Sl} (h : r.own = false) : r.vw = r := by cases r <;> first | rfl | cases h
private theorem vw_own1 {r : Sl} (h : r.own = true) : r.vw = .sh r.toD := by cases r <;> first | rfl | cases h
private theorem RepS.frz1 {K : PySem.W.Frag} {F₀ H₀ F H : Hp} {σ : St} {ρ : List Sl} {j : Nat} {r : Sl} (R : RepS K F₀ H₀ F H σ ρ) (hj : ρ[j]? = some r) : ∃ F', RepS K F₀ H₀ F' H σ (ρ.set j r.vw) := by
  have hlt : j < ρ.length := (List.getElem?_eq_some_iff.mp hj).1
  cases ho : r.own with
  | false =>
    refine ⟨F, ?_⟩
    rw [vw_flat1 ho, show ρ.set j r = ρ by
      obtain ⟨hl, e⟩ := List.getElem?_eq_some_iff.mp hj
      subst e
      exact List.set_getElem_self hl]
    exact R
  | true =>
    obtain ⟨v, h1, h2⟩ := R.rep.at_ j r hj (by intro z; subst z; cases ho)
    obtain ⟨p, o, rfl, q1, q2, q3⟩ := h2.ref ho
    have sF : Same F (upd F p o) := same_upd q2 o
    have old : ∀ {i : Nat} {r' : Sl}, (ρ.set j r.vw)[i]? = some r' → r'.own = true → i ≠ j ∧ ρ[i]? = some r' := fun {i r'} e o' => by
      by_cases z : i = j
      · subst z
        rw [List.getElem?_set_self hlt] at e
        cases e
        rw [Sl.vw_own] at o'; cases o'
      · rw [List.getElem?_set_ne (Ne.symm z)] at e
        exact ⟨z, e⟩
    have held : ∀ q, Held σ (ρ.set j r.vw) q → Held σ ρ q := fun q ⟨i, r', e, o', s⟩ => ⟨i, r', (old e o').2, o', s⟩
    refine ⟨upd F p o, ⟨⟨fun b u q => ?_, fun i r' e n => ?_, fun i i' r1 r2 q e1 e2 o1 o2 s1 s2 => ?_, by rw [List.length_set]; exact R.rep.len⟩, ⟨R.gr.same, R.gr.ff.trans sF, fun b u q => ?_, fun b e n => ?_⟩, fun q hq => R.fresh q (held q hq)⟩⟩
    · by_cases z : b = p
      · subst z; rw [upd_same] at q; rw [← q]; exact q1
      · rw [upd_ne z] at q; exact R.rep.sub _ _ q
    · by_cases z : i = j
      · subst z
        rw [List.getElem?_set_self hlt] at e
        cases e
        refine ⟨.ref p, h1, ?_⟩
        rw [vw_own1 ho]
        exact q3 _ sF upd_same
      · rw [List.getElem?_set_ne (Ne.symm z)] at e
        obtain ⟨v', w1, w2⟩ := R.rep.at_ i r' e n
        refine ⟨v', w1, ?_⟩
        cases r' with
        | un => exact w2
        | sh d => exact Den.mono sF w2
        | ac ds =>
          obtain ⟨p', vs, rfl, y1, y2, y3⟩ := w2
          have ne : p' ≠ p := fun zz => z (R.rep.apart i j _ _ p e hj rfl ho (by rw [w1, zz]) h1)
          exact ⟨p', vs, rfl, y1, by rw [upd_ne ne]; exact y2, y3.mono sF⟩
        | ad ks ds =>
          obtain ⟨p', vs, rfl, y1, y2, y3, y4⟩ := w2
          have ne : p' ≠ p := fun zz => z (R.rep.apart i j _ _ p e hj rfl ho (by rw [w1, zz]) h1)
          exact ⟨p', vs, rfl, y1, by rw [upd_ne ne]; exact y2, y3, y4.mono sF⟩
    · exact R.rep.apart i i' r1 r2 q (old e1 o1).2 (old e2 o2).2 o1 o2 s1 s2
    · by_cases z : b = p
      · subst z; rw [upd_same] at q; rw [← q]; exact q1
      · rw [upd_ne z] at q; exact R.rep.sub _ _ q
    · by_cases z : b = p
      · subst z
        exact R.fresh b ⟨j, r, hj, ho, h1⟩
      · rw [upd_ne z] at n; exact R.gr.new b e n
noncomputable def frzG (j : Nat) (g : List Sl → Option Out) (ρ : List Sl) : Option Out := match ρ[j]? with
  | some r => g (ρ.set j r.vw)
  | none => none
private theorem q_frz {X : Cx} {st : Stmt} {j : Nat} {g : List Sl → Option Out} (h : PQ X st g) : PQ X st (frzG j g) := PS.imp h fun D σ H zq9 => by
  obtain ⟨F₀, H₀, F, ρ, o, R, e, k⟩ := zq9
  unfold frzG at e
  split at e
  · rename_i r hj
    obtain ⟨F', R'⟩ := R.frz1 hj
    exact ⟨F₀, H₀, F', _, o, R', e, k⟩
  · cases e
end L3
namespace L3
open PySem PySem.Spec L2
open PyProof.Rows hiding St
open PySem.Builtin PySem.Builtin.Str
section
variable {prog : Program} {w : World} {A : Around} {E : Value → Shared → Prop} {s : Shared}
private theorem bw_len : typeLookup (.type "list_reverseiterator") "__len__" = pure none := by rw [typeLookup_type, builtinLookup_eq_fast]; kernel_rfl
private theorem bw_hint : typeLookup (.type "list_reverseiterator") "__length_hint__" = pure (some (.builtin "list_reverseiterator.__length_hint__")) := by rw [typeLookup_type, builtinLookup_eq_fast]; kernel_rfl
private theorem hint_bw {it l : Addr} {i : Int} {Q : Bool → Shared → Prop} (hit : s.heap.IsRevIter it l i) (h : Q false s) : wpAny (model prog w) A (Builtin.List.listLengthHint (.ref it)) Q E s := by
  unfold Builtin.List.listLengthHint
  refine wpAny_bind (wpAny_specialOf hit.typeIs bw_len ?_)
  show wpAny _ _ (specialOf (Value.ref it) (Str.ofString "__length_hint__") >>= _) _ _ s
  refine wpAny_bind (wpAny_specialOf hit.typeIs bw_hint ?_)
  generalize hn : ("list_reverseiterator.__length_hint__" : String) = nm
  wp_delta
  rw [show splitId nm = some ("list_reverseiterator", "__length_hint__") from by subst hn; decide +kernel]
  subst hn
  refine wpAny_bind (wpAny_isInstance (T := "list_reverseiterator") (b := true) hit.typeIs (by rw [isSubtype_type]; kernel_rfl) ?_)
  refine wpAny_ite_split (fun z => absurd z (by decide)) (fun _ => ?_)
  refine wpAny_ite_split (fun _ => ?_) (fun z => absurd (by decide +kernel) z)
  refine wpAny_ite_split (fun z => absurd z (by decide +kernel)) (fun _ => ?_)
  exact wpAny_pure h
private theorem extend_bw {R : Result → Shared → Prop} {it l : Addr} {xs : Array Value} (hh : A.handled = none) (hit : s.heap.IsRevIter it l ((xs.size : Int) - 1)) (hl : s.heap.IsList l xs) (hne : l ≠ it) (hz : xs.size ≤ sizeLine) (S : Addr) (res : Value) (c₀ : Nat) (hSl : S ≠ l) (hSi : S ≠ it)
    (hS : s.heap.get? S = some { cls := .type "list", data := .seq #[] c₀ })
    (hR : ∀ h' tk acc c, (∀ b o, b ≠ S → b ≠ it → s.heap.get? b = some o → h'.get? b = some o) → h'.get? S = some { cls := .type "list", dict := none, data := .seq acc c, slots := #[] } →
      ItemsOf (fun i v => xs[xs.size - 1 - i]? = some v) acc xs.size → R (.ok (.ret res)) { s with heap := h', toks := tk }) :
    wpAny (model prog w) A.in1 (Builtin.List.listExtendWith (.ref S) (.ref it) res)
      (fun fin s' => match fin with | .done f => R (.ok f) s' | .again c' => c'.quiet = true ∧ codeAny (model prog w) A c' R s') (fun e s' => R (.error e) s') s := by
  have W := (Walks.listRev (prog := prog) (w := w) (A := A.in1) hh it l hne xs).toS
  unfold Builtin.List.listExtendWith
  refine wpAny_bind (wpAny_typeOf hit.typeIs ?_)
  have t1 : Builtin.List.listSameRef (.ref S) (.ref it) = false := by simp [Builtin.List.listSameRef, hSi]
  have t2 : (Value.type "list_reverseiterator" == Value.type "list") = false := by decide
  have t3 : (Value.type "list_reverseiterator" == Value.type "tuple") = false := by decide
  simp only [t1, t2, t3, Bool.or_false, Bool.false_eq_true, if_false]
  refine wpAny_bind (wpAny_pyIter_revIter hit (wpAny_bind (wpAny_holding (hint_bw hit ?_))))
  refine wpAny_ite_split (fun z => absurd z (by decide +kernel)) (fun _ => ?_)
  refine wpAny_pure ⟨plainId_quiet F.plain_extend_loop _, codeAny_extend_loopS W hz S (by simp [hSl, hSi]) res xs.size 0 _ #[] c₀ rfl (Nat.zero_le _) ⟨Nat.zero_le _, by simpa using hit, hl⟩ hS (ItemsOf.nil _) fun s' acc' c' mv hS' ac => ?_⟩
  rw [Moved.eq_with mv]
  exact hR _ _ acc' c' (fun b o hb hb' e => mv.heap b o (by simp [hb, hb']) e) hS' ac
private theorem init_bw {R : Result → Shared → Prop} {it l : Addr} {xs : Array Value} (hh : A.handled = none) (hit : s.heap.IsRevIter it l ((xs.size : Int) - 1)) (hl : s.heap.IsList l xs) (hne : l ≠ it) (hz : xs.size ≤ sizeLine) (S : Addr) (hSl : S ≠ l) (hSi : S ≠ it)
    (hS : s.heap.get? S = some { cls := .type "list", data := .seq #[] })
    (hR : ∀ h' tk acc c, (∀ b o, b ≠ S → b ≠ it → s.heap.get? b = some o → h'.get? b = some o) → h'.get? S = some { cls := .type "list", dict := none, data := .seq acc c, slots := #[] } →
      ItemsOf (fun i v => xs[xs.size - 1 - i]? = some v) acc xs.size → R (.ok (.ret .none)) { s with heap := h', toks := tk }) :
    wpAny (model prog w) A.in1 (Builtin.«list.__init__» ⟨[.ref S, .ref it], []⟩)
      (fun fin s' => match fin with | .done f => R (.ok f) s' | .again c' => c'.quiet = true ∧ codeAny (model prog w) A c' R s') (fun e s' => R (.error e) s') s := by
  show wpAny _ _ (do let old ← Builtin.List.listItems (.ref S); Builtin.List.listUpdate (.ref S) (fun _ => #[]); letGo old.toList.reverse; Builtin.List.listExtendWith (.ref S) (.ref it) .none) _ _ s
  refine wpAny_bind ?_
  unfold Builtin.List.listItems
  refine wpAny_bind (wpAny_seqItems hS rfl (wpAny_pure ?_))
  show wpAny _ _ (updateSeq S (fun _ => #[]) >>= fun _ => letGo (#[] : Array Value).toList.reverse >>= fun _ => Builtin.List.listExtendWith (.ref S) (.ref it) .none) _ _ s
  refine wpAny_bind (wpAny_updateSeq hS rfl ?_)
  have keep : ∀ b o, b ≠ S → s.heap.get? b = some o → (s.heap.update S (Obj.mapSeq (fun _ => (#[] : Array Value)))).get? b = some o := fun b o nb e => (Heap.get?_update_other _ _ (Ne.symm nb)).trans e
  refine wpAny_bind (wpAny_letGo ?_)
  exact extend_bw hh (hit.at fun o e => keep it o (Ne.symm hSi) e) (hl.at fun o e => keep l o (Ne.symm hSl) e) hne hz S .none _ hSl hSi (Heap.get?_update_self (Obj.mapSeq (fun _ => (#[] : Array Value))) hS rfl) fun h' tk acc c hk hS' ac =>
    hR h' tk acc c (fun b o nb nb' e => hk b o nb nb' (keep b o nb e)) hS' ac
private theorem call_list_bw {Q : Value → Shared → Prop} {it l : Addr} {xs : Array Value} (hh : A.handled = none) (hit : s.heap.IsRevIter it l ((xs.size : Int) - 1)) (hl : s.heap.IsList l xs) (hne : l ≠ it) (hz : xs.size ≤ sizeLine)
    (hQ : ∀ h' tk acc c, (∀ b o, b ≠ it → s.heap.get? b = some o → h'.get? b = some o) → h'.get? s.heap.objs.size = some { cls := .type "list", dict := none, data := .seq acc c, slots := #[] } →
      ItemsOf (fun i v => xs[xs.size - 1 - i]? = some v) acc xs.size → Q (.ref s.heap.objs.size) { s with heap := h', toks := tk }) : wpAny (model prog w) A (call (.type "list") [.ref it]) Q E s := by
  have nl : s.heap.objs.size ≠ l := fun z => by
    obtain ⟨o, e, _⟩ := hl
    exact absurd (Heap.lt_size e) (by rw [← z]; exact Nat.lt_irrefl _)
  have ni : s.heap.objs.size ≠ it := fun z => by
    obtain ⟨o, e, _⟩ := hit
    exact absurd (Heap.lt_size e) (by rw [← z]; exact Nat.lt_irrefl _)
  refine callType_codes (Q₁ := fun obj s₁ => obj = .ref s.heap.objs.size ∧ s₁ = { s with heap := s.heap.push { cls := .type "list", data := .seq #[] } }) F.called_list (F.typeCall_list_1 _) F.entry_list_init (code_list_new _ ⟨rfl, rfl⟩) fun obj s₁ z => ?_
  obtain ⟨rfl, rfl⟩ := z
  have hS : (s.heap.push { cls := .type "list", data := .seq #[] }).get? s.heap.objs.size = some { cls := .type "list", data := .seq #[] } := Heap.get?_push_size _ rfl
  refine ⟨⟨_, hS, rfl⟩, F.args_list_init_2 _ _, init_bw (A := A.in1) hh (hit.at fun o e => Heap.get?_push_of_some _ e) (hl.at fun o e => Heap.get?_push_of_some _ e) hne hz _ nl ni hS fun h' tk acc c hk hS' ac => ?_⟩
  exact ⟨rfl, hQ h' tk acc c (fun b o nb e => hk b o (Nat.ne_of_lt (Heap.lt_size e)) nb (Heap.get?_push_of_some _ e)) hS' ac⟩
inductive Whole : List Int → List Value → Prop
  | nil : Whole [] []
  | cons {n : Int} {t : Tok} {ns : List Int} {vs : List Value} : Whole ns vs → Whole (n :: ns) (.int n t :: vs)
open AutoSeq1 (wpAny_loadPart')
open AutoSeq1 (wpAny_loadPart')
end
section
variable {X : Cx} {e l : Expr} {pos p p2 lp lpos : Pos}
private theorem Whole.len : ∀ {ns : List Int} {us : List Value}, Whole ns us → us.length = ns.length
  | _, _, .nil => rfl
  | _, _, .cons w => by rw [List.length_cons, List.length_cons, w.len]
private theorem items_bw {vs : List V} : ∀ {us : List Value} {acc : Array Value}, Vals vs us → ItemsOf (fun i v => us.toArray[us.toArray.size - 1 - i]? = some v) acc us.toArray.size → Vals vs.reverse acc.toList := by
  intro us acc r zq9
  obtain ⟨h1, h2⟩ := zq9
  have e : acc.toList = us.reverse := by
    apply List.ext_getElem?
    intro i
    by_cases hi : i < us.length
    · have h3 : i < acc.size := by rw [h1]; simpa using hi
      have := h2 i acc[i] (by simp [h3])
      rw [List.getElem?_reverse hi, Array.getElem?_toList, Array.getElem?_eq_getElem h3, ← this]
      simp
    · rw [List.getElem?_eq_none (by rw [Array.length_toList, h1]; simpa using hi), List.getElem?_eq_none (by simpa using hi)]
  rw [e]
  exact vals_rev r
noncomputable def lbF (f : List Sl → Option Sl) (ρ : List Sl) : Option Sl := (revIt f ρ).map Sl.ac
private theorem px_lback {f : List Sl → Option Sl} (hc : X.calm = true) (hgl : Gl X "list") (hml : X.mg "list" = none) (hg : Gl X "reversed") (hm : X.mg "reversed" = none) (hl : PX X l f) (he : autoParam (starEach [l] X.env = (false, eval l X.env) :: starEach [] X.env) _root_.zt2) (hpl : autoParam ((backTo pos (starEach [] X.env)).any (·.1) = false) _root_.zt2)
    (he2 : autoParam (starEach [.Call (.Name "reversed" p) [l] [] pos] X.env = (false, eval (.Call (.Name "reversed" p) [l] [] pos) X.env) :: starEach [] X.env) _root_.zt2) (hpl2 : autoParam ((backTo lpos (starEach [] X.env)).any (·.1) = false) _root_.zt2) :
    PX X (.Call (.Name "list" lp) [.Call (.Name "reversed" p) [l] [] pos] [] lpos) (lbF f) := by
  intro pins s σ H Q I zq9
  obtain ⟨F, ρ, r, R, e0, k⟩ := zq9
  unfold lbF at e0
  obtain ⟨items, e0, rfl⟩ := Option.map_eq_some_iff.mp e0
  obtain ⟨r', ds, e1, hr, rfl⟩ : ∃ r ds, f ρ = some r ∧ r.toD = .l ds ∧ items = ds.reverse := by
    unfold revIt at e0
    split at e0
    · rename_i ds e1; cases e0; exact ⟨_, ds, e1, rfl, rfl⟩
    · rename_i ds e1; cases e0; exact ⟨_, ds, e1, rfl, rfl⟩
    · cases e0
  refine Call_ (ld_blt I hgl hml boot_list (PyProof.Rows.callWith_type1 ?_ he2 hpl2))
  rw [he2]
  show wpAny _ _ (spliced ((false, eval (.Call (.Name "reversed" p) [l] [] pos) X.env) :: backTo lpos (starEach [] X.env))) _ _ s
  refine Calls.spliced_cons ?_
  refine Call_ (ld_blt I hg hm boot_reversed (PyProof.Rows.callWith_type1 (thn (pa_cons (es := []) hl pa_nil he pos pins s σ H (fun vs H1 => ∃ F1 v, vs = [v] ∧ Grow F H F1 H1 ∧ Den X.K F1 (.l ds) v) I ⟨F, ρ, r', R, e1, fun v F1 H1 g1 q1 => ?_⟩) fun us s1 ⟨vs, H1, I1, r1, F1, v, ev, g1, den⟩ => ?_) he hpl))
  · obtain ⟨F2, g2, s2, den⟩ := q1.den g1
    rw [hr] at den
    exact ⟨F2, v, rfl, g2, den⟩
  · subst ev
    obtain ⟨ad, ws, rfl, z1, z2⟩ := den
    cases r1 with
    | cons r rr =>
      cases rr
      cases r
      obtain ⟨its, rv, pl, hz⟩ := I1.list (g1.sub.seq z1)
      refine call_reversed_list pl.isList ?_
      refine Calls.spliced_nil ?_
      have hn : ad ≠ s1.heap.objs.size := fun z => by
        obtain ⟨o, e, _⟩ := pl.isList
        exact absurd (Heap.lt_size e) (by rw [← z]; exact Nat.lt_irrefl _)
      have I2 : L2.Inv X pins σ H1 { s1 with heap := s1.heap.push (revObj ad ((its.toArray.size : Int) - 1)) } := I1.kept (t' := s1.toks) fun b o e => Heap.get?_push_of_some _ e
      refine call_list_bw (l := ad) (xs := its.toArray) (I.ok.hd hc) ⟨_, Heap.get?_push_size _ rfl, rfl, rfl⟩ (pl.isList.at fun o e => Heap.get?_push_of_some _ e) hn (by rw [List.size_toArray, ← rv.length]; exact hz) fun h' tk acc c hk hS ac => ?_
      have rv' := items_bw rv ac
      have hf : H1 (s1.heap.push (revObj ad ((its.toArray.size : Int) - 1))).objs.size = none := I2.fresh
      obtain ⟨f0, f1, f2, f3, f4, f5⟩ := I1.fpOk (Nat.le_refl _) (H' := H1) (I1.hok.fresh (Nat.le_refl _))
      have I3 : L2.Inv X pins σ (upd H1 (s1.heap.push (revObj ad ((its.toArray.size : Int) - 1))).objs.size (.lst ws.reverse)) { s1 with heap := h', toks := tk } := by
        have J := I2.laid (t' := s1.toks) (o := .lst ws.reverse) (h' := (s1.heap.push (revObj ad ((its.toArray.size : Int) - 1))).push { cls := .type "list", dict := none, data := .seq acc c, slots := #[] }) (fun _ _ q => Heap.get?_push_of_some _ q) (Nat.le_refl _)
          ⟨by rw [List.length_reverse]; exact hz, acc.toList, c, rv', by rw [Array.toArray_toList]; exact Heap.get?_push_size _ rfl⟩
        refine Inv.turned (s := { s1 with heap := (s1.heap.push (revObj ad ((its.toArray.size : Int) - 1))).push { cls := .type "list", dict := none, data := .seq acc c, slots := #[] } }) (t' := tk) (it := s1.heap.objs.size) J (fun b o nb e => ?_) ?_ f1 f3 f4 f5
        · rcases Heap.get?_push_cases e with ⟨rfl, rfl⟩ | e
          · exact hS
          · exact hk b o nb e
        · rw [upd_ne (by show s1.heap.objs.size ≠ (s1.heap.push (revObj ad ((its.toArray.size : Int) - 1))).objs.size; rw [Heap.objs_push, Array.size_push]; exact Nat.ne_of_lt (Nat.lt_succ_self _))]; exact f0
      have gr := Grow.own g1.sub hf (.lst ws.reverse)
      refine ⟨.ref _, _, I3, rfl, k _ F1 _ (g1.trans gr) ⟨⟨_, _, rfl, upd_same, g1.sub.free hf, DenL.reverse z2⟩, fun _ p' e' => ?_⟩⟩
      cases e'
      exact g1.same.free hf
end
private theorem DenL.two {K : PySem.W.Frag} {F : Hp} {a b : D} {vs : List V} (h : DenL K F [a, b] vs) : ∃ v w, vs = [v, w] ∧ Den K F a v ∧ Den K F b w := by
  obtain ⟨v, r, rfl, q1, w, r2, rfl, q2, rfl⟩ := h
  exact ⟨v, w, rfl, q1, q2⟩
section
variable {P : Program} {w : World} {K : PySem.W.Frag} {mg : Str → Option Value} {base : Heap}
end
section
variable {X : Cx} {ev : Value} {x : Str} {p pos : Pos} {e : Expr} {es : List Expr} {h : List D → Option Sl} {g : List Sl → Option (List D)} {k : Nat} {ps : List Str}
end
end L3
namespace L3
open PySem PySem.Spec L2
open PyProof.Rows hiding St
section
variable {X : Cx}
noncomputable def getF (f fk fx : List Sl → Option Sl) (ρ : List Sl) : Option Sl := match f ρ, fk ρ, fx ρ with
  | some r, some rk, some (.sh dx) => match r.toD with
    | .d ks ds => (keyD rk.toD).map fun k => .sh ((valD ks ds k).getD dx)
    | _ => none
  | _, _, _ => none
private theorem px_get {o e f : Expr} {apos cpos : Pos} {fo fk fx : List Sl → Option Sl} (hu : X.A.units + 1 < cLine) (ho : PX X o fo) (he : PX X e fk) (hf : PX X f fx) (m : M2 X o "get" apos e f cpos) : PX X (.Call (.Attribute o "get" apos) [e, f] [] cpos) (getF fo fk fx) :=
  PE.imp (pe_dget2 hu ho he hf m) fun σ H Q zq9 => by
    obtain ⟨F, ρ, r, R, e, k⟩ := zq9
    unfold getF at e
    split at e
    · rename_i rd rk dx e1 e2 e3
      split at e
      · rename_i ks ds hd
        obtain ⟨key, e4, rfl⟩ := Option.map_eq_some_iff.mp e
        refine ⟨F, ρ, rd, R, e1, fun v F1 H1 g1 q1 => ?_⟩
        obtain ⟨F2, g2, s2, den⟩ := q1.den g1
        rw [hd] at den
        obtain ⟨a, vs, rfl, z1, z3, z2⟩ := den
        refine ⟨a, rfl, .inl ⟨_, .inl (g2.sub _ _ z1)⟩, F2, ρ, rk, R.grow g2, e2, fun y F3 H3 g3 q3 => ?_⟩
        obtain ⟨F4, g4, s4, den2⟩ := q3.den g3
        refine ⟨F4, ρ, .sh dx, (R.grow g2).grow g4, e3, fun z F5 H5 g5 q5 => ?_⟩
        have z1' := g5.ff _ _ (g4.ff _ _ z1)
        have zz := DenL.mono g5.ff (DenL.mono g4.ff z2)
        cases keyD_of e4 den2
        have gg := g2.trans (g4.trans g5)
        refine ⟨valV (ks.zip vs) key, DGet.k (g5.sub _ _ z1'), k _ F5 H5 gg (.sh ?_)⟩
        cases hv : valD ks ds key with
        | some d =>
          obtain ⟨w, hw, dw⟩ := valD_some z3 zz hv
          rw [hw]; exact dw
        | none =>
          have hn := valD_none (k := key) z3 zz
          rw [hv] at hn
          have : valV (ks.zip vs) key = none := by simpa using hn
          rw [this]; exact q5.1
      · cases e
    · cases e
noncomputable def insI (n : Int) : List Int → List Int
  | [] => [n]
  | m :: r => if n ≤ m then n :: m :: r else m :: insI n r
noncomputable def srtI : List Int → List Int
  | [] => []
  | n :: r => insI n (srtI r)
private theorem insI_perm (n : Int) : ∀ xs, (insI n xs).Perm (n :: xs)
  | [] => .refl _
  | m :: r => by
    unfold insI
    split
    · exact .refl _
    · exact ((insI_perm n r).cons m).trans (.swap n m r)
private theorem srtI_perm : ∀ xs, (srtI xs).Perm xs
  | [] => .refl _
  | n :: r => (insI_perm n _).trans ((srtI_perm r).cons n)
private theorem insI_sorted (n : Int) : ∀ xs, xs.Pairwise (· ≤ ·) → (insI n xs).Pairwise (· ≤ ·)
  | [], _ => List.pairwise_singleton _ _
  | m :: r, h => by
    obtain ⟨h1, h2⟩ := List.pairwise_cons.mp h
    unfold insI
    split
    · rename_i c
      refine List.pairwise_cons.mpr ⟨fun a ha => ?_, h⟩
      rcases List.mem_cons.mp ha with rfl | ha
      · exact c
      · exact Int.le_trans c (h1 a ha)
    · rename_i c
      refine List.pairwise_cons.mpr ⟨fun a ha => ?_, insI_sorted n r h2⟩
      rcases List.mem_cons.mp ((insI_perm n r).mem_iff.mp ha) with rfl | ha
      · omega
      · exact h1 a ha
private theorem srtI_sorted : ∀ xs, (srtI xs).Pairwise (· ≤ ·)
  | [] => .nil
  | n :: r => insI_sorted n _ (srtI_sorted r)
private theorem srt_one : ∀ {xs ys : List Int}, xs.Perm ys → xs.Pairwise (· ≤ ·) → ys.Pairwise (· ≤ ·) → xs = ys
  | [], ys, p, _, _ => (List.nil_perm.mp p).symm
  | x :: xs, [], p, _, _ => absurd (List.perm_nil.mp p) (by simp)
  | x :: xs, y :: ys, p, h1, h2 => by
    obtain ⟨a1, a2⟩ := List.pairwise_cons.mp h1
    obtain ⟨b1, b2⟩ := List.pairwise_cons.mp h2
    have e : x = y := by
      have m1 : x ∈ y :: ys := p.mem_iff.mp List.mem_cons_self
      have m2 : y ∈ x :: xs := p.mem_iff.mpr List.mem_cons_self
      rcases List.mem_cons.mp m1 with q | q
      · exact q
      · rcases List.mem_cons.mp m2 with z | z
        · exact z.symm
        · exact Int.le_antisymm (a1 y z) (b1 x q)
    subst e
    rw [srt_one ((List.perm_cons x).mp p) a2 b2]
noncomputable def intsK : List Key → Option (List Int)
  | [] => some []
  | .inl n :: r => (intsK r).map (n :: ·)
  | .inr _ :: _ => none
private theorem intsK_keys : ∀ {ks : List Key} {ns : List Int}, intsK ks = some ns → ks = ns.map Sum.inl
  | [], _, h => by cases h; rfl
  | .inl n :: r, ns, h => by
    obtain ⟨m, h1, rfl⟩ := Option.map_eq_some_iff.mp h
    rw [List.map_cons, intsK_keys h1]
  | .inr _ :: _, _, h => by cases h
noncomputable def sortB : List D → Option Sl
  | [.d ks _] => (intsK ks).bind fun ns => if ns.length < 64 then some (.ac ((srtI ns).map D.i)) else none
  | _ => none
private theorem ints_items {P : Program} {w : World} {ns : List Int} {kvs : List (Key × Value)} {acc : Array Value} (hk : kvs.map (·.1) = ns.map Sum.inl) (ac : ItemsOf (fun i v => ∃ k x, kvs[i]? = some (k, x) ∧ (mixKind P w).is k v = true) acc kvs.length) : IntsAre acc.toList ns := by
  have hl : kvs.length = ns.length := by have := congrArg List.length hk; simpa using this
  have go : ∀ (ms : List Int) (us : List Value), us.length = ms.length → (∀ (i : Nat) (v : Value) (m : Int), us[i]? = some v → ms[i]? = some m → (mixKind P w).is (.inl m) v = true) → IntsAre us ms := by
    intro ms
    induction ms with
    | nil => intro us h _; cases us with
      | nil => exact .nil
      | cons _ _ => simp at h
    | cons m ms ih =>
      intro us h q
      cases us with
      | nil => simp at h
      | cons u us =>
        have q0 := q 0 u m rfl rfl
        have : ∃ t, u = .int m t := by
          cases u with
          | int i t => exact ⟨t, by simpa [mixKind, keyIs, Value.isInt] using q0⟩
          | _ => simp [mixKind, keyIs, Value.isInt] at q0
        obtain ⟨t, rfl⟩ := this
        exact .cons m t (ih us (by simpa using h) fun i v m' e1 e2 => q (i + 1) v m' (by simpa using e1) (by simpa using e2))
  refine go ns acc.toList (by rw [Array.length_toList, ac.1, hl]) fun i v m e1 e2 => ?_
  obtain ⟨k, x, e3, e4⟩ := ac.2 i v (by rw [Array.getElem?_toList] at e1; exact e1)
  have e5 : (kvs.map (·.1))[i]? = some k := by rw [List.getElem?_map, e3]; rfl
  rw [hk, List.getElem?_map, e2] at e5
  cases e5
  exact e4
private theorem ints_vals : ∀ {us : List Value} {ns : List Int}, IntsAre us ns → Vals (ns.map V.int) us
  | _, _, .nil => .nil
  | _, _, .cons n t h => .cons ⟨t, rfl⟩ (ints_vals h)
private theorem den_ints {K : PySem.W.Frag} {F : Hp} : ∀ ns : List Int, DenL K F (ns.map D.i) (ns.map V.int)
  | [] => .nil
  | _ :: r => .cons rfl (den_ints r)
private theorem call_sorted (hc : X.calm = true) : CallR X (.builtin "sorted") (rCX X.K sortB) := by
  intro pins s σ H xs us Q I r q
  obtain ⟨F, ds, rr, hs, den, e, k⟩ := q
  unfold sortB at e
  split at e
  · rename_i ks dv
    obtain ⟨ns, hk, e⟩ := Option.bind_eq_some_iff.mp e
    split at e
    · rename_i hl
      cases e
      obtain ⟨v, rfl, a, vs, rfl, z1, z3, z2⟩ := den1 den
      obtain ⟨u, rfl, ru⟩ := vals1 r
      cases ru
      obtain ⟨z, hsys, wvs, rel, dd⟩ := dk_of I.hok (hs _ _ z1)
      obtain ⟨o, es, ep, d1, d2, d3, d4, d5, d6⟩ := dd
      have hkeys : wvs.map (·.1) = ns.map Sum.inl := by
        rw [← KV.keys rel, List.map_fst_zip (by omega), intsK_keys hk]
      have hwl : wvs.length = ns.length := by have := congrArg List.length hkeys; simpa using this
      refine Calls.call_function_entry kind_sorted plain_sorted entry_sorted (args_sorted1 _) ?_
      show wpAny _ _ (collect (.ref a) >>= fun its => newList its >>= fun l => holding [l] (call (.builtin "list.sort") [l] []) >>= fun _ => ret l) _ _ _
      refine wpAny_bind (PySem.W.kdu_collect (PySem.W.kdl_dict (prog := X.prog) (w := X.w) (knd := mixKind X.prog X.w) (kvs := wvs) (ep := ep) hsys) (I.ok.hd hc) ⟨o, es, d1, d2, d3, d4, d5, d6⟩ (by rw [← rel.length]; exact z) fun h1 tk acc keep items => ?_)
      have ia := ints_items hkeys items
      have al : acc.toList.length = ns.length := by rw [Array.length_toList, items.1, hwl]
      refine wpAny_bind (wpAny_newList ?_ (by rw [al]; exact Nat.le_trans (Nat.le_of_lt hl) (by decide)))
      have ge : (h1.push { cls := Value.type "list", data := Data.seq acc.toList.toArray }).get? h1.objs.size = some (seqObj "list" acc.toList.toArray 0) := Heap.get?_push_size _ rfl
      refine wpAny_bind (wpAny_holding (wpAny_call_entry slot_list_sort ⟨_, ge, rfl⟩ entry_list_sort (list_sort_tree ge ia (by rw [al]; exact hl) fun out ns' io pm pw => ⟨_, rfl, ?_⟩) (args_list_sort _)))
      have en : ns' = srtI ns := srt_one (pm.trans (srtI_perm ns).symm) pw (srtI_sorted ns)
      subst en
      refine wpAny_pure ⟨_, rfl, ?_⟩
      have I1 : L2.Inv X pins σ H { s with heap := h1, toks := tk } := I.kept (t' := tk) keep
      have hf : H h1.objs.size = none := I1.hok.fresh (Nat.le_refl _)
      obtain ⟨c, hat⟩ := sortedHeap_at (out := out) ge
      have J := I1.laid (t' := tk) (o := .lst ((srtI ns).map V.int)) (h' := sortedHeap (h1.push { cls := Value.type "list", data := Data.seq acc.toList.toArray }) h1.objs.size acc.toList out) (a := h1.objs.size) (fun b u q => by
        have lb : b < h1.objs.size := Heap.lt_size q
        rw [sortedHeap_old (Nat.ne_of_lt lb) (by rw [Heap.objs_push, Array.size_push]; exact Nat.lt_succ_of_lt lb)]
        exact Heap.get?_push_of_some _ q) (Nat.le_refl _) ⟨by rw [List.length_map, (srtI_perm ns).length_eq]; exact Nat.le_trans (Nat.le_of_lt hl) (by decide), out.toList, c, ints_vals io, by rw [Array.toArray_toList]; exact hat⟩
      have gr := Grow.own (F := F) hs hf (.lst ((srtI ns).map V.int))
      refine ⟨.ref _, _, J, rfl, k _ F _ gr ⟨⟨_, _, rfl, upd_same, hs.free hf, den_ints _⟩, fun _ p' e' => ?_⟩⟩
      cases e'
      exact hf
    · cases e
  · cases e
noncomputable def inX (d1 d2 : D) : Option Sl := match d1, d2 with
  | .i n, .l ds => (intsOf ds).map fun ns => .sh (.b (ns.contains n))
  | _, _ => inO d1 d2
private theorem intsOf_vals {K : PySem.W.Frag} {F : Hp} : ∀ {ds : List D} {ns : List Int} {vs : List V}, intsOf ds = some ns → DenL K F ds vs → vs = ns.map V.int
  | [], _, _, h, d => by cases h; exact d
  | .i x :: ds, ns, _, h, d => by
    obtain ⟨m, h1, rfl⟩ := Option.map_eq_some_iff.mp h
    obtain ⟨v, r, rfl, q1, q2⟩ := d
    rw [intsOf_vals h1 q2, show v = .int x from q1]; rfl
private theorem inV_ints (n : Int) : ∀ ns : List Int, inV (.int n) (ns.map V.int) = ns.contains n
  | [] => rfl
  | m :: r => by
    have ih := inV_ints n r
    unfold inV at *
    rw [List.map_cons, List.any_cons, ih, List.contains_cons, Bool.beq_comm]
    rfl
private theorem flat_ints : ∀ ns : List Int, (ns.map V.int).all flatV = true
  | [] => rfl
  | _ :: r => by rw [List.map_cons, List.all_cons, flat_ints r]; rfl
private theorem ox_inX (hu : X.A.units + 1 < cLine) : OpR X (compareOp .In) (rX X.K inX) := by
  intro pins s σ H x y v u Q I rx ry q
  obtain ⟨F, d1, d2, r, hs, h1, h2, e, k⟩ := q
  unfold inX at e
  split at e
  · rename_i n ds
    obtain ⟨ns, hn, rfl⟩ := Option.map_eq_some_iff.mp e
    obtain ⟨a, vs, rfl, z1, z2⟩ := h2
    cases intsOf_vals hn z2
    cases (show x = .int n from h1)
    refine op_in_seq pins s σ H _ _ v u Q I rx ry ⟨a, _, rfl, .inl (hs.seq z1), rfl, flat_ints ns, ?_⟩
    rw [if_neg (by decide), inV_ints]
    exact k _ F H (.refl hs) (.sh rfl)
  · exact ox_in hu pins s σ H x y v u Q I rx ry ⟨F, d1, d2, r, hs, h1, h2, e, k⟩
end
noncomputable def LtA (A : Around) (s : Shared) (x y : Value) (b : Bool) : Prop := ∀ (prog : Program) (w : World) (E Q : Value → Shared → Prop), Q (.bool b) s → wpAny (model prog w) A (richCompare .Lt x y) Q E s
noncomputable def pairLt (e1 e2 b1 b2 : Bool) : Bool := if e1 then (if e2 then false else b2) else b1
open AutoSeq1 (wpAny_loadPart')
open MeetsSeq MeetsSeq2 MeetsSeq3 in
private theorem pair_lt (l b : Addr) (x1 x2 y1 y2 : Value) (n n2 : Nat) (dd dd2 : Option Addr) (sl sl2 : Array (Option Value)) (e1 e2 b1 b2 : Bool) :
    Meets (Builtin.«tuple.__lt__» ⟨[.ref l, .ref b], []⟩)
      (fun A R s => s.heap.get? l = some { cls := .type "tuple", dict := dd, data := .seq #[x1, x2] n, slots := sl } ∧ s.heap.get? b = some { cls := .type "tuple", dict := dd2, data := .seq #[y1, y2] n2, slots := sl2 } ∧
        SeqAt.EqAt A.in1 s x1 y1 e1 ∧ SeqAt.EqAt A.in1 s x2 y2 e2 ∧ LtA A.in1 s x1 y1 b1 ∧ LtA A.in1 s x2 y2 b2 ∧ R (.ok (.ret (.bool (pairLt e1 e2 b1 b2)))) s) :=
  .of_wp fun prog w A R s h => by
    obtain ⟨hp, g, d, tk, os⟩ := s; obtain ⟨hl, hb, q1, q2, l1, l2, h⟩ := h
    have f2 := AutoSeq1.sub_tuple_tuple
    wp_walk using wpAny_loadPart' hl, wpAny_loadPart' hb, wpAny_forIn_list _ (fun rest b s' => b.1 = none ∧ s' = ⟨hp, g, d, tk, os⟩ ∧ (rest = [(x1, y1), (x2, y2)] ∨ (rest = [(x2, y2)] ∧ e1 = true) ∨ (rest = [] ∧ e1 = true ∧ e2 = true))) _
    case turn =>
      rintro ⟨y, x⟩ rest b s' ⟨hb', rfl, hz⟩
      rcases hz with hz | ⟨hz, t1⟩ | ⟨hz, _⟩
      · injection hz with hyx hrest
        injection hyx with hy hx
        subst hy hx hrest
        refine wpAny_bind (q1 prog w _ _ ?_)
        cases e1 with
        | true =>
          wp_walk
          exact ⟨rfl, rfl, .inr (.inl ⟨rfl, rfl⟩)⟩
        | false =>
          have hri := l1 prog w
          wp_walk using hri
          exact ⟨_, rfl, by simpa [pairLt] using h⟩
      · injection hz with hyx hrest
        injection hyx with hy hx
        subst hy hx hrest t1
        refine wpAny_bind (q2 prog w _ _ ?_)
        cases e2 with
        | true =>
          wp_walk
          exact ⟨rfl, rfl, .inr (.inr ⟨rfl, rfl, rfl⟩)⟩
        | false =>
          have hri := l2 prog w
          wp_walk using hri
          exact ⟨_, rfl, by simpa [pairLt] using h⟩
      · cases hz
    case fin =>
      rintro ⟨b1', b2'⟩ s' ⟨hb', rfl, hz⟩
      simp only at hb'
      subst hb'
      rcases hz with hz | ⟨hz, _⟩ | ⟨_, t1, t2⟩
      · cases hz
      · cases hz
      · subst t1 t2
        wp_walk
        exact ⟨_, rfl, by simpa [pairLt, Builtin.Tuple.tupleCompareSizes] using h⟩
    exact ⟨rfl, rfl, .inl rfl⟩
section
variable {prog : Program} {w : World} {A : Around} {E : Value → Shared → Prop} {s : Shared}
private theorem tup_parts {h : Heap} {l : Addr} {vs : Array Value} (ht : h.IsTuple l vs) : ∃ dd n sl, h.get? l = some { cls := .type "tuple", dict := dd, data := .seq vs n, slots := sl } := by
  obtain ⟨⟨cls, dd, data, sl⟩, ho, hc, n, hd⟩ := id ht
  simp only at hc hd
  subst hc hd
  exact ⟨dd, n, sl, ho⟩
private theorem ltA_pair {l b : Addr} {x1 x2 y1 y2 : Value} {e1 e2 b1 b2 : Bool} (hl : s.heap.IsTuple l #[x1, x2]) (hb : s.heap.IsTuple b #[y1, y2]) (hu : A.units < cLine)
    (q1 : SeqAt.EqAt A.in1 s x1 y1 e1) (q2 : SeqAt.EqAt A.in1 s x2 y2 e2) (l1 : LtA A.in1 s x1 y1 b1) (l2 : LtA A.in1 s x2 y2 b2) : LtA A s (.ref l) (.ref b) (pairLt e1 e2 b1 b2) := by
  intro prog w E Q k
  obtain ⟨d1, n1, s1, g1⟩ := tup_parts hl
  obtain ⟨d2, n2, s2, g2⟩ := tup_parts hb
  exact richCompare_meets_room (op := .Lt) ⟨_, g1, rfl⟩ ⟨_, g2, rfl⟩ PySem.F.slot_tuple_lt PySem.F.entry_tuple_lt (PySem.F.args_tuple_lt_2 _ _) (pair_lt l b x1 x2 y1 y2 n1 n2 d1 d2 s1 s2 e1 e2 b1 b2)
    ⟨g1, g2, q1, q2, l1, l2, show Value.bool (pairLt e1 e2 b1 b2) ≠ Value.notImplemented ∧ Q (.bool (pairLt e1 e2 b1 b2)) s from ⟨(fun x => nomatch x), k⟩⟩ hu
noncomputable abbrev T3 := Int × Int × Int
noncomputable def Tri (h : Heap) (v : Value) (x : T3) : Prop := ∃ p q k t1 t2, v = .ref p ∧ h.IsTuple p #[.int x.1 k, .ref q] ∧ h.IsTuple q #[.int x.2.1 t1, .int x.2.2 t2]
private theorem Tri.mono {h h' : Heap} {v : Value} {x : T3} (t : Tri h v x) (k : ∀ b o, h.get? b = some o → h'.get? b = some o) : Tri h' v x := by
  obtain ⟨p, q, z, t1, t2, e, a1, a2⟩ := t
  exact ⟨p, q, z, t1, t2, e, a1.at fun o e => k _ o e, a2.at fun o e => k _ o e⟩
noncomputable def tlt (x y : T3) : Bool := pairLt (x.1 == y.1) (x.2.1 == y.2.1 && x.2.2 == y.2.2) (decide (x.1 < y.1)) (pairLt (x.2.1 == y.2.1) (x.2.2 == y.2.2) (decide (x.2.1 < y.2.1)) (decide (x.2.2 < y.2.2)))
private theorem ltA_int {a c : Int} {t u : Tok} : LtA A s (.int a t) (.int c u) (decide (a < c)) := fun prog w E Q k => HT.rcLt_int A s a t c u prog w E Q k
private theorem tup_inj {h : Heap} {p : Addr} {us vs : Array Value} (h1 : h.IsTuple p us) (h2 : h.IsTuple p vs) : us = vs := by
  obtain ⟨_, _, _, g1⟩ := tup_parts h1
  obtain ⟨_, _, _, g2⟩ := tup_parts h2
  rw [g1] at g2
  injection g2 with g
  injection g with _ _ g _
  injection g
private theorem eqA_pair {l b : Addr} {a1 a2 c1 c2 : Int} {t1 t2 u1 u2 : Tok} (hl : s.heap.IsTuple l #[.int a1 t1, .int a2 t2]) (hb : s.heap.IsTuple b #[.int c1 u1, .int c2 u2]) (hu : A.units < cLine) : SeqAt.EqAt A s (.ref l) (.ref b) (a1 == c1 && a2 == c2) := by
  by_cases e : l = b
  · subst e
    have z := tup_inj hl hb
    have z1 : (a1 = c1 ∧ t1 = u1) ∧ a2 = c2 ∧ t2 = u2 := by simpa using z
    obtain ⟨⟨rfl, _⟩, rfl, _⟩ := z1
    rw [beq_self_eq_true, beq_self_eq_true]
    exact SeqAt.EqAt.same _
  · have r := SeqAt.RcAt.tuples (A := A) (e := fun j => if j = 0 then a1 == c1 else a2 == c2) hl hb hu fun j h1 h2 => by
      have hj : j = 0 ∨ j = 1 := by simp at h1; omega
      rcases hj with rfl | rfl
      · exact SeqAt.EqAt.int_int a1 t1 c1 u1
      · exact SeqAt.EqAt.int_int a2 t2 c2 u2
    have r2 := SeqAt.EqAt.of_refs e r
    have ee : ((List.range (min (#[Value.int a1 t1, Value.int a2 t2] : Array Value).size (#[Value.int c1 u1, Value.int c2 u2] : Array Value).size)).all (fun j => if j = 0 then a1 == c1 else a2 == c2) && (#[Value.int a1 t1, Value.int a2 t2] : Array Value).size == (#[Value.int c1 u1, Value.int c2 u2] : Array Value).size) = (a1 == c1 && a2 == c2) := by
      show ((List.range 2).all _ && true) = _
      simp [List.range_succ]
    rw [ee] at r2
    exact r2
private theorem ltA_tri {v v' : Value} {x y : T3} (h1 : Tri s.heap v x) (h2 : Tri s.heap v' y) (hu : A.units + 2 < cLine) : LtA A s v v' (tlt x y) := by
  obtain ⟨p, q, k, t1, t2, rfl, a1, a2⟩ := h1
  obtain ⟨p', q', k', t1', t2', rfl, c1, c2⟩ := h2
  have u1 : A.in1.units < cLine := by show A.units + 1 < cLine; omega
  exact ltA_pair a1 c1 (by omega) (SeqAt.EqAt.int_int _ _ _ _) (eqA_pair a2 c2 u1) ltA_int (ltA_pair a2 c2 u1 (SeqAt.EqAt.int_int _ _ _ _) (SeqAt.EqAt.int_int _ _ _ _) ltA_int ltA_int)
noncomputable def best (b : T3) : List T3 → T3
  | [] => b
  | x :: r => best (if tlt x b then x else b) r
private theorem min_loop {R : Result → Shared → Prop} {h0 : Heap} {l it S : Addr} {vs : Array Value} {gens : Array GenState} {dr : Drawn} {os : OsState} (hh : A.handled = none) (hu : A.units + 10 < cLine) (hli : h0.IsList l vs) (n1 : h0.get? it = none) (n2 : h0.get? S = none) (nS : S ≠ it) {T : Value → T3 → Prop} (hT : ∀ v x, T v x → Tri h0 v x) :
    ∀ (r : List T3) (j : Nat) (h : Heap) (tk : Nat) (vb : Value) (xb : T3), vs.size = j + r.length → (∀ (i : Nat) (v : Value) (x : T3), vs[j + i]? = some v → r[i]? = some x → T v x) → T vb xb →
      (∀ b o, h0.get? b = some o → h.get? b = some o) → h.IsListIter it l j → (∃ c, h.get? S = some { cls := .type "list", data := .seq #[vb, vb] c }) →
      (∀ (v : Value) (h' : Heap) (tk : Nat), T v (best xb r) → (∀ b o, h0.get? b = some o → h'.get? b = some o) → R (.ok (.ret v)) { heap := h', gens := gens, drawn := dr, toks := tk, os := os }) →
      codeAny (model prog w) A (Code.builtin "min.loop" { pos := [.ref it, .none, .ref S] }) R { heap := h, gens := gens, drawn := dr, toks := tk, os := os } := by
  intro r
  induction r with
  | nil =>
    intro j h tk vb xb hs ht tb keep hit ⟨c, hS⟩ hQ
    refine codeAny_builtin PySem.F.entry_min_loop ?_
    rw [Around.under_plainId PySem.F.plain_min_loop _]
    wp_delta
    wp_delta
    refine wpAny_bind (wpAny_seqItems hS rfl ?_)
    refine wpAny_bind (wpAny_tryCatch (wpAny_pyNext_list_end (show A.in1.handled = none from hh) hit (hli.at fun o e => keep _ o e) (Array.getElem?_eq_none (by simp at hs; omega)) fun h' eb => ?_))
    refine wpAny_bind (wpAny_updateSeq (eb S _ nS hS) rfl ?_)
    refine wpAny_bind (wpAny_letGo ?_)
    refine wpAny_pure (hQ _ _ _ tb fun b o e => ?_)
    have b1 : b ≠ it := fun z => by rw [z, n1] at e; cases e
    have b2 : b ≠ S := fun z => by rw [z, n2] at e; cases e
    exact (Heap.get?_update_other _ _ (Ne.symm b2)).trans (eb b o b1 (keep b o e))
  | cons x r ih =>
    intro j h tk vb xb hs ht tb keep hit ⟨c, hS⟩ hQ
    have hj : j < vs.size := by simp at hs; omega
    have hv : vs[j]? = some vs[j] := Array.getElem?_eq_getElem hj
    have tx : T vs[j] x := ht 0 _ _ (by simpa using hv) rfl
    generalize vs[j] = v at *
    refine codeAny_builtin PySem.F.entry_min_loop ?_
    rw [Around.under_plainId PySem.F.plain_min_loop _]
    wp_delta
    wp_delta
    have hn : (toString "min" ++ toString ".loop") = "min.loop" := by decide +kernel
    refine wpAny_bind (wpAny_seqItems hS rfl ?_)
    refine wpAny_bind (wpAny_tryCatch (wpAny_pyNext_list_item hit (hli.at fun o e => keep _ o e) hv fun h' hit' sb => ?_))
    have keep' : ∀ b o, h0.get? b = some o → h'.get? b = some o := fun b o e => by
      have b1 : b ≠ it := fun z => by rw [z, n1] at e; cases e
      exact (sb.2 b b1).trans (keep b o e)
    have hS' : h'.get? S = some { cls := .type "list", data := .seq #[vb, vb] c } := (sb.2 S nS).trans hS
    have lt := ltA_tri (A := A.in1) (s := { heap := h', gens := gens, drawn := dr, toks := tk, os := os }) ((hT _ _ tx).mono keep') ((hT _ _ tb).mono keep') (by show A.units + 1 + 2 < cLine; omega)
    refine wpAny_bind (wpAny_pure ?_)
    refine wpAny_bind (wpAny_tryCatch (wpAny_holding (wpAny_bind (lt _ _ _ _ ?_))))
    refine wpAny_bind (wpAny_holding (wpAny_truthy_bool ?_))
    refine wpAny_bind (wpAny_letGo ?_)
    refine wpAny_pure ?_
    cases hb : tlt x xb with
    | true =>
      refine wpAny_bind (wpAny_updateSeq hS' rfl ?_)
      refine wpAny_bind (wpAny_letGo ?_)
      refine wpAny_pure ⟨?_, ?_⟩
      · rw [hn]; exact plainId_quiet PySem.F.plain_min_loop _
      · rw [hn]
        refine ih (j + 1) _ tk v x (by simp at hs; omega) (fun i v' y e1 e2 => ht (i + 1) v' y (by rw [← e1]; congr 1; omega) (by simpa using e2)) tx (fun b o e => ?_) ?_ ?_ fun v' h2 tk2 t2 k2 => hQ v' h2 tk2 (by simpa [best, hb] using t2) k2
        · have b2 : b ≠ S := fun z => by rw [z, n2] at e; cases e
          exact (Heap.get?_update_other _ _ (Ne.symm b2)).trans (keep' b o e)
        · exact hit'.at fun o e => (Heap.get?_update_other _ _ nS).trans e
        · exact ⟨_, Heap.get?_update_self (Obj.mapSeq (fun _ => (#[v, v] : Array Value))) hS' rfl⟩
    | false =>
      refine wpAny_bind (wpAny_letGo ?_)
      refine wpAny_pure ⟨?_, ?_⟩
      · rw [hn]; exact plainId_quiet PySem.F.plain_min_loop _
      · rw [hn]
        exact ih (j + 1) _ tk vb xb (by simp at hs; omega) (fun i v' y e1 e2 => ht (i + 1) v' y (by rw [← e1]; congr 1; omega) (by simpa using e2)) tb keep' hit' ⟨c, hS'⟩ fun v' h2 tk2 t2 k2 => hQ v' h2 tk2 (by simpa [best, hb] using t2) k2
private theorem min_first {R : Result → Shared → Prop} {h0 : Heap} {l it S : Addr} {vs : Array Value} {gens : Array GenState} {dr : Drawn} {os : OsState} (hh : A.handled = none) (hu : A.units + 10 < cLine) (hli : h0.IsList l vs) (n1 : h0.get? it = none) (n2 : h0.get? S = none) (nS : S ≠ it) {T : Value → T3 → Prop} (hT : ∀ v x, T v x → Tri h0 v x)
    {x : T3} {r : List T3} {h : Heap} {tk c : Nat} (hz : vs.size = r.length + 1) (ht : ∀ (i : Nat) (v : Value) (y : T3), vs[i]? = some v → (x :: r)[i]? = some y → T v y)
    (keep : ∀ b o, h0.get? b = some o → h.get? b = some o) (hit : h.IsListIter it l 0) (hS : h.get? S = some { cls := .type "list", data := .seq #[] c })
    (hQ : ∀ (v : Value) (h' : Heap) (tk : Nat), T v (best x r) → (∀ b o, h0.get? b = some o → h'.get? b = some o) → R (.ok (.ret v)) { heap := h', gens := gens, drawn := dr, toks := tk, os := os }) :
    codeAny (model prog w) A (Code.builtin "min.loop" { pos := [.ref it, .none, .ref S] }) R { heap := h, gens := gens, drawn := dr, toks := tk, os := os } := by
  have hv : vs[0]? = some vs[0] := Array.getElem?_eq_getElem (by omega)
  have tx : T vs[0] x := ht 0 _ _ hv rfl
  generalize vs[0] = v at *
  refine codeAny_builtin PySem.F.entry_min_loop ?_
  rw [Around.under_plainId PySem.F.plain_min_loop _]
  wp_delta
  wp_delta
  have hn : (toString "min" ++ toString ".loop") = "min.loop" := by decide +kernel
  refine wpAny_bind (wpAny_seqItems hS rfl ?_)
  refine wpAny_bind (wpAny_tryCatch (wpAny_pyNext_list_item hit (hli.at fun o e => keep _ o e) hv fun h' hit' sb => ?_))
  have keep' : ∀ b o, h0.get? b = some o → h'.get? b = some o := fun b o e => by
    have b1 : b ≠ it := fun z => by rw [z, n1] at e; cases e
    exact (sb.2 b b1).trans (keep b o e)
  have hS' : h'.get? S = some { cls := .type "list", data := .seq #[] c } := (sb.2 S nS).trans hS
  refine wpAny_bind (wpAny_pure ?_)
  refine wpAny_bind (wpAny_updateSeq hS' rfl ?_)
  refine wpAny_pure ⟨?_, ?_⟩
  · rw [hn]; exact plainId_quiet PySem.F.plain_min_loop _
  rw [hn]
  refine min_loop hh hu hli n1 n2 nS hT r 1 _ tk v x (by omega) (fun i v' y e1 e2 => ht (i + 1) v' y (by rw [← e1]; congr 1; omega) (by simpa using e2)) tx (fun b o e => ?_) ?_ ?_ hQ
  · have b2 : b ≠ S := fun z => by rw [z, n2] at e; cases e
    exact (Heap.get?_update_other _ _ (Ne.symm b2)).trans (keep' b o e)
  · exact hit'.at fun o e => (Heap.get?_update_other _ _ nS).trans e
  · exact ⟨_, Heap.get?_update_self (Obj.mapSeq (fun _ => (#[v, v] : Array Value))) hS' rfl⟩
private theorem Heap.none_size {h : Heap} {a : Addr} (e : h.objs.size ≤ a) : h.get? a = none := by
  cases q : h.get? a with
  | none => rfl
  | some o => exact absurd (Nat.lt_of_lt_of_le (Heap.lt_size q) e) (Nat.lt_irrefl _)
private theorem call_min {Q : Value → Shared → Prop} {l : Addr} {vs : Array Value} {x : T3} {r : List T3} (hh : A.handled = none) (hu : A.units + 12 < cLine) (hli : s.heap.IsList l vs) {T : Value → T3 → Prop} (hT : ∀ v x, T v x → Tri s.heap v x) (hz : vs.size = r.length + 1) (ht : ∀ (i : Nat) (v : Value) (y : T3), vs[i]? = some v → (x :: r)[i]? = some y → T v y)
    (hQ : ∀ (v : Value) (h' : Heap) (tk : Nat), T v (best x r) → (∀ b o, s.heap.get? b = some o → h'.get? b = some o) → Q v { s with heap := h', toks := tk }) : wpAny (model prog w) A (call (.builtin "min") [.ref l]) Q E s := by
  refine call_function_tree PySem.F.kind_min PySem.F.plain_min PySem.F.entry_min (PySem.F.args_min1 _) ?_
  wp_delta
  wp_delta
  rw [if_neg (by simp)]
  have hb : Builtin.Builtins.bindParams "min" ["key", "default"] 0 { } = pure [none, none] := by rfl
  have hn : (toString "min" ++ toString ".loop") = "min.loop" := by decide +kernel
  rw [hb]
  refine wpAny_bind (wpAny_pure ?_)
  refine wpAny_bind (wpAny_pure ?_)
  refine wpAny_bind (wpAny_pyIter_list hli ?_)
  refine wpAny_bind (wpAny_newList ?_)
  refine wpAny_pure ⟨?_, ?_⟩
  · rw [hn]; exact plainId_quiet PySem.F.plain_min_loop _
  rw [hn]
  have s1 : (s.heap.push { cls := Value.type "list_iterator", data := Data.fields #[Value.ref l, Value.int 0 0] }).objs.size = s.heap.objs.size + 1 := by rw [Heap.objs_push, Array.size_push]
  have nS : (s.heap.push { cls := Value.type "list_iterator", data := Data.fields #[Value.ref l, Value.int 0 0] }).objs.size ≠ s.heap.objs.size := by rw [s1]; exact Nat.succ_ne_self _
  refine min_first (h0 := s.heap) hh (by omega) hli (Heap.none_size (Nat.le_refl _)) (Heap.none_size (by rw [s1]; exact Nat.le_succ _)) nS hT hz ht (fun b o e => Heap.get?_push_of_some _ (Heap.get?_push_of_some _ e)) ⟨_, Heap.get?_push_of_some _ (Heap.get?_push_size _ rfl), rfl, rfl⟩ (Heap.get?_push_size _ rfl) fun v h' tk t k => hQ v h' tk t k
end
noncomputable def triD (x : T3) : D := .t [.i x.1, .t [.i x.2.1, .i x.2.2]]
noncomputable def tupD : D → Option (List D)
  | .t xs => some xs
  | _ => none
noncomputable def twoD : List D → Option (D × D)
  | [a, b] => some (a, b)
  | _ => none
noncomputable def intD : D → Option Int
  | .i n => some n
  | _ => none
private theorem tupD_eq {d : D} {xs : List D} (h : tupD d = some xs) : d = .t xs := by
  cases d <;> first | (cases h; rfl) | cases h
private theorem intD_eq {d : D} {n : Int} (h : intD d = some n) : d = .i n := by
  cases d <;> first | (cases h; rfl) | cases h
private theorem twoD_eq {xs : List D} {q : D × D} (h : twoD xs = some q) : xs = [q.1, q.2] := by
  cases xs with
  | nil => cases h
  | cons a r =>
    cases r with
    | nil => cases h
    | cons b r =>
      cases r with
      | nil => cases h; rfl
      | cons c r => cases h
noncomputable def triOf (d : D) : Option T3 := (tupD d).bind fun xs => (twoD xs).bind fun q => (intD q.1).bind fun n => (tupD q.2).bind fun ys => (twoD ys).bind fun z => (intD z.1).bind fun a => (intD z.2).bind fun b => some (n, a, b)
private theorem triOf_eq {d : D} {x : T3} (h : triOf d = some x) : d = triD x := by
  unfold triOf at h
  obtain ⟨xs, h1, h⟩ := Option.bind_eq_some_iff.mp h
  obtain ⟨q, h2, h⟩ := Option.bind_eq_some_iff.mp h
  obtain ⟨n, h3, h⟩ := Option.bind_eq_some_iff.mp h
  obtain ⟨ys, h4, h⟩ := Option.bind_eq_some_iff.mp h
  obtain ⟨z, h5, h⟩ := Option.bind_eq_some_iff.mp h
  obtain ⟨a, h6, h⟩ := Option.bind_eq_some_iff.mp h
  obtain ⟨b, h7, h⟩ := Option.bind_eq_some_iff.mp h
  cases h
  rw [tupD_eq h1, twoD_eq h2, intD_eq h3, tupD_eq h4, twoD_eq h5, intD_eq h6, intD_eq h7]
  rfl
noncomputable def trisOf : List D → Option (List T3)
  | [] => some []
  | d :: ds => (triOf d).bind fun x => (trisOf ds).map (x :: ·)
private theorem trisOf_eq : ∀ {ds : List D} {xs : List T3}, trisOf ds = some xs → ds = xs.map triD
  | [], _, h => by cases h; rfl
  | d :: ds, xs, h => by
    obtain ⟨x, h1, h2⟩ := Option.bind_eq_some_iff.mp h
    obtain ⟨r, h3, rfl⟩ := Option.map_eq_some_iff.mp h2
    rw [triOf_eq h1, trisOf_eq h3]; rfl
private theorem trisOf_map : ∀ xs : List T3, trisOf (xs.map triD) = some xs
  | [] => rfl
  | x :: r => by rw [List.map_cons, trisOf, trisOf_map r]; rfl
noncomputable def minT : List D → Option Sl
  | [.l ds] => match trisOf ds with
    | some (x :: r) => some (.sh (triD (best x r)))
    | _ => none
  | _ => none
section
variable {X : Cx}
private theorem DenL.at_ {K : PySem.W.Frag} {F : Hp} : ∀ {ds : List D} {vs : List V} {i : Nat} {d : D}, DenL K F ds vs → ds[i]? = some d → ∃ v, vs[i]? = some v ∧ Den K F d v
  | [], _, _, _, _, h => by simp at h
  | d' :: ds, _, 0, d, q, h => by
    obtain ⟨v, r, rfl, q1, q2⟩ := q
    cases h
    exact ⟨v, rfl, q1⟩
  | d' :: ds, _, i + 1, d, q, h => by
    obtain ⟨v, r, rfl, q1, q2⟩ := q
    simpa using DenL.at_ q2 (by simpa using h)
private theorem call_minT (hc : X.calm = true) (hu : X.A.units + 12 < cLine) : CallR X (.builtin "min") (rCX X.K minT) := by
  intro pins s σ H xs us Q I r q
  obtain ⟨F, ds, rr, hs, den, e, k⟩ := q
  unfold minT at e
  split at e
  · rename_i dv
    split at e
    · rename_i x rest ht
      cases e
      cases trisOf_eq ht
      obtain ⟨v, rfl, a, vs, rfl, z1, z2⟩ := den1 den
      obtain ⟨u, rfl, ru⟩ := vals1 r
      cases ru
      obtain ⟨its, rv, pl, hz⟩ := I.list (hs.seq z1)
      have vl : vs.length = rest.length + 1 := by rw [← z2.length]; simp
      refine call_min (x := x) (r := rest) (T := fun u y => ∃ w, Den X.K F (triD y) w ∧ RelV w u) (I.ok.hd hc) hu pl.isList (fun u y ⟨w, dw, rw'⟩ => ?_) (by rw [List.size_toArray, ← rv.length]; exact vl) (fun i u y e1 e2 => ?_) fun u h' tk ⟨w, dw, rw'⟩ keep => ?_
      · obtain ⟨p, ws, rfl, y1, y2⟩ := dw
        obtain ⟨w1, w2, rfl, d1, d2⟩ := y2.two
        cases (show w1 = .int y.1 from d1)
        obtain ⟨p2, ws2, rfl, y3, y4⟩ := d2
        obtain ⟨w3, w4, rfl, d3, d4⟩ := y4.two
        cases (show w3 = .int y.2.1 from d3)
        cases (show w4 = .int y.2.2 from d4)
        cases rw'
        obtain ⟨i1, r1, t1, _⟩ := I.tuple (sq_mono_T hs y1)
        obtain ⟨i2, r2, t2, _⟩ := I.tuple (sq_mono_T hs y3)
        cases r1 with
        | cons a1 r1 => cases r1 with
          | cons a2 r1 =>
            cases r1
            obtain ⟨k1, rfl⟩ := a1
            cases a2
            cases r2 with
            | cons a3 r2 => cases r2 with
              | cons a4 r2 =>
                cases r2
                obtain ⟨k3, rfl⟩ := a3
                obtain ⟨k4, rfl⟩ := a4
                exact ⟨p, p2, k1, k3, k4, rfl, t1, t2⟩
      · have e3 : ((x :: rest).map triD)[i]? = some (triD y) := by rw [List.getElem?_map, e2]; rfl
        obtain ⟨w, hw, dw⟩ := DenL.at_ z2 e3
        obtain ⟨u', hu', ru⟩ := rv.get hw
        rw [List.getElem?_toArray, hu'] at e1
        cases e1
        exact ⟨w, dw, ru⟩
      · exact ⟨w, H, I.kept (t' := tk) keep, rw', k w F H (.refl hs) (.sh dw)⟩
    · cases e
  · cases e
end
private theorem hu12 {k : Nat} {A : Around} (hr : Room k A) : A.units + 12 < cLine := by have := hr.un; omega
private theorem px_lrng2 {X : Cx} {e : Expr} {es : List Expr} {p pos lp lpos : Pos} {g : List Sl → Option (List D)} (hc : X.calm = true) (hgl : Gl X "list") (hml : X.mg "list" = none) (hg : Gl X "range") (hm : X.mg "range" = none) (ha : PXs X (e :: es) g) (he : autoParam (starEach (e :: es) X.env = (false, eval e X.env) :: starEach es X.env) _root_.zt2)
    (hpl : autoParam ((backTo pos (starEach es X.env)).any (·.1) = false) _root_.zt2)
    (he2 : autoParam (starEach [.Call (.Name "range" p) (e :: es) [] pos] X.env = (false, eval (.Call (.Name "range" p) (e :: es) [] pos) X.env) :: starEach [] X.env) _root_.zt2) (hpl2 : autoParam ((backTo lpos (starEach [] X.env)).any (·.1) = false) _root_.zt2) :
    PX X (.Call (.Name "list" lp) [.Call (.Name "range" p) (e :: es) [] pos] [] lpos) (lrF g) := px_lrng hc hgl hml hg hm ha he hpl he2 hpl2
end L3
namespace L3
open PySem PySem.Spec L2
open PyProof.Rows hiding St
section
variable {X : Cx} {pos : Pos}
noncomputable def addL (d1 d2 : D) : Option Sl := match d1, d2 with
  | .l xs, .l ys => if xs.length + ys.length ≤ 10000000 then some (.ac (xs ++ ys)) else none
  | _, _ => none
private theorem ox_addL : OpR X (binaryOp .Add) (rX X.K addL) := by
  intro pins s σ H x y v u Q I rx ry q
  obtain ⟨F, d1, d2, r, hs, h1, h2, e, k⟩ := q
  unfold addL at e
  split at e
  · rename_i xs ys
    split at e
    · rename_i hz
      cases e
      obtain ⟨p, vs, rfl, z1, z2⟩ := h1
      obtain ⟨p', vs', rfl, y1, y2⟩ := h2
      cases rx
      cases ry
      obtain ⟨its, r1, q1, _⟩ := I.list (hs.seq z1)
      obtain ⟨jts, r2, q2, _⟩ := I.list (hs.seq y1)
      have l1 := z2.length
      have l2 := y2.length
      have m1 := r1.length
      have m2 := r2.length
      have hsz : its.length + jts.length ≤ sizeLine := by rw [sizeLine_eq]; omega
      refine cat_lists q1.isList q2.isList hsz ⟨.ref _, _, I.lnew (t' := s.toks) (r1.append r2) (by rw [List.length_append]; omega), rfl, ?_⟩
      have g := Grow.own hs I.fresh (.lst (vs ++ vs'))
      refine k _ F _ g ⟨⟨_, _, rfl, upd_same, hs.free I.fresh, z2.append y2⟩, fun _ p' e' => ?_⟩
      cases e'
      exact I.fresh
    · cases e
  · cases e
private theorem addL_l {xs ys : List D} (h : xs.length + ys.length ≤ 10000000) : addL (.l xs) (.l ys) = some (.ac (xs ++ ys)) := by
  show (if _ then _ else _) = _
  rw [if_pos h]
noncomputable def maxN (ns : List Int) : Int := ns.getD (argBest (fun i j => decide (ns.getD i 0 > ns.getD j 0)) (ns.length - 1)) 0
private theorem maxN_mem {ns : List Int} (h : ns ≠ []) : maxN ns ∈ ns := by
  have hl : 0 < ns.length := List.length_pos_iff.mpr h
  have a := (argBest_gt (fun i => ns.getD i 0) (ns.length - 1)).1
  unfold maxN
  rw [List.getD_eq_getElem?_getD, List.getElem?_eq_getElem (by omega)]
  exact List.getElem_mem _
noncomputable def maxL : List D → Option Sl
  | [.l ds] => (intsOf ds).bind fun ns => if ns.length = 0 then none else some (.sh (.i (maxN ns)))
  | _ => none
private theorem cx_maxL (hc : X.calm = true) : CallR X (.builtin "max") (rCX X.K maxL) := by
  intro pins s σ H xs us Q I r q
  obtain ⟨F, ds, rr, hs, hd, e, k⟩ := q
  unfold maxL at e
  split at e
  · rename_i es
    obtain ⟨ns, e1, e2⟩ := Option.bind_eq_some_iff.mp e
    by_cases h0 : ns.length = 0
    · rw [if_pos h0] at e2; cases e2
    rw [if_neg h0] at e2
    cases e2
    obtain ⟨v, rfl, p, vs, rfl, z1, z2⟩ := den1 hd
    rw [intsOf_eq e1] at z2
    have zv := denL_ints z2
    subst zv
    obtain ⟨u, rfl, ru⟩ := Vals.one r
    cases ru
    obtain ⟨its, rv, pl, hz⟩ := I.list (hs.seq z1)
    have hi : IntsAre its ns := intsAre_of rv
    obtain ⟨ms, hx⟩ := hi.allInts.items
    have hl' : s.heap.IsList p (intItems ms) := hx ▸ pl.isList
    have q1 : ns = ms.toList.map (·.1) := by
      rw [← nums_intItems, ← hx]
      exact (show numsOf its.toArray.toList = ns from hi.numsOf).symm
    have sz : ms.size = ns.length := by rw [q1, List.length_map]; simp
    have qn : ∀ i, numAt ms i = ns.getD i 0 := fun i => by
      unfold numAt
      rw [q1, List.getD_eq_getElem?_getD, List.getElem?_map]
      simp
    refine max_intList (I.ok.hd hc) hl' (by omega) fun v h' tk hv hk => ?_
    have ef : (fun i j => decide (numAt ms i > numAt ms j)) = fun i j => decide (ns.getD i 0 > ns.getD j 0) := by funext i j; rw [qn, qn]
    rw [ef, sz] at hv
    have ev : ∃ t, v = .int (maxN ns) t := by
      have a := (argBest_gt (fun i => ns.getD i 0) (ns.length - 1)).1
      unfold maxN
      generalize argBest (fun i j => decide (ns.getD i 0 > ns.getD j 0)) (ns.length - 1) = z at *
      rw [← qn]
      unfold intItems at hv
      rw [Array.getElem?_map] at hv
      obtain ⟨w, hw, rfl⟩ := Option.map_eq_some_iff.mp hv
      refine ⟨w.2, ?_⟩
      unfold numAt
      rw [hw]
      rfl
    obtain ⟨t, rfl⟩ := ev
    exact ⟨.int (maxN ns), H, I.kept hk, ⟨_, rfl⟩, k _ F H (.refl hs) (.sh rfl)⟩
  · cases e
end
end L3
namespace L3
open PySem L2

private theorem log2_of {a : Int} {n k : Nat} (h : a.natAbs < 2 ^ n) (hn : n ≤ k) (hk : 0 < k) : a.natAbs.log2 < k := by
  by_cases z : a.natAbs = 0
  · rw [z]; simpa using hk
  · exact Nat.lt_of_lt_of_le ((Nat.log2_lt z).mpr h) hn
private theorem pow200 : (1606938044258990275541962092341162602522202993782792835301376 : Nat) = 2 ^ 200 := by decide +kernel
private theorem nat200 {a : Int} (h : -1606938044258990275541962092341162602522202993782792835301376 < a ∧ a < 1606938044258990275541962092341162602522202993782792835301376) : a.natAbs < 2 ^ 200 := by
  rw [← pow200]; omega
private theorem mulD_i {a b : Int} (h : (-18446744073709551616 < a ∧ a < 18446744073709551616) ∨ (-18446744073709551616 < b ∧ b < 18446744073709551616) ∨
    ((-1606938044258990275541962092341162602522202993782792835301376 < a ∧ a < 1606938044258990275541962092341162602522202993782792835301376) ∧ (-1606938044258990275541962092341162602522202993782792835301376 < b ∧ b < 1606938044258990275541962092341162602522202993782792835301376))) :
    mulD (.i a) (.i b) = some (.sh (.i (a * b))) := by
  show (if _ then _ else _) = _
  rw [if_pos]
  rw [Bool.or_eq_true]
  rcases h with h | h | ⟨h, h'⟩
  · exact .inl (decide_eq_true (.inl h))
  · exact .inl (decide_eq_true (.inr h))
  · exact .inr (decide_eq_true ⟨log2_of (nat200 h) (by decide) (by decide), log2_of (nat200 h') (by decide) (by decide)⟩)
private theorem mulD_r {a b : Int} (h : -18446744073709551616 < b ∧ b < 18446744073709551616) : mulD (.i a) (.i b) = some (.sh (.i (a * b))) := mulD_i (.inr (.inl h))
private theorem mulD_l {a b : Int} (h : -18446744073709551616 < a ∧ a < 18446744073709551616) : mulD (.i a) (.i b) = some (.sh (.i (a * b))) := mulD_i (.inl h)
private theorem fdivD_i {a b : Int} (h : 0 < b ∧ b < 1606938044258990275541962092341162602522202993782792835301376) : fdivD (.i a) (.i b) = some (.sh (.i (a / b))) := by
  show (if _ then _ else _) = _
  rw [if_pos]
  exact decide_eq_true ⟨h.1, log2_of (nat200 ⟨by omega, h.2⟩) (by decide) (by decide)⟩
private theorem fdivD_s {a b : Int} (h : 0 < b ∧ b < 18446744073709551616) : fdivD (.i a) (.i b) = some (.sh (.i (a / b))) := fdivD_i ⟨h.1, by omega⟩
private theorem modD_i {a b : Int} (h : 0 < b) : modD (.i a) (.i b) = some (.sh (.i (a % b))) := by
  show (if _ then _ else _) = _
  rw [if_pos]
  exact decide_eq_true h
private theorem addI_i {a b : Int} : addI (.i a) (.i b) = some (.sh (.i (a + b))) := rfl
private theorem subD_i {a b : Int} : subD (.i a) (.i b) = some (.sh (.i (a - b))) := rfl
private theorem ltD_i {a b : Int} : ltD (.i a) (.i b) = some (.sh (.b (decide (a < b)))) := rfl
private theorem gtD_i {a b : Int} : gtD (.i a) (.i b) = some (.sh (.b (decide (b < a)))) := rfl
private theorem eqO_i {a b : Int} : eqO (.i a) (.i b) = some (.sh (.b (a == b))) := rfl
private theorem neO_i {a b : Int} : neO (.i a) (.i b) = some (.sh (.b (!(a == b)))) := rfl
private theorem isO_n {a : D} : isO a .n = some (.sh (.b (isND a))) := rfl
private theorem isnotO_n {a : D} : isnotO a .n = some (.sh (.b (!isND a))) := rfl
private theorem okEs_all {n : Nat} : ∀ {ds : List D}, (∀ d ∈ ds, okE n d = true) → okEs n ds = true
  | [], _ => by simp [okEs]
  | d :: ds, h => by
    rw [okEs, h d (List.mem_cons_self ..), okEs_all fun e he => h e (List.mem_cons_of_mem _ he)]; rfl
private theorem okEs_ints {n : Nat} (ns : List Int) : okEs n (ns.map D.i) = true := okEs_all fun d hd => by obtain ⟨x, _, rfl⟩ := List.mem_map.mp hd; simp [okE]
private theorem okE_ints {n : Nat} (ns : List Int) : okE (n + 1) (.l (ns.map D.i)) = true := by rw [okE]; exact okEs_ints ns
private theorem okE_lints (ns : List Int) : okE 60 (.l (ns.map D.i)) = true := okE_ints (n := 59) ns
private theorem eqDs_nil (xs : List D) : eqDs xs [] = xs.isEmpty := by cases xs <;> simp [eqDs]
private theorem eqO_lnil {xs : List D} (h : okE 60 (.l xs) = true) : eqO (.l xs) (.l []) = some (.sh (.b xs.isEmpty)) := by
  unfold eqO
  have e : eqD (.l xs) (.l []) = xs.isEmpty := by simp only [eqD]; exact eqDs_nil xs
  have e2 : okE 60 (.l []) = true := by simp [okE, okEs]
  rw [h, e, e2]; rfl
private theorem eqO_ints_nil {ns : List Int} : eqO (.l (ns.map D.i)) (.l []) = some (.sh (.b ns.isEmpty)) := by
  rw [eqO_lnil (okE_lints ns)]
  cases ns <;> rfl
private theorem ixA_ints {ns : List Int} {k : Int} (h0 : 0 ≤ k) (h1 : k < ns.length) : ixA (.l (ns.map D.i)) (.i k) = some (.sh (.i (ns.getD k.toNat 0))) := by
  have hk : k.toNat < ns.length := by omega
  have e : atI (ns.map D.i) k = some (.i (ns.getD k.toNat 0)) := by
    have := atI_nat (xs := ns.map D.i) (j := k.toNat) (v := .i (ns.getD k.toNat 0)) (by rw [List.getElem?_map, List.getElem?_eq_getElem hk, List.getD_eq_getElem?_getD, List.getElem?_eq_getElem hk]; rfl)
    rw [show ((k.toNat : Nat) : Int) = k by omega] at this
    exact this
  show (atI _ k).map Sl.sh = _
  rw [e]; rfl
private theorem ixA_l2i {a b k : Int} (h : k = 0 ∨ k = 1) : ixA (.l [.i a, .i b]) (.i k) = some (.sh (.i (if k = 0 then a else b))) := by
  rcases h with rfl | rfl <;> rfl
private theorem neO_t2 {a b c d : Int} : neO (.t [.i a, .i b]) (.t [.i c, .i d]) = some (.sh (.b (!(a == c && b == d)))) := by
  unfold neO
  have e1 : ∀ x y : Int, okE 60 (.t [.i x, .i y]) = true := fun x y => by simp [okE, okEs]
  have e2 : eqD (.t [.i a, .i b]) (.t [.i c, .i d]) = (a == c && b == d) := by simp [eqD, eqDs]
  rw [e1, e1, e2]; rfl
private theorem eqO_t2 {a b c d : Int} : eqO (.t [.i a, .i b]) (.t [.i c, .i d]) = some (.sh (.b (a == c && b == d))) := by
  unfold eqO
  have e1 : ∀ x y : Int, okE 60 (.t [.i x, .i y]) = true := fun x y => by simp [okE, okEs]
  have e2 : eqD (.t [.i a, .i b]) (.t [.i c, .i d]) = (a == c && b == d) := by simp [eqD, eqDs]
  rw [e1, e1, e2]; rfl
private theorem valD_rep : ∀ {ks : List Key} {ds : List D} {k j : Key} {d : D}, ks.length = ds.length → valD ks (repD ks ds k d) j = if j = k then (valD ks ds k).map (fun _ => d) else valD ks ds j
  | [], _, _, _, _, _ => by simp [valD]
  | _ :: _, [], _, _, _, h => by simp at h
  | k' :: ks, d' :: ds, k, j, d, h => by
    simp only [List.length_cons, Nat.add_right_cancel_iff] at h
    have ih := valD_rep (ks := ks) (ds := ds) (k := k) (j := j) (d := d) h
    by_cases e : k' = j
    · subst e
      by_cases z : k' = k
      · subst z; simp [repD, valD]
      · simp [repD, valD, z]
    · simp only [repD, valD, if_neg e, ih]
      by_cases z : j = k
      · subst z
        simp [e]
      · simp [z]
private theorem repD_length : ∀ {ks : List Key} {ds : List D} {k : Key} {d : D}, ks.length = ds.length → (repD ks ds k d).length = ds.length
  | [], [], _, _, _ => rfl
  | [], _ :: _, _, _, h => by simp at h
  | _ :: _, [], _, _, h => by simp at h
  | _ :: ks, _ :: ds, k, d, h => by
    simp only [List.length_cons, Nat.add_right_cancel_iff] at h
    simp [repD, repD_length h]
private theorem valD_app : ∀ {ks : List Key} {ds : List D} {k j : Key} {d : D}, ks.length = ds.length → valD (ks ++ [k]) (ds ++ [d]) j = if (valD ks ds j).isSome then valD ks ds j else if k = j then some d else none
  | [], [], k, j, d, _ => by simp [valD]
  | [], _ :: _, _, _, _, h => by simp at h
  | _ :: _, [], _, _, _, h => by simp at h
  | k' :: ks, d' :: ds, k, j, d, h => by
    simp only [List.length_cons, Nat.add_right_cancel_iff] at h
    by_cases e : k' = j
    · simp [valD, e]
    · simp only [List.cons_append, valD, if_neg e]
      exact valD_app h
private theorem putD_spec {ks : List Key} {ds : List D} {k : Key} {d : D} (h : ks.length = ds.length) : ∃ ks' ds', putD ks ds k d = .ad ks' ds' ∧ ks'.length = ds'.length ∧ ds'.length ≤ ds.length + 1 ∧ ∀ j, valD ks' ds' j = if j = k then some d else valD ks ds j := by
  unfold putD
  by_cases c : (valD ks ds k).isSome = true
  · rw [if_pos c]
    refine ⟨ks, repD ks ds k d, rfl, by rw [repD_length h]; exact h, by rw [repD_length h]; omega, fun j => ?_⟩
    rw [valD_rep h]
    obtain ⟨x, hx⟩ := Option.isSome_iff_exists.mp c
    rw [hx]; rfl
  · rw [if_neg c]
    refine ⟨ks ++ [k], ds ++ [d], rfl, by simp [h], by simp, fun j => ?_⟩
    rw [valD_app h]
    by_cases z : j = k
    · subst z; rw [if_neg c, if_pos rfl, if_pos rfl]
    · have z' : ¬ k = j := fun q => z q.symm
      cases e : valD ks ds j with
      | none => simp [z, z']
      | some x => simp [z]
private theorem eqDs_refl_iff : ∀ {xs ys : List Int}, eqDs (xs.map D.i) (ys.map D.i) = decide (xs = ys)
  | [], [] => by simp [eqDs]
  | [], _ :: _ => by simp [eqDs]
  | _ :: _, [] => by simp [eqDs]
  | x :: xs, y :: ys => by
    simp only [List.map_cons, eqDs, eqD, eqDs_refl_iff (xs := xs) (ys := ys)]
    by_cases h : x = y <;> by_cases h' : xs = ys <;> simp [h, h']
private theorem ixA_t4_0 {a b c d : D} : ixA (.t [a, b, c, d]) (.i 0) = some (.sh a) := rfl
private theorem ixA_t4_1 {a b c d : D} : ixA (.t [a, b, c, d]) (.i 1) = some (.sh b) := rfl
private theorem ixA_t4_2 {a b c d : D} : ixA (.t [a, b, c, d]) (.i 2) = some (.sh c) := rfl
private theorem ixA_t4_3 {a b c d : D} : ixA (.t [a, b, c, d]) (.i 3) = some (.sh d) := rfl
private theorem ixA_t2_0 {a b : D} : ixA (.t [a, b]) (.i 0) = some (.sh a) := rfl
private theorem ixA_t2_1 {a b : D} : ixA (.t [a, b]) (.i 1) = some (.sh b) := rfl
private theorem toD_sh {d : D} : (Sl.sh d).toD = d := rfl
private theorem toD_ac {ds : List D} : (Sl.ac ds).toD = .l ds := rfl
private theorem toD_ad {ks : List Key} {ds : List D} : (Sl.ad ks ds).toD = .d ks ds := rfl
private theorem er_sh {d : D} : (Sl.sh d).er = .sh d := rfl
private theorem er_un : Sl.un.er = .un := rfl
private theorem er_ac {ds : List D} : (Sl.ac ds).er = .un := rfl
private theorem er_ad {ks : List Key} {ds : List D} : (Sl.ad ks ds).er = .un := rfl
private theorem vw_sh {d : D} : (Sl.sh d).vw = .sh d := rfl
private theorem vw_un : Sl.un.vw = .un := rfl
private theorem vw_ac {ds : List D} : (Sl.ac ds).vw = .sh (.l ds) := rfl
private theorem vw_ad {ks : List Key} {ds : List D} : (Sl.ad ks ds).vw = .sh (.d ks ds) := rfl
private theorem absB_i {x : Int} : absB [.i x] = some (.sh (.i (if x < 0 then -x else x))) := rfl
private theorem maxB_i {x y : Int} : maxB [.i x, .i y] = some (.sh (.i (if y > x then y else x))) := rfl
private theorem minB_i {x y : Int} : minB [.i x, .i y] = some (.sh (.i (if y < x then y else x))) := rfl
private theorem lenB_l {xs : List D} : lenB [.l xs] = some (.sh (.i xs.length)) := rfl
private theorem lenB_t {xs : List D} : lenB [.t xs] = some (.sh (.i xs.length)) := rfl
private theorem tyD_i {x : Int} : tyD (.i x) = "int" := rfl
private theorem tyD_b {x : Bool} : tyD (.b x) = "bool" := rfl
private theorem tyD_t {x : List D} : tyD (.t x) = "tuple" := rfl
private theorem tyD_l {x : List D} : tyD (.l x) = "list" := rfl
private theorem sub_ii : subT "int" "int" = true := rfl
private theorem sub_ib : subT "int" "bool" = false := rfl
private theorem sub_bi : subT "bool" "int" = true := rfl
private theorem sub_bb : subT "bool" "bool" = true := rfl
private theorem sub_tt : subT "tuple" "tuple" = true := rfl
private theorem sub_ll : subT "list" "list" = true := rfl
private theorem isND_d {ks : List Key} {ds : List D} : isND (.d ks ds) = false := rfl
private theorem isND_i {x : Int} : isND (.i x) = false := rfl
private theorem isND_l {x : List D} : isND (.l x) = false := rfl
private theorem isND_t {x : List D} : isND (.t x) = false := rfl
private theorem isND_n : isND .n = true := rfl

private theorem forG_nx {h : D → List Sl → Option (List Sl)} {g : List Sl → Option Out} {items : List D} {ρ : List Sl} (P : Nat → List Sl → Prop) (h0 : P 0 ρ)
    (hs : ∀ (i : Nat) (d : D) (ρ : List Sl), items[i]? = some d → P i ρ → ∃ ρ1 ρ2, h d ρ = some ρ1 ∧ (g ρ1 = some (.nx ρ2) ∨ g ρ1 = some (.ct ρ2)) ∧ P (i + 1) ρ2) : ∃ ρ', forG h g items ρ = some (.nx ρ') ∧ P items.length ρ' := by
  have aux : ∀ (n i : Nat) (ρ : List Sl), i + n = items.length → P i ρ → ∃ ρ', forG h g (items.drop i) ρ = some (.nx ρ') ∧ P items.length ρ' := by
    intro n
    induction n with
    | zero =>
      intro i ρ e p
      have z : i = items.length := by omega
      subst z
      rw [List.drop_length]
      exact ⟨ρ, rfl, p⟩
    | succ n ih =>
      intro i ρ e p
      have hlt : i < items.length := by omega
      obtain ⟨ρ1, ρ2, e1, e2, p2⟩ := hs i _ ρ (List.getElem?_eq_getElem hlt) p
      obtain ⟨ρ', e3, p3⟩ := ih (i + 1) ρ2 (by omega) p2
      refine ⟨ρ', ?_, p3⟩
      rw [List.drop_eq_getElem_cons hlt]
      unfold forG
      rw [e1]
      rcases e2 with e2 | e2
      · show (match g ρ1 with | some (.nx ρ2) => forG h g (items.drop (i + 1)) ρ2 | some (.ct ρ2) => forG h g (items.drop (i + 1)) ρ2 | some (.bk ρ2) => some (.nx ρ2) | some (.rt r) => some (.rt r) | some (.ex x ρ2) => some (.ex x ρ2) | none => none) = _
        rw [e2]; exact e3
      · show (match g ρ1 with | some (.nx ρ2) => forG h g (items.drop (i + 1)) ρ2 | some (.ct ρ2) => forG h g (items.drop (i + 1)) ρ2 | some (.bk ρ2) => some (.nx ρ2) | some (.rt r) => some (.rt r) | some (.ex x ρ2) => some (.ex x ρ2) | none => none) = _
        rw [e2]; exact e3
  have := aux items.length 0 ρ (by omega) h0
  rw [List.drop_zero] at this
  exact this
structure Lay where
  u : Int
  w : Int
  l : Int
  b : Int
noncomputable def Lay.d (L : Lay) : D := .t [.i L.u, .i L.w, .i L.l, .i L.b]
noncomputable def prD (p : Int × Int) : D := .t [.i p.1, .i p.2]
private theorem sameD_refl : ∀ (n : Nat) (d : D), okE n d = true → eqD d d = true := by
  intro n d h
  have both : ∀ n, (∀ d, okE n d = true → eqD d d = true) ∧ (∀ ds, okEs n ds = true → eqDs ds ds = true) := by
    intro n
    induction n with
    | zero =>
      have one : ∀ d, okE 0 d = true → eqD d d = true := fun d h => by cases d <;> simp [okE, eqD] at h ⊢
      refine ⟨one, fun ds => ?_⟩
      induction ds with
      | nil => intro _; simp [eqDs]
      | cons d ds ih =>
        intro h
        simp only [okEs, Bool.and_eq_true] at h
        simp only [eqDs, one d h.1, ih h.2, Bool.and_self]
    | succ n ihn =>
      have one : ∀ d, okE (n + 1) d = true → eqD d d = true := fun d h => by
        cases d with
        | t xs => simp only [okE] at h; simp only [eqD]; exact ihn.2 xs h
        | l xs => simp only [okE] at h; simp only [eqD]; exact ihn.2 xs h
        | d ks xs => simp [okE] at h
        | x c ks xs => simp [okE] at h
        | o c ks xs => simp [okE] at h
        | n => simp [eqD]
        | b x => simp [eqD]
        | i x => simp [eqD]
        | s x => simp [eqD]
      refine ⟨one, fun ds => ?_⟩
      induction ds with
      | nil => intro _; simp [eqDs]
      | cons d ds ih =>
        intro h
        simp only [okEs, Bool.and_eq_true] at h
        simp only [eqDs, one d h.1, ih h.2, Bool.and_self]
  exact (both n).1 d h
private theorem eqO_same {d : D} (h : okE 60 d = true) : eqO d d = some (.sh (.b true)) := by
  unfold eqO
  rw [h, sameD_refl 60 d h]; rfl
private theorem neO_same {d : D} (h : okE 60 d = true) : neO d d = some (.sh (.b false)) := by
  unfold neO
  rw [h, sameD_refl 60 d h]; rfl
private theorem okE_lay' {n : Nat} (L : Lay) : okE (n + 1) L.d = true := by simp [Lay.d, okE, okEs]
private theorem okE_pr {n : Nat} (p : Int × Int) : okE (n + 1) (prD p) = true := by simp [prD, okE, okEs]
private theorem okE_map {α : Type} {enc : α → D} {n : Nat} (h : ∀ x, okE n (enc x) = true) (xs : List α) : okE (n + 1) (.l (xs.map enc)) = true := by
  rw [okE]
  exact okEs_all fun d hd => by obtain ⟨x, _, rfl⟩ := List.mem_map.mp hd; exact h x
private theorem okE_frame (fr : List Lay) : okE 60 (.l (fr.map Lay.d)) = true := okE_map (n := 59) (okE_lay' (n := 58)) fr
private theorem okE_stand (st : List (Int × Int)) : okE 60 (.l (st.map prD)) = true := okE_map (n := 59) (okE_pr (n := 58)) st
private theorem eqO_frame {fr : List Lay} : eqO (.l (fr.map Lay.d)) (.l (fr.map Lay.d)) = some (.sh (.b true)) := eqO_same (okE_frame fr)
private theorem neO_frame {fr : List Lay} : neO (.l (fr.map Lay.d)) (.l (fr.map Lay.d)) = some (.sh (.b false)) := neO_same (okE_frame fr)
private theorem eqO_stand {st : List (Int × Int)} : eqO (.l (st.map prD)) (.l (st.map prD)) = some (.sh (.b true)) := eqO_same (okE_stand st)
private theorem neO_stand {st : List (Int × Int)} : neO (.l (st.map prD)) (.l (st.map prD)) = some (.sh (.b false)) := neO_same (okE_stand st)
private theorem eqO_ints {xs ys : List Int} : eqO (.l (xs.map D.i)) (.l (ys.map D.i)) = some (.sh (.b (decide (xs = ys)))) := by
  unfold eqO
  rw [okE_lints, okE_lints]
  simp only [eqD, eqDs_refl_iff]; rfl
private theorem neO_ints {xs ys : List Int} : neO (.l (xs.map D.i)) (.l (ys.map D.i)) = some (.sh (.b (!decide (xs = ys)))) := by
  unfold neO
  rw [okE_lints, okE_lints]
  simp only [eqD, eqDs_refl_iff]; rfl
private theorem ixA_map {α : Type} {enc : α → D} {xs : List α} {k : Int} {x : α} (h0 : 0 ≤ k) (h : xs[k.toNat]? = some x) : ixA (.l (xs.map enc)) (.i k) = some (.sh (enc x)) := by
  have e : atI (xs.map enc) k = some (enc x) := by
    have := atI_nat (xs := xs.map enc) (j := k.toNat) (v := enc x) (by rw [List.getElem?_map, h]; rfl)
    rw [show ((k.toNat : Nat) : Int) = k by omega] at this
    exact this
  show (atI _ k).map Sl.sh = _
  rw [e]; rfl
private theorem dropLast_map' {α : Type} {enc : α → D} {xs : List α} : (xs.map enc).dropLast = xs.dropLast.map enc := by rw [List.dropLast_eq_take, List.dropLast_eq_take, List.length_map, List.map_take]
private theorem take_map' {α : Type} {enc : α → D} {xs : List α} {k : Nat} : (xs.map enc).take k = (xs.take k).map enc := by rw [List.map_take]
private theorem log62 {j : Int} (h : -4611686018427387904 < j ∧ j < 4611686018427387904) : j.natAbs.log2 < 62 := log2_of (n := 62) (by omega) (by decide) (by decide)
private theorem ite_rng {α : Type} {j : Int} {a b : α} (h : -4611686018427387904 < j ∧ j < 4611686018427387904) : (if j.natAbs.log2 < 62 then a else b) = a := if_pos (log62 h)
private theorem ite_rng2 {α : Type} {i j : Int} {a b : α} (h : (-4611686018427387904 < i ∧ i < 4611686018427387904) ∧ -4611686018427387904 < j ∧ j < 4611686018427387904) : (if i.natAbs.log2 < 62 ∧ j.natAbs.log2 < 62 then a else b) = a := if_pos ⟨log62 h.1, log62 h.2⟩
private theorem ite_rep {α : Type} {k : Int} {a b : α} (h : 0 ≤ k ∧ k ≤ 10000) : (if 0 ≤ k ∧ k ≤ 10000 then a else b) = a := if_pos h
private theorem ite_lt {α : Type} {m n : Nat} {a b : α} (h : m < n) : (if m < n then a else b) = a := if_pos h
private theorem ite_le {α : Type} {m n : Nat} {a b : α} (h : m ≤ n) : (if m ≤ n then a else b) = a := if_pos h
private theorem rep_one {n : Nat} {d : D} : (List.replicate n [d]).flatten = List.replicate n d := by
  induction n with
  | zero => rfl
  | succ n ih => rw [List.replicate_succ, List.flatten_cons, ih, List.replicate_succ]; rfl
private theorem zipDs_map {α β : Type} {e1 : α → D} {e2 : β → D} : ∀ {xs : List α} {ys : List β}, zipDs (xs.map e1) (ys.map e2) = (xs.zip ys).map fun p => D.t [e1 p.1, e2 p.2]
  | [], _ => by simp [zipDs]
  | _ :: _, [] => by simp [zipDs]
  | x :: xs, y :: ys => by simp only [List.map_cons, zipDs, List.zip_cons_cons]; rw [zipDs_map]

private theorem forG_nil {h : D → List Sl → Option (List Sl)} {g : List Sl → Option Out} {ρ : List Sl} : forG h g [] ρ = some (.nx ρ) := rfl
private theorem forG_step {h : D → List Sl → Option (List Sl)} {g : List Sl → Option Out} {d : D} {ds : List D} {ρ ρ1 ρ2 : List Sl} (e1 : h d ρ = some ρ1) (e2 : g ρ1 = some (.nx ρ2)) : forG h g (d :: ds) ρ = forG h g ds ρ2 := by
  rw [forG, e1]
  show (match g ρ1 with | some (.nx ρ2) => forG h g ds ρ2 | some (.ct ρ2) => forG h g ds ρ2 | some (.bk ρ2) => some (.nx ρ2) | some (.rt r) => some (.rt r) | some (.ex x ρ2) => some (.ex x ρ2) | none => none) = _
  rw [e2]
private theorem forG_inv {α : Type} {enc : α → D} {h : D → List Sl → Option (List Sl)} {g : List Sl → Option Out} {xs : List α} {ρ : List Sl} (P : Nat → List Sl → Prop) (h0 : P 0 ρ)
    (hs : ∀ (i : Nat) (x : α) (ρ : List Sl), xs[i]? = some x → P i ρ → ∃ ρ1 ρ2, h (enc x) ρ = some ρ1 ∧ g ρ1 = some (.nx ρ2) ∧ P (i + 1) ρ2) : ∃ ρ', forG h g (xs.map enc) ρ = some (.nx ρ') ∧ P xs.length ρ' := by
  have := forG_nx (h := h) (g := g) (items := xs.map enc) (ρ := ρ) P h0 fun i d ρ hi hp => by
    rw [List.getElem?_map] at hi
    obtain ⟨x, hx, rfl⟩ := Option.map_eq_some_iff.mp hi
    obtain ⟨ρ1, ρ2, e1, e2, p⟩ := hs i x ρ hx hp
    exact ⟨ρ1, ρ2, e1, .inl e2, p⟩
  rwa [List.length_map] at this
private theorem forG_range {h : D → List Sl → Option (List Sl)} {g : List Sl → Option Out} {n : Nat} {ρ : List Sl} (P : Nat → List Sl → Prop) (h0 : P 0 ρ)
    (hs : ∀ (i : Nat) (ρ : List Sl), i < n → P i ρ → ∃ ρ1 ρ2, h (.i (i : Nat)) ρ = some ρ1 ∧ g ρ1 = some (.nx ρ2) ∧ P (i + 1) ρ2) : ∃ ρ', forG h g ((List.range n).map fun k => D.i (0 + (k : Nat))) ρ = some (.nx ρ') ∧ P n ρ' := by
  have := forG_inv (enc := fun k : Nat => D.i (0 + (k : Nat))) (h := h) (g := g) (xs := List.range n) (ρ := ρ) P h0 fun i x ρ hx hp => by
    obtain ⟨h1, h2⟩ := List.getElem?_eq_some_iff.mp hx
    simp at h1 h2
    subst h2
    rw [Int.zero_add]
    exact hs i ρ h1 hp
  rwa [List.length_range] at this
private theorem compG_map {α : Type} {enc F : α → D} {h : D → List Sl → Option (List Sl)} {f : List Sl → Option Sl} (P : List Sl → Prop) : ∀ {xs : List α} {ρ : List Sl}, P ρ →
    (∀ x ∈ xs, ∀ ρ, P ρ → ∃ ρ1 r, h (enc x) ρ = some ρ1 ∧ P ρ1 ∧ f ρ1 = some r ∧ r.toD = F x) → compG h yesT f (xs.map enc) ρ = some (xs.map F)
  | [], _, _, _ => rfl
  | x :: xs, ρ, hp, hs => by
    obtain ⟨ρ1, r, e1, p1, e2, e3⟩ := hs x List.mem_cons_self ρ hp
    have ih := compG_map (f := f) (F := F) (enc := enc) P p1 fun y hy => hs y (List.mem_cons_of_mem _ hy)
    rw [List.map_cons, List.map_cons]
    unfold compG
    rw [e1]
    simp only [yesT, e2, ih, Option.map_some, e3]
private theorem compG_range {F : Nat → D} {h : D → List Sl → Option (List Sl)} {f : List Sl → Option Sl} {n : Nat} {ρ : List Sl} (P : List Sl → Prop) (h0 : P ρ) (hs : ∀ i, i < n → ∀ ρ, P ρ → ∃ ρ1 r, h (.i (i : Nat)) ρ = some ρ1 ∧ P ρ1 ∧ f ρ1 = some r ∧ r.toD = F i) :
    compG h yesT f ((List.range n).map fun k => D.i (0 + (k : Nat))) ρ = some ((List.range n).map F) :=
  compG_map (enc := fun k : Nat => D.i (0 + (k : Nat))) P h0 fun x hx ρ hp => by
    rw [Int.zero_add]
    exact hs x (List.mem_range.mp hx) ρ hp
private theorem compG_ex {α β : Type} {enc : α → D} {out : β → D} {R : α → β → Prop} {h : D → List Sl → Option (List Sl)} {f : List Sl → Option Sl} (P : List Sl → Prop) : ∀ {xs : List α} {ρ : List Sl}, P ρ →
    (∀ x ∈ xs, ∀ ρ, P ρ → ∃ ρ1 y r, h (enc x) ρ = some ρ1 ∧ P ρ1 ∧ f ρ1 = some r ∧ r.toD = out y ∧ R x y) → ∃ ys : List β, compG h yesT f (xs.map enc) ρ = some (ys.map out) ∧ ys.length = xs.length ∧ ∀ (i : Nat) (x : α) (y : β), xs[i]? = some x → ys[i]? = some y → R x y
  | [], _, _, _ => ⟨[], rfl, rfl, fun i x y h => by simp at h⟩
  | x :: xs, ρ, hp, hs => by
    obtain ⟨ρ1, y, r, e1, p1, e2, e3, q⟩ := hs x List.mem_cons_self ρ hp
    obtain ⟨ys, ih, hl, hr⟩ := compG_ex (f := f) (out := out) (R := R) (enc := enc) P p1 fun y hy => hs y (List.mem_cons_of_mem _ hy)
    refine ⟨y :: ys, ?_, by simp [hl], fun i a b ha hb => ?_⟩
    · rw [List.map_cons, List.map_cons]
      unfold compG
      rw [e1]
      simp only [yesT, e2, ih, Option.map_some, e3]
    · cases i with
      | zero => simp at ha hb; subst ha; subst hb; exact q
      | succ i => exact hr i a b (by simpa using ha) (by simpa using hb)
private theorem compG_exR {β : Type} {out : β → D} {R : Nat → β → Prop} {h : D → List Sl → Option (List Sl)} {f : List Sl → Option Sl} {n : Nat} {ρ : List Sl} (P : List Sl → Prop) (h0 : P ρ)
    (hs : ∀ i, i < n → ∀ ρ, P ρ → ∃ ρ1 y r, h (.i (i : Nat)) ρ = some ρ1 ∧ P ρ1 ∧ f ρ1 = some r ∧ r.toD = out y ∧ R i y) :
    ∃ ys : List β, compG h yesT f ((List.range n).map fun k => D.i (0 + (k : Nat))) ρ = some (ys.map out) ∧ ys.length = n ∧ ∀ (i : Nat) (y : β), ys[i]? = some y → R i y := by
  obtain ⟨ys, e, hl, hr⟩ := compG_ex (enc := fun k : Nat => D.i (0 + (k : Nat))) (out := out) (R := R) (h := h) (f := f) P (xs := List.range n) h0 fun x hx ρ hp => by
    rw [Int.zero_add]
    exact hs x (List.mem_range.mp hx) ρ hp
  rw [List.length_range] at hl
  refine ⟨ys, e, hl, fun i y hy => hr i i y ?_ hy⟩
  have : i < ys.length := (List.getElem?_eq_some_iff.mp hy).1
  rw [List.getElem?_range (by omega)]
private theorem enum_map {α : Type} {e : α → D} {xs : List α} : ((xs.map e).mapIdx fun i d => D.t [.i (i : Nat), d]) = xs.zipIdx.map fun p => D.t [.i (p.2 : Nat), e p.1] := by
  apply List.ext_getElem?
  intro i
  rw [List.getElem?_mapIdx, List.getElem?_map, List.getElem?_map, List.getElem?_zipIdx]
  cases xs[i]? <;> simp
private theorem ixN_pos {n : Nat} {i : Int} (h : 0 ≤ i ∧ i < n) : ixN n i = some i.toNat := by
  unfold ixN
  rw [if_pos h.1, if_pos h.2]
private theorem prD_mk {a b : Int} : prD (a, b) = .t [.i a, .i b] := rfl
private theorem layD_mk {u w l b : Int} : Lay.d ⟨u, w, l, b⟩ = .t [.i u, .i w, .i l, .i b] := rfl
private theorem ixA_d0 {L : Lay} : ixA L.d (.i 0) = some (.sh (.i L.u)) := rfl
private theorem ixA_d1 {L : Lay} : ixA L.d (.i 1) = some (.sh (.i L.w)) := rfl
private theorem ixA_d2 {L : Lay} : ixA L.d (.i 2) = some (.sh (.i L.l)) := rfl
private theorem ixA_d3 {L : Lay} : ixA L.d (.i 3) = some (.sh (.i L.b)) := rfl
private theorem ixA_p0 {p : Int × Int} : ixA (prD p) (.i 0) = some (.sh (.i p.1)) := rfl
private theorem ixA_p1 {p : Int × Int} : ixA (prD p) (.i 1) = some (.sh (.i p.2)) := rfl
private theorem tupG_t {n : Nat} {hs : List D → List Sl → Option (List Sl)} {ds : List D} {ρ : List Sl} : tupG n hs (.t ds) ρ = if ds.length = n then hs ds ρ else none := rfl
private theorem tupG_d {hs : List D → List Sl → Option (List Sl)} {L : Lay} {ρ : List Sl} : tupG 4 hs L.d ρ = hs [.i L.u, .i L.w, .i L.l, .i L.b] ρ := rfl
private theorem tupG_p {hs : List D → List Sl → Option (List Sl)} {p : Int × Int} {ρ : List Sl} : tupG 2 hs (prD p) ρ = hs [.i p.1, .i p.2] ρ := rfl
private theorem tyD_lay {L : Lay} : tyD L.d = "tuple" := rfl
private theorem tyD_pr {p : Int × Int} : tyD (prD p) = "tuple" := rfl
private theorem isND_lay {L : Lay} : isND L.d = false := rfl
private theorem isND_pr {p : Int × Int} : isND (prD p) = false := rfl
private theorem eqO_pp {p q : Int × Int} : eqO (prD p) (prD q) = some (.sh (.b (p.1 == q.1 && p.2 == q.2))) := eqO_t2
private theorem neO_pp {p q : Int × Int} : neO (prD p) (prD q) = some (.sh (.b (!(p.1 == q.1 && p.2 == q.2)))) := neO_t2
private theorem eqO_pt {p : Int × Int} {a b : Int} : eqO (prD p) (.t [.i a, .i b]) = some (.sh (.b (p.1 == a && p.2 == b))) := eqO_t2
private theorem neO_pt {p : Int × Int} {a b : Int} : neO (prD p) (.t [.i a, .i b]) = some (.sh (.b (!(p.1 == a && p.2 == b)))) := neO_t2
private theorem eqO_tp {p : Int × Int} {a b : Int} : eqO (.t [.i a, .i b]) (prD p) = some (.sh (.b (a == p.1 && b == p.2))) := eqO_t2
private theorem neO_tp {p : Int × Int} {a b : Int} : neO (.t [.i a, .i b]) (prD p) = some (.sh (.b (!(a == p.1 && b == p.2)))) := neO_t2
private theorem eqO_b {a b : Bool} : eqO (.b a) (.b b) = some (.sh (.b (a == b))) := rfl
private theorem neO_b {a b : Bool} : neO (.b a) (.b b) = some (.sh (.b (!(a == b)))) := rfl
private theorem isXD_n : isXD .n = false := rfl
private theorem isXD_i {x : Int} : isXD (.i x) = false := rfl
private theorem isXD_b {x : Bool} : isXD (.b x) = false := rfl
private theorem isXD_s {x : Str} : isXD (.s x) = false := rfl
private theorem isXD_t {x : List D} : isXD (.t x) = false := rfl
private theorem isXD_l {x : List D} : isXD (.l x) = false := rfl
private theorem isXD_d {ks : List Key} {ds : List D} : isXD (.d ks ds) = false := rfl
private theorem isXD_lay {L : Lay} : isXD L.d = false := rfl
private theorem isXD_pr {p : Int × Int} : isXD (prD p) = false := rfl
private theorem isND_x {c : Str} {ks : List Str} {ds : List D} : isND (.x c ks ds) = false := rfl
private theorem tbl_same {c : Str} {b : Bool} {r : List (Str × Bool)} : List.lookup c ((c, b) :: r) = some b := by rw [List.lookup_cons, beq_self_eq_true]
private theorem fldX_one {cs : List Str} {f c : Str} {d : D} (h : c ∈ cs) : fldX cs f (.x c [f] [d]) = some (.sh d) := by
  show (if c ∈ cs then _ else _) = _
  rw [if_pos h]
  simp only [fldD, if_true, Option.map_some]
private theorem listB_l {xs : List D} : listB [.l xs] = some (.ac xs) := rfl
private theorem listB_t {xs : List D} : listB [.t xs] = some (.ac xs) := rfl
private theorem neL_00 : neL (.l []) (.l []) = some (.sh (.b false)) := rfl
private theorem neL_nil {xs : List D} : neL (.l xs) (.l []) = some (.sh (.b (!xs.isEmpty))) := by cases xs <;> rfl
private theorem ixN_neg1 {n : Nat} (h : 0 < n) : ixN n (-1) = some (n - 1) := by
  unfold ixN
  rw [if_neg (by decide), if_pos (by omega)]
  congr 1; omega
private theorem intB_b {b : Bool} : intB [.b b] = some (.sh (.i (if b then 1 else 0))) := rfl
private theorem intB_i {i : Int} : intB [.i i] = some (.sh (.i i)) := rfl
private theorem isX_n {d : D} : isX d .n = some (.sh (.b (isND d))) := by cases d <;> rfl
private theorem isnotX_n {d : D} : isnotX d .n = some (.sh (.b (!isND d))) := by cases d <;> rfl
private theorem isX_b {x y : Bool} : isX (.b x) (.b y) = some (.sh (.b (x == y))) := rfl
private theorem isnotX_b {x y : Bool} : isnotX (.b x) (.b y) = some (.sh (.b (!(x == y)))) := rfl
end L3
namespace L3
end L3

namespace Gen
open PySem PySem.Spec PyProof.Rows L2 L3
noncomputable def c_BASE : D := (.i 3)
noncomputable def c_HIGH : D := (.i 0)
noncomputable def c_WORTH : D := (.i 1)
noncomputable def c_LOW : D := (.i 1)
noncomputable def c_UPPER : D := (.i 0)
noncomputable def c_LOWER : D := (.i 2)
noncomputable def g__law_mixed : List Sl → Option Out := (seqG (ifG (tstF (opF eqO (rdF 0) (lstF nilF))) (retG (opF addI (opF mulD (rdF 1) (cF (.i 7919))) (cF (.i 5)))) skipG) (retG (opF modD (opF mulD (opF addI (opF addI (opF ixA (rdF 0) (opF modD (rdF 1) (callF lenB (consF (rdF 0) nilF)))) (cF (.i 1))) (rdF 1)) (opF addI (cF (.i 48271)) (opF mulD (cF (.i 7919)) (rdF 1)))) (cF (.i 2147483647)))))
noncomputable def f__law_mixed : List D → Option Sl := fnF 2 2 g__law_mixed
noncomputable def x__law_mixed : List D → Option Ex := fnX 2 2 g__law_mixed
noncomputable def g_left_behind : List Sl → Option Out := (retG (opF fdivD (opF subD (rdF 1) (rdF 2)) (opF ixA (rdF 0) (cF c_BASE))))
noncomputable def f_left_behind : List D → Option Sl := fnF 3 3 g_left_behind
noncomputable def x_left_behind : List D → Option Ex := fnX 3 3 g_left_behind
noncomputable def g_count_of : List Sl → Option Out := (retG (opF addI (opF mulD (opF ixA (rdF 1) (cF c_HIGH)) (opF ixA (rdF 0) (cF c_WORTH))) (opF ixA (rdF 1) (cF c_LOW))))
noncomputable def f_count_of : List D → Option Sl := fnF 2 2 g_count_of
noncomputable def x_count_of : List D → Option Ex := fnX 2 2 g_count_of
noncomputable def e_rod_standings_1 : List Sl → Option Sl := (tupF (consF (rdF 1) (consF (rdF 0) nilF)))
noncomputable def b_rod_standings_2 : List Sl → Option Out := (extG 1 (lcF (rng1F (consF (opF addI (opF ixA (rdF 0) (cF c_LOWER)) (cF (.i 1))) nilF)) [none, some 2] (nameG 0) yesT e_rod_standings_1))
noncomputable def g_rod_standings : List Sl → Option Out := (seqG (setG 1 (lstF nilF)) (seqG (forS (rng1F (consF (opF addI (opF ixA (rdF 0) (cF c_UPPER)) (cF (.i 1))) nilF)) (nameG 2) b_rod_standings_2) (retV 1)))
noncomputable def f_rod_standings : List D → Option Sl := fnF 1 3 g_rod_standings
noncomputable def x_rod_standings : List D → Option Ex := fnX 1 3 g_rod_standings
noncomputable def g_full_worth : List Sl → Option Out := (retG (opF addI (opF mulD (opF ixA (rdF 0) (cF c_UPPER)) (opF ixA (rdF 0) (cF c_WORTH))) (opF ixA (rdF 0) (cF c_LOWER))))
noncomputable def f_full_worth : List D → Option Sl := fnF 1 1 g_full_worth
noncomputable def x_full_worth : List D → Option Ex := fnX 1 1 g_full_worth
noncomputable def g_fitting_counts : List Sl → Option Out := (seqG (setG 2 (opF ixA (rdF 0) (cF c_BASE))) (retG (lrF (consF (opF modD (rdF 1) (rdF 2)) (consF (opF addI (callF minB (consF (rdF 1) (consF (callF f_full_worth (consF (rdF 0) nilF)) nilF))) (cF (.i 1))) (consF (rdF 2) nilF))))))
noncomputable def f_fitting_counts : List D → Option Sl := fnF 2 3 g_fitting_counts
noncomputable def x_fitting_counts : List D → Option Ex := fnX 2 3 g_fitting_counts
noncomputable def g_ByMoves_rod_price : List Sl → Option Out := (retG (opF addI (callF intB (consF (opF neO (opF ixA (rdF 1) (cF c_HIGH)) (opF ixA (rdF 2) (cF c_HIGH))) nilF)) (callF intB (consF (opF neO (opF ixA (rdF 1) (cF c_LOW)) (opF ixA (rdF 2) (cF c_LOW))) nilF))))
noncomputable def f_ByMoves_rod_price : List D → Option Sl := fnF 3 3 g_ByMoves_rod_price
noncomputable def x_ByMoves_rod_price : List D → Option Ex := fnX 3 3 g_ByMoves_rod_price
noncomputable def g_ByGrips_rod_price : List Sl → Option Out := (retG (callF intB (consF (opF neO (rdF 1) (rdF 2)) nilF)))
noncomputable def f_ByGrips_rod_price : List D → Option Sl := fnF 3 3 g_ByGrips_rod_price
noncomputable def x_ByGrips_rod_price : List D → Option Ex := fnX 3 3 g_ByGrips_rod_price
noncomputable def g_ByBeads_rod_price : List Sl → Option Out := (retG (opF addI (callF absB (consF (opF subD (opF ixA (rdF 1) (cF c_HIGH)) (opF ixA (rdF 2) (cF c_HIGH))) nilF)) (callF absB (consF (opF subD (opF ixA (rdF 1) (cF c_LOW)) (opF ixA (rdF 2) (cF c_LOW))) nilF))))
noncomputable def f_ByBeads_rod_price : List D → Option Sl := fnF 3 3 g_ByBeads_rod_price
noncomputable def x_ByBeads_rod_price : List D → Option Ex := fnX 3 3 g_ByBeads_rod_price
noncomputable def tb_rod_price : MTb := [("ByMoves", f_ByMoves_rod_price, x_ByMoves_rod_price), ("ByGrips", f_ByGrips_rod_price, x_ByGrips_rod_price), ("ByBeads", f_ByBeads_rod_price, x_ByBeads_rod_price)]
noncomputable def b_least_offer_1 : List Sl → Option Out := (seqG (setG 8 (callF f_count_of (consF (rdF 0) (consF (rdF 7) nilF)))) (seqG (frzG 5 (frzG 8 (setG 9 (ifF (tstF (opF inX (rdF 8) (rdF 5))) (opF ixA (rdF 4) (callF f_left_behind (consF (rdF 0) (consF (rdF 3) (consF (rdF 8) nilF))))) (cF .n))))) (ifG (tstF (opF isnotX (rdF 9) (cF .n))) (appG 6 (tupF (consF (opF addI (methF "rod_price" tb_rod_price (rdF 2) (consF (rdF 1) (consF (rdF 7) nilF))) (rdF 9)) (consF (rdF 7) nilF)))) skipG)))
noncomputable def g_least_offer : List Sl → Option Out := (seqG (setG 5 (callF f_fitting_counts (consF (rdF 0) (consF (rdF 3) nilF)))) (seqG (setG 6 (lstF nilF)) (seqG (forS (itemsF (callF f_rod_standings (consF (rdF 0) nilF))) (nameG 7) b_least_offer_1) (retG (opF ixA (callF minT (consF (rdF 6) nilF)) (cF (.i 1)))))))
noncomputable def f_least_offer : List D → Option Sl := fnF 5 10 g_least_offer
noncomputable def x_least_offer : List D → Option Ex := fnX 5 10 g_least_offer
noncomputable def b_least_value_1 : List Sl → Option Out := (seqG (setG 6 (opF ixA (rdF 3) (callF f_left_behind (consF (rdF 0) (consF (rdF 1) (consF (rdF 5) nilF)))))) (ifG (andT (tstF (opF isnotX (rdF 6) (cF .n))) (orT (tstF (opF isX (rdF 4) (cF .n))) (tstF (opF ltD (opF addI (opF ixA (rdF 2) (rdF 5)) (rdF 6)) (rdF 4))))) (setG 4 (opF addI (opF ixA (rdF 2) (rdF 5)) (rdF 6))) skipG))
noncomputable def g_least_value : List Sl → Option Out := (seqG (setG 4 (cF .n)) (seqG (forS (itemsF (callF f_fitting_counts (consF (rdF 0) (consF (rdF 1) nilF)))) (nameG 5) b_least_value_1) (retV 4)))
noncomputable def f_least_value : List D → Option Sl := fnF 4 7 g_least_value
noncomputable def x_least_value : List D → Option Ex := fnX 4 7 g_least_value
noncomputable def b_values_at_1 : List Sl → Option Out := (stA 4 (rdF 5) (callF f_least_value (consF (rdF 0) (consF (rdF 5) (consF (rdF 2) (consF (rdF 3) nilF))))))
noncomputable def g_values_at : List Sl → Option Out := (seqG (setG 4 dnewF) (seqG (forS (itemsF (rdF 1)) (nameG 5) b_values_at_1) (retV 4)))
noncomputable def f_values_at : List D → Option Sl := fnF 4 6 g_values_at
noncomputable def x_values_at : List D → Option Ex := fnX 4 6 g_values_at
noncomputable def b_count_costs_1 : List Sl → Option Out := (seqG (setG 5 (callF f_count_of (consF (rdF 0) (consF (rdF 4) nilF)))) (seqG (setG 6 (methF "rod_price" tb_rod_price (rdF 2) (consF (rdF 1) (consF (rdF 4) nilF)))) (frzG 5 (frzG 6 (stA 3 (rdF 5) (callF minB (consF (rdF 6) (consF (getF (rdF 3) (rdF 5) (rdF 6)) nilF))))))))
noncomputable def g_count_costs : List Sl → Option Out := (seqG (setG 3 dnewF) (seqG (forS (itemsF (callF f_rod_standings (consF (rdF 0) nilF))) (nameG 4) b_count_costs_1) (retV 3)))
noncomputable def f_count_costs : List D → Option Sl := fnF 3 7 g_count_costs
noncomputable def x_count_costs : List D → Option Ex := fnX 3 7 g_count_costs
noncomputable def b_values_behind_1 : List Sl → Option Out := (stA 1 (rdF 2) (ifF (tstF (opF eqO (rdF 2) (cF (.i 0)))) (cF (.i 0)) (cF .n)))
noncomputable def g_values_behind : List Sl → Option Out := (seqG (setG 1 dnewF) (seqG (forS (itemsF (rdF 0)) (nameG 2) b_values_behind_1) (retV 1)))
noncomputable def f_values_behind : List D → Option Sl := fnF 1 3 g_values_behind
noncomputable def x_values_behind : List D → Option Ex := fnX 1 3 g_values_behind
noncomputable def b_keys_behind_1 : List Sl → Option Out := (stA 2 (callF f_left_behind (consF (rdF 0) (consF (rdF 3) (consF (rdF 4) nilF)))) (cF (.b true)))
noncomputable def b_keys_behind_2 : List Sl → Option Out := (forS (itemsF (callF f_fitting_counts (consF (rdF 0) (consF (rdF 3) nilF)))) (nameG 4) b_keys_behind_1)
noncomputable def g_keys_behind : List Sl → Option Out := (seqG (setG 2 dnewF) (seqG (forS (itemsF (rdF 1)) (nameG 3) b_keys_behind_2) (retG (callF sortB (consF (rdF 2) nilF)))))
noncomputable def f_keys_behind : List D → Option Sl := fnF 2 5 g_keys_behind
noncomputable def x_keys_behind : List D → Option Ex := fnX 2 5 g_keys_behind
noncomputable def b_keys_of_1 : List Sl → Option Out := (seqG (frzG 2 (setG 2 (callF f_keys_behind (consF (rdF 4) (consF (rdF 2) nilF))))) (frzG 2 (appG 3 (rdF 2))))
noncomputable def g_keys_of : List Sl → Option Out := (seqG (setG 2 (lstF (consF (rdF 1) nilF))) (seqG (frzG 2 (setG 3 (lstF (consF (rdF 2) nilF)))) (seqG (forS (itemsF (rdF 0)) (nameG 4) b_keys_of_1) (retV 3))))
noncomputable def f_keys_of : List D → Option Sl := fnF 2 5 g_keys_of
noncomputable def x_keys_of : List D → Option Ex := fnX 2 5 g_keys_of
noncomputable def b_table_of_1 : List Sl → Option Out := (seqG (setG 8 (callF f_count_costs (consF (opF ixA (rdF 0) (rdF 7)) (consF (opF ixA (rdF 1) (rdF 7)) (consF (rdF 3) nilF))))) (seqG (frzG 4 (frzG 5 (frzG 8 (setG 5 (callF f_values_at (consF (opF ixA (rdF 0) (rdF 7)) (consF (opF ixA (rdF 4) (rdF 7)) (consF (rdF 8) (consF (rdF 5) nilF))))))))) (frzG 5 (appG 6 (rdF 5)))))
noncomputable def g_table_of : List Sl → Option Out := (seqG (setG 4 (callF f_keys_of (consF (rdF 0) (consF (rdF 2) nilF)))) (seqG (frzG 4 (setG 5 (callF f_values_behind (consF (opF ixA (rdF 4) (callF lenB (consF (rdF 0) nilF))) nilF)))) (seqG (frzG 5 (setG 6 (lstF (consF (rdF 5) nilF)))) (seqG (forS (rng3F (consF (opF subD (callF lenB (consF (rdF 0) nilF)) (cF (.i 1))) (consF (negF (cF (.i 1))) (consF (negF (cF (.i 1))) nilF)))) (nameG 7) b_table_of_1) (retG (lbF (rdF 6)))))))
noncomputable def f_table_of : List D → Option Sl := fnF 4 9 g_table_of
noncomputable def x_table_of : List D → Option Ex := fnX 4 9 g_table_of
noncomputable def b_cheapest_of_1 : List Sl → Option Out := (seqG (frzG 4 (frzG 6 (setG 9 (callF f_least_offer (consF (rdF 8) (consF (opF ixA (rdF 1) (rdF 7)) (consF (rdF 3) (consF (rdF 6) (consF (opF ixA (rdF 4) (opF addI (rdF 7) (cF (.i 1)))) nilF))))))))) (seqG (frzG 9 (appG 5 (rdF 9))) (frzG 9 (frzG 6 (setG 6 (callF f_left_behind (consF (rdF 8) (consF (rdF 6) (consF (callF f_count_of (consF (rdF 8) (consF (rdF 9) nilF))) nilF)))))))))
noncomputable def g_cheapest_of : List Sl → Option Out := (seqG (setG 4 (callF f_table_of (consF (rdF 0) (consF (rdF 1) (consF (rdF 2) (consF (rdF 3) nilF)))))) (seqG (ifG (tstF (opF isX (opF ixA (opF ixA (rdF 4) (cF (.i 0))) (rdF 2)) (cF .n))) (raiseI "TooGreat" ["rod"] (consF (opF subD (callF lenB (consF (rdF 0) nilF)) (cF (.i 1))) nilF)) skipG) (seqG (setG 5 (lstF nilF)) (seqG (setG 6 (rdF 2)) (seqG (forS (enumF (consF (rdF 0) nilF)) (tupG 2 (consG (nameG 7) (consG (nameG 8) nilG))) b_cheapest_of_1) (retV 5))))))
noncomputable def f_cheapest_of : List D → Option Sl := fnF 4 10 g_cheapest_of
noncomputable def x_cheapest_of : List D → Option Ex := fnX 4 10 g_cheapest_of
noncomputable def b__law_right_1 : List Sl → Option Out := (orO (setG 6 (callF f_cheapest_of (consF (rdF 0) (consF (rdF 1) (consF (rdF 2) (consF (rdF 3) nilF)))))) (evX (callX x_cheapest_of (consF (rdF 0) (consF (rdF 1) (consF (rdF 2) (consF (rdF 3) nilF)))))))
noncomputable def g__law_right : List Sl → Option Out := (seqG (setG 5 (cF .n)) (seqG (setG 6 (cF .n)) (seqG (tryG b__law_right_1 [⟨[("TooGreat", true)], (some 7), (setG 5 (rdF 7))⟩]) (seqG (ifG (tstF (opF isX (rdF 4) (cF .n))) (retG (andF (opF isnotX (rdF 5) (cF .n)) (opF eqO (atF ["TooGreat"] "rod" (rdF 5)) (opF subD (callF lenB (consF (rdF 0) nilF)) (cF (.i 1)))))) skipG) (retG (andF (opF isX (rdF 5) (cF .n)) (andF (isiF "list" (rdF 6)) (opF eqO (rdF 6) (opF ixA (rdF 4) (cF (.i 1)))))))))))
noncomputable def f__law_right : List D → Option Sl := fnF 5 8 g__law_right
noncomputable def x__law_right : List D → Option Ex := fnX 5 8 g__law_right
noncomputable def g__law_rod_price : List Sl → Option Out := (seqG (ifG (tstF (opF eqO (rdF 0) (cF (.i 0)))) (retG (opF addI (callF intB (consF (opF neO (opF ixA (rdF 1) (cF (.i 0))) (opF ixA (rdF 2) (cF (.i 0)))) nilF)) (callF intB (consF (opF neO (opF ixA (rdF 1) (cF (.i 1))) (opF ixA (rdF 2) (cF (.i 1)))) nilF)))) skipG) (seqG (ifG (tstF (opF eqO (rdF 0) (cF (.i 1)))) (retG (callF intB (consF (orF (opF neO (opF ixA (rdF 1) (cF (.i 0))) (opF ixA (rdF 2) (cF (.i 0)))) (opF neO (opF ixA (rdF 1) (cF (.i 1))) (opF ixA (rdF 2) (cF (.i 1))))) nilF))) skipG) (seqG (setG 3 (opF subD (callF maxB (consF (opF ixA (rdF 1) (cF (.i 0))) (consF (opF ixA (rdF 2) (cF (.i 0))) nilF))) (callF minB (consF (opF ixA (rdF 1) (cF (.i 0))) (consF (opF ixA (rdF 2) (cF (.i 0))) nilF))))) (retG (opF subD (opF addI (rdF 3) (callF maxB (consF (opF ixA (rdF 1) (cF (.i 1))) (consF (opF ixA (rdF 2) (cF (.i 1))) nilF)))) (callF minB (consF (opF ixA (rdF 1) (cF (.i 1))) (consF (opF ixA (rdF 2) (cF (.i 1))) nilF))))))))
noncomputable def f__law_rod_price : List D → Option Sl := fnF 3 4 g__law_rod_price
noncomputable def x__law_rod_price : List D → Option Ex := fnX 3 4 g__law_rod_price
noncomputable def b__law_due_1 : List Sl → Option Out := (frzG 5 (setG 5 (opF addI (rdF 5) (callF f__law_rod_price (consF (rdF 2) (consF (rdF 6) (consF (rdF 7) nilF)))))))
noncomputable def b__law_due_2 : List Sl → Option Out := (seqG (setG 5 (cF (.i 0))) (seqG (forS (zipF (consF (rdF 0) (consF (rdF 4) nilF))) (tupG 2 (consG (nameG 6) (consG (nameG 7) nilG))) b__law_due_1) (ifG (orT (tstF (opF isX (rdF 3) (cF .n))) (tstF (opF ltD (rdF 5) (opF ixA (rdF 3) (cF (.i 0)))))) (frzG 5 (setG 3 (tupF (consF (rdF 5) (consF (rdF 4) nilF))))) skipG)))
noncomputable def g__law_due : List Sl → Option Out := (seqG (setG 3 (cF .n)) (seqG (forS (itemsF (rdF 1)) (nameG 4) b__law_due_2) (retV 3)))
noncomputable def f__law_due : List D → Option Sl := fnF 3 8 g__law_due
noncomputable def x__law_due : List D → Option Ex := fnX 3 8 g__law_due
noncomputable def b__law_borne_1 : List Sl → Option Out := (seqG (frzG 3 (frzG 2 (setG 2 (opF addI (rdF 2) (opF mulD (opF addI (opF mulD (opF ixA (rdF 5) (cF (.i 0))) (opF ixA (rdF 4) (cF (.i 1)))) (opF ixA (rdF 5) (cF (.i 1)))) (rdF 3)))))) (frzG 3 (setG 3 (opF mulD (rdF 3) (opF ixA (rdF 4) (cF (.i 3)))))))
noncomputable def g__law_borne : List Sl → Option Out := (seqG (setG 2 (cF (.i 0))) (seqG (setG 3 (cF (.i 1))) (seqG (forS (zipF (consF (rdF 0) (consF (rdF 1) nilF))) (tupG 2 (consG (nameG 4) (consG (nameG 5) nilG))) b__law_borne_1) (retV 2))))
noncomputable def f__law_borne : List D → Option Sl := fnF 2 6 g__law_borne
noncomputable def x__law_borne : List D → Option Ex := fnX 2 6 g__law_borne
noncomputable def b__law_rods_1 : List Sl → Option Out := (appG 1 (tupF (consF (rdF 2) (consF (rdF 3) nilF))))
noncomputable def b__law_rods_2 : List Sl → Option Out := (forS (rng1F (consF (opF addI (opF ixA (rdF 0) (cF (.i 2))) (cF (.i 1))) nilF)) (nameG 3) b__law_rods_1)
noncomputable def g__law_rods : List Sl → Option Out := (seqG (setG 1 (lstF nilF)) (seqG (forS (rng1F (consF (opF addI (opF ixA (rdF 0) (cF (.i 0))) (cF (.i 1))) nilF)) (nameG 2) b__law_rods_2) (retV 1)))
noncomputable def f__law_rods : List D → Option Sl := fnF 1 4 g__law_rods
noncomputable def x__law_rods : List D → Option Ex := fnX 1 4 g__law_rods
noncomputable def e__law_all_1 : List Sl → Option Sl := (opF addL (rdF 1) (lstF (consF (rdF 0) nilF)))
noncomputable def b__law_all_2 : List Sl → Option Out := (frzG 3 (setG 3 (opF addL (rdF 3) (lcF (itemsF (callF f__law_rods (consF (rdF 2) nilF))) [none, some 4] (nameG 0) yesT e__law_all_1))))
noncomputable def b__law_all_3 : List Sl → Option Out := (seqG (setG 3 (lstF nilF)) (seqG (frzG 1 (forS (itemsF (rdF 1)) (nameG 4) b__law_all_2)) (frzG 3 (setG 1 (rdF 3)))))
noncomputable def g__law_all : List Sl → Option Out := (seqG (setG 1 (lstF (consF (lstF nilF) nilF))) (seqG (forS (itemsF (rdF 0)) (nameG 2) b__law_all_3) (retV 1)))
noncomputable def f__law_all : List D → Option Sl := fnF 1 5 g__law_all
noncomputable def x__law_all : List D → Option Ex := fnX 1 5 g__law_all
noncomputable def g__law_layout : List Sl → Option Out := (seqG (setG 1 (opF addI (cF (.i 2)) (opF modD (rdF 0) (cF (.i 3))))) (seqG (setG 2 (opF modD (opF fdivD (rdF 0) (cF (.i 8))) (cF (.i 2)))) (seqG (setG 3 (cF (.i 1))) (seqG (frzG 1 (setG 4 (opF subD (rdF 1) (cF (.i 1))))) (seqG (ifG (tstF (opF gtD (rdF 2) (cF (.i 0)))) (seqG (setG 3 (opF addI (cF (.i 1)) (opF modD (opF fdivD (rdF 0) (cF (.i 64))) (cF (.i 3))))) (frzG 1 (frzG 3 (setG 4 (callF maxB (consF (opF subD (rdF 3) (cF (.i 1))) (consF (opF subD (opF subD (rdF 1) (cF (.i 1))) (rdF 3)) nilF))))))) skipG) (retG (tupF (consF (rdF 2) (consF (rdF 3) (consF (opF addI (rdF 4) (opF modD (opF fdivD (rdF 0) (cF (.i 256))) (cF (.i 2)))) (consF (rdF 1) nilF)))))))))))
noncomputable def f__law_layout : List D → Option Sl := fnF 1 5 g__law_layout
noncomputable def x__law_layout : List D → Option Ex := fnX 1 5 g__law_layout
noncomputable def b_law_1 : List Sl → Option Out := (seqG (frzG 1 (setG 10 (lstF (consF (callF listB (consF (rdF 1) nilF)) (consF (callF listB (consF (rdF 3) nilF)) nilF))))) (seqG (frzG 7 (setG 11 (callF f__law_due (consF (rdF 3) (consF (rdF 7) (consF (rdF 9) nilF)))))) (seqG (ifG (notT (truF (callF f__law_right (consF (opF ixA (rdF 10) (cF (.i 0))) (consF (opF ixA (rdF 10) (cF (.i 1))) (consF (rdF 6) (consF (opF ixA (rdF 8) (rdF 9)) (consF (rdF 11) nilF)))))))) (retG (cF (.b false))) skipG) (ifG (tstF (opF neO (rdF 10) (lstF (consF (rdF 1) (consF (rdF 3) nilF))))) (retG (cF (.b false))) skipG))))
noncomputable def e_law_1 : List Sl → Option Sl := (rdF 0)
noncomputable def b_law_3 : List Sl → Option Out := (seqG (frzG 1 (frzG 2 (setG 7 (lcF (itemsF (rdF 2)) [none, some 6, some 1] (nameG 0) (tstF (opF eqO (callF f__law_borne (consF (rdF 2) (consF (rdF 0) nilF))) (rdF 1))) e_law_1)))) (seqG (setG 8 (lstF (consF (cF (.o "ByMoves" [] [])) (consF (cF (.o "ByGrips" [] [])) (consF (cF (.o "ByBeads" [] [])) nilF))))) (forS (rng1F (consF (cF (.i 3)) nilF)) (nameG 9) b_law_1)))
noncomputable def e_law_2 : List Sl → Option Sl := (callF f__law_borne (consF (rdF 1) (consF (rdF 0) nilF)))
noncomputable def e_law_3 : List Sl → Option Sl := (callF f__law_layout (consF (callF f__law_mixed (consF (rdF 1) (consF (opF addI (cF (.i 10)) (rdF 0)) nilF))) nilF))
noncomputable def g_law : List Sl → Option Out := (seqG (setG 1 (lcF (rng1F (consF (opF addI (cF (.i 1)) (opF modD (callF f__law_mixed (consF (rdF 0) (consF (cF (.i 0)) nilF))) (cF (.i 3)))) nilF)) [none, some 0] (nameG 0) yesT e_law_3)) (seqG (frzG 1 (setG 2 (callF f__law_all (consF (rdF 1) nilF)))) (seqG (frzG 2 (setG 3 (opF ixA (rdF 2) (opF modD (callF f__law_mixed (consF (rdF 0) (consF (cF (.i 1)) nilF))) (callF lenB (consF (rdF 2) nilF)))))) (seqG (frzG 2 (frzG 1 (setG 4 (callF maxL (consF (lcF (itemsF (rdF 2)) [none, some 1] (nameG 0) yesT e_law_2) nilF))))) (seqG (frzG 2 (frzG 1 (setG 5 (callF f__law_borne (consF (rdF 1) (consF (opF ixA (rdF 2) (opF modD (callF f__law_mixed (consF (rdF 0) (consF (cF (.i 2)) nilF))) (callF lenB (consF (rdF 2) nilF)))) nilF)))))) (seqG (frzG 4 (frzG 5 (forS (itemsF (lstF (consF (rdF 5) (consF (opF ixA (lstF (consF (rdF 4) (consF (opF addI (rdF 4) (cF (.i 1))) (consF (opF fdivD (rdF 5) (cF (.i 2))) nilF)))) (opF modD (callF f__law_mixed (consF (rdF 0) (consF (cF (.i 3)) nilF))) (cF (.i 3)))) nilF)))) (nameG 6) b_law_3))) (retG (cF (.b true)))))))))
noncomputable def f_law : List D → Option Sl := fnF 1 12 g_law
noncomputable def x_law : List D → Option Ex := fnX 1 12 g_law
end Gen
open PySem L2 L3
local macro_rules | `(tactic| walk_at "ev") => do
  let ids := ("fnF seqG setG evS retG retV ifG stA stB appG forS opF callF consF nilF tupF lstF rdF cF tstF truF truD andT orT notT andF orF negF ifF isiF isXD_n isXD_i isXD_b isXD_s isXD_t isXD_l isXD_d isXD_lay isXD_pr isND_x atF methF frzG lrF argR rng3F revIt extG intB_b intB_i lbF neL_00 neL_nil List.isEmpty_nil orO getF keyD inX evX callX raiseI fnX tryG clsG noEx unO tbl_same nameG tupG_t tupG_d tupG_p consG nilG skipG dnewF itemsF seqD rng1F enumF zipF lcF innerS listB_l listB_t yesT er_sh er_un er_ac er_ad vw_sh vw_un vw_ac vw_ad toD_sh toD_ac toD_ad Sl.flat Option.bind_some Option.bind_none Option.map_none Option.map_some Option.getD_some List.map_cons List.map_nil List.getElem?_cons_zero List.getElem?_cons_succ List.set_cons_zero List.set_cons_succ List.length_cons List.length_nil List.nil_append List.cons_append List.replicate_succ List.replicate_zero addI_i subD_i mulD_r mulD_l mulD_i fdivD_s fdivD_i modD_i ltD_i gtD_i eqO_i neO_i isO_n isnotO_n isX_n isnotX_n isX_b isnotX_b ixA_t4_0 ixA_t4_1 ixA_t4_2 ixA_t4_3 ixA_t2_0 ixA_t2_1 ixA_l2i ixA_ints eqO_ints_nil neO_t2 eqO_t2 List.length_map List.length_range List.length_replicate List.length_append List.length_zipIdx absB_i maxB_i minB_i lenB_l lenB_t tyD_i tyD_b tyD_t tyD_l sub_ii sub_ib sub_bi sub_bb sub_tt sub_ll isND_d isND_i isND_l isND_t isND_n prD_mk layD_mk ixA_d0 ixA_d1 ixA_d2 ixA_d3 ixA_p0 ixA_p1 tyD_lay tyD_pr isND_lay isND_pr eqO_pp neO_pp eqO_pt neO_pt eqO_tp neO_tp eqO_frame neO_frame eqO_stand neO_stand eqO_ints neO_ints dropLast_map' take_map' ite_rng ite_rng2 ite_rep true_and rep_one ite_lt ite_le intsOf_map zipDs_map enum_map ixN_pos ixN_neg1 eqO_b neO_b Nat.reduceAdd Nat.reduceSub Nat.reduceLeDiff Nat.reduceEqDiff Nat.zero_add if_true if_false Bool.not_true Bool.not_false Bool.and_true Bool.true_and Bool.and_false Bool.false_and Bool.or_true Bool.true_or Bool.or_false Bool.false_or Bool.false_eq_true beq_self_eq_true".splitOn " ").toArray.map fun s => Lean.mkIdent s.toName
  `(tactic| simp (disch := first | assumption | decide | omega) only [↓reduceIte, $[$ids:ident],*])
local macro_rules | `(tactic| walk_at "ev*") => do
  let ids := ("fnF seqG setG evS retG retV ifG stA stB appG forS opF callF consF nilF tupF lstF rdF cF tstF truF truD andT orT notT andF orF negF ifF isiF isXD_n isXD_i isXD_b isXD_s isXD_t isXD_l isXD_d isXD_lay isXD_pr isND_x atF methF frzG lrF argR rng3F revIt extG intB_b intB_i lbF neL_00 neL_nil List.isEmpty_nil orO getF keyD inX evX callX raiseI fnX tryG clsG noEx unO tbl_same nameG tupG_t tupG_d tupG_p consG nilG skipG dnewF itemsF seqD rng1F enumF zipF lcF innerS listB_l listB_t yesT er_sh er_un er_ac er_ad vw_sh vw_un vw_ac vw_ad toD_sh toD_ac toD_ad Sl.flat Option.bind_some Option.bind_none Option.map_none Option.map_some Option.getD_some List.map_cons List.map_nil List.getElem?_cons_zero List.getElem?_cons_succ List.set_cons_zero List.set_cons_succ List.length_cons List.length_nil List.nil_append List.cons_append List.replicate_succ List.replicate_zero addI_i subD_i mulD_r mulD_l mulD_i fdivD_s fdivD_i modD_i ltD_i gtD_i eqO_i neO_i isO_n isnotO_n isX_n isnotX_n isX_b isnotX_b ixA_t4_0 ixA_t4_1 ixA_t4_2 ixA_t4_3 ixA_t2_0 ixA_t2_1 ixA_l2i ixA_ints eqO_ints_nil neO_t2 eqO_t2 List.length_map List.length_range List.length_replicate List.length_append List.length_zipIdx absB_i maxB_i minB_i lenB_l lenB_t tyD_i tyD_b tyD_t tyD_l sub_ii sub_ib sub_bi sub_bb sub_tt sub_ll isND_d isND_i isND_l isND_t isND_n prD_mk layD_mk ixA_d0 ixA_d1 ixA_d2 ixA_d3 ixA_p0 ixA_p1 tyD_lay tyD_pr isND_lay isND_pr eqO_pp neO_pp eqO_pt neO_pt eqO_tp neO_tp eqO_frame neO_frame eqO_stand neO_stand eqO_ints neO_ints dropLast_map' take_map' ite_rng ite_rng2 ite_rep true_and rep_one ite_lt ite_le intsOf_map zipDs_map enum_map ixN_pos ixN_neg1 eqO_b neO_b Nat.reduceAdd Nat.reduceSub Nat.reduceLeDiff Nat.reduceEqDiff Nat.zero_add if_true if_false Bool.not_true Bool.not_false Bool.and_true Bool.true_and Bool.and_false Bool.false_and Bool.or_true Bool.true_or Bool.or_false Bool.false_or Bool.false_eq_true beq_self_eq_true".splitOn " ").toArray.map fun s => Lean.mkIdent s.toName
  `(tactic| simp (disch := first | assumption | decide | omega) only [*, ↓reduceIte, $[$ids:ident],*])
namespace Gen
open PySem L2 L3
structure LayOk (L : Lay) : Prop where
  u0 : 0 ≤ L.u
  u6 : L.u ≤ 6
  w1 : 1 ≤ L.w
  w20 : L.w ≤ 20
  l0 : 0 ≤ L.l
  l24 : L.l ≤ 24
  b2 : 2 ≤ L.b
  b25 : L.b ≤ 25
  full : L.b ≤ L.u * L.w + L.l + 1
  flat : L.u = 0 → L.w = 1
  low : 0 < L.u → L.w ≤ L.l + 1
private theorem LayOk.uw {L : Lay} (h : LayOk L) : 0 ≤ L.u * L.w ∧ L.u * L.w ≤ 120 := by
  have u0 := h.u0
  have u6 := h.u6
  have w1 := h.w1
  have w20 := h.w20
  refine ⟨Int.mul_nonneg u0 (by omega), ?_⟩
  have := Int.mul_le_mul u6 w20 (by omega) (by omega)
  omega
end Gen
namespace Gen
open PySem L2 L3
private theorem mixed_ex2 (ns : List Int) {k : Int} (h0 : 0 ≤ k) (h1 : k ≤ 10000) : ∃ c, f__law_mixed [.l (ns.map D.i), .i k] = some (.sh (.i c)) ∧ 0 ≤ c ∧ c < 2147483647 := by
  cases ns with
  | nil =>
    refine ⟨k * 7919 + 5, ?_, by omega, by omega⟩
    simp only [f__law_mixed, g__law_mixed]
    walk_at "ev"
    rfl
  | cons n ns =>
    have hl : (0 : Int) < ((n :: ns).length : Int) := by simp only [List.length_cons]; omega
    have m0 := Int.emod_nonneg k (show ((n :: ns).length : Int) ≠ 0 by omega)
    have m1 := Int.emod_lt_of_pos k hl
    generalize hz : n :: ns = zs at *
    have he : zs.isEmpty = false := by rw [← hz]; rfl
    refine ⟨(zs.getD (k % (zs.length : Int)).toNat 0 + 1 + k) * (48271 + 7919 * k) % 2147483647, ?_, Int.emod_nonneg _ (by decide), Int.emod_lt_of_pos _ (by decide)⟩
    simp only [f__law_mixed, g__law_mixed]
    clear hz
    walk_at "ev*"
private theorem mixed_ex (ns : List Int) {k : Int} (h0 : 0 ≤ k) (h1 : k ≤ 10000) : ∃ c, f__law_mixed [.l (ns.map D.i), .i k] = some (.sh (.i c)) ∧ 0 ≤ c := by
  obtain ⟨c, e, c0, _⟩ := mixed_ex2 ns h0 h1
  exact ⟨c, e, c0⟩
end Gen
namespace Gen
open PySem L2 L3
noncomputable def FrOk (fr : List Lay) : Prop := ∀ L ∈ fr, LayOk L
noncomputable def Fr25 (fr : List Lay) : Prop := ∀ L ∈ fr, L.u * L.w + L.l ≤ 25
end Gen
namespace Gen
open PySem L2 L3
private theorem FrOk.sub {fr gr : List Lay} (h : FrOk fr) (s : ∀ L ∈ gr, L ∈ fr) : FrOk gr := fun L hL => h L (s L hL)
private theorem FrOk.take {fr : List Lay} (h : FrOk fr) (k : Nat) : FrOk (fr.take k) := h.sub fun L hL => List.mem_of_mem_take hL
noncomputable def plc : List Lay → Int
  | [] => 1
  | L :: r => L.b * plc r
end Gen
namespace Gen
open PySem L2 L3
structure RodOk (L : Lay) (p : Int × Int) : Prop where
  h0 : 0 ≤ p.1
  h1 : p.1 ≤ L.u
  l0 : 0 ≤ p.2
  l1 : p.2 ≤ L.l
noncomputable def StOk : List Lay → List (Int × Int) → Prop
  | [], [] => True
  | L :: fr, p :: st => RodOk L p ∧ StOk fr st
  | _, _ => False
private theorem StOk.length : ∀ {fr : List Lay} {st : List (Int × Int)}, StOk fr st → st.length = fr.length
  | [], [], _ => rfl
  | _ :: fr, _ :: st, h => by simp [StOk.length h.2]
  | [], _ :: _, h => h.elim
  | _ :: _, [], h => h.elim
noncomputable def cnt (L : Lay) (p : Int × Int) : Int := p.1 * L.w + p.2
private theorem cnt_bound {L : Lay} {p : Int × Int} (ok : LayOk L) (h : RodOk L p) : 0 ≤ p.1 * L.w ∧ p.1 * L.w ≤ 120 ∧ 0 ≤ cnt L p ∧ cnt L p ≤ 144 := by
  have u6 := ok.u6
  have w1 := ok.w1
  have w20 := ok.w20
  have l24 := ok.l24
  have h0 := h.h0
  have h1 := h.h1
  have l0 := h.l0
  have l1 := h.l1
  have a := Int.mul_nonneg h0 (show 0 ≤ L.w by omega)
  have b := Int.mul_le_mul (show p.1 ≤ 6 by omega) w20 (by omega) (by omega)
  unfold cnt
  omega
end Gen
namespace Gen
open PySem L2 L3
private theorem count_of_eq {L : Lay} {p : Int × Int} (ok : LayOk L) (h : RodOk L p) : f_count_of [L.d, prD p] = some (.sh (.i (cnt L p))) := by
  have w20 := ok.w20
  have w1 := ok.w1
  simp only [f_count_of, g_count_of, c_HIGH, c_WORTH, c_LOW, cnt]
  walk_at "ev"
end Gen
namespace Gen
open PySem L2 L3
noncomputable def fullOf (L : Lay) : Int := L.u * L.w + L.l
private theorem full_worth_eq {L : Lay} (ok : LayOk L) : f_full_worth [L.d] = some (.sh (.i (fullOf L))) := by
  have u0 := ok.u0
  have u6 := ok.u6
  simp only [f_full_worth, g_full_worth, c_UPPER, c_WORTH, c_LOWER, fullOf]
  walk_at "ev"
end Gen
namespace Gen
open PySem L2 L3
noncomputable def plainOf (L : Lay) (n : Int) : Int × Int := (if n / L.w < L.u then n / L.w else L.u, n - (if n / L.w < L.u then n / L.w else L.u) * L.w)
private theorem cnt_plain (L : Lay) (n : Int) : cnt L (plainOf L n) = n := by
  unfold cnt plainOf
  simp only
  omega
private theorem plain_ok {L : Lay} (ok : LayOk L) {n : Int} (n0 : 0 ≤ n) (n1 : n ≤ fullOf L) : RodOk L (plainOf L n) := by
  have w1 := ok.w1
  have wp : 0 < L.w := Int.lt_of_lt_of_le (by decide) w1
  have d0 : 0 ≤ n / L.w := Int.ediv_nonneg n0 (Int.le_of_lt wp)
  have d1 := Int.emod_nonneg n (Int.ne_of_gt wp)
  have d2 := Int.emod_lt_of_pos n wp
  have d3 := Int.emod_add_mul_ediv n L.w
  unfold fullOf at n1
  by_cases c : n / L.w < L.u
  · have e : plainOf L n = (n / L.w, n % L.w) := by
      unfold plainOf
      rw [if_pos c, Int.mul_comm (n / L.w) L.w]
      congr 1
      clear n0 n1 w1 wp d0 d1 d2 c
      omega
    rw [e]
    have lw := ok.low (Int.lt_of_le_of_lt d0 c)
    exact ⟨d0, Int.le_of_lt c, d1, by
      show n % L.w ≤ L.l
      clear n0 n1 w1 wp d0 d1 d3 c e
      omega⟩
  · have e : plainOf L n = (L.u, n - L.u * L.w) := by
      unfold plainOf
      rw [if_neg c]
    rw [e]
    have m : L.u * L.w ≤ n / L.w * L.w := Int.mul_le_mul_of_nonneg_right (Int.not_lt.mp c) (Int.le_of_lt wp)
    rw [Int.mul_comm (n / L.w)] at m
    exact ⟨ok.u0, Int.le_refl _, Int.sub_nonneg_of_le (Int.le_trans m (by
      clear n0 n1 w1 wp d0 d2 c e m
      omega)), Int.sub_left_le_of_le_add n1⟩
end Gen
namespace Gen
open PySem L2 L3
noncomputable def borne : List Lay → List (Int × Int) → Int
  | L :: fr, p :: st => cnt L p + L.b * borne fr st
  | _, _ => 0
end Gen
namespace Gen
open PySem L2 L3
private theorem zborne_loop {s0 s1 : Sl} : ∀ (gr : List Lay) (st : List (Int × Int)) (a p : Int) (x4 x5 : Sl), FrOk gr → StOk gr st →
    ∃ y3 y4 y5, forG (tupG 2 (consG (nameG 4) (consG (nameG 5) nilG))) b__law_borne_1 ((gr.zip st).map fun p => D.t [Lay.d p.1, prD p.2]) [s0, s1, .sh (.i a), .sh (.i p), x4, x5] = some (.nx [s0, s1, .sh (.i (a + p * borne gr st)), y3, y4, y5])
  | [], [], a, p, x4, x5, _, _ => ⟨_, x4, x5, by rw [List.zip_nil_left, List.map_nil, forG_nil, borne, Int.mul_zero, Int.add_zero]; intros; simp_all⟩
  | [], _ :: _, _, _, _, _, _, h => h.elim
  | _ :: _, [], _, _, _, _, _, h => h.elim
  | L :: gr, q :: st, a, p, x4, x5, ok, so => by
    have okL := ok L List.mem_cons_self
    have b2 := okL.b2
    have b25 := okL.b25
    have w1 := okL.w1
    have w20 := okL.w20
    have cb := cnt_bound okL so.1
    obtain ⟨y3, y4, y5, ih⟩ := zborne_loop (s0 := s0) (s1 := s1) gr st (a + cnt L q * p) (p * L.b) (.sh L.d) (.sh (prD q)) (fun K hK => ok K (List.mem_cons_of_mem _ hK)) so.2
    refine ⟨y3, y4, y5, ?_⟩
    have e : a + p * borne (L :: gr) (q :: st) = a + cnt L q * p + p * L.b * borne gr st := by
      rw [borne, Int.mul_add, Int.mul_comm p (cnt L q), Int.mul_assoc, Int.add_assoc]
    rw [e, List.zip_cons_cons, List.map_cons, forG_step (ρ1 := [s0, s1, .sh (.i a), .sh (.i p), .sh L.d, .sh (prD q)]) (ρ2 := [s0, s1, .sh (.i (a + cnt L q * p)), .sh (.i (p * L.b)), .sh L.d, .sh (prD q)]) (by rfl) (by
      simp only [b__law_borne_1]
      unfold cnt at *
      clear ih so ok okL e
      walk_at "ev*"), ih]
private theorem law_borne_eq {fr : List Lay} {st : List (Int × Int)} (ok : FrOk fr) (so : StOk fr st) : f__law_borne [.l (fr.map Lay.d), .l (st.map prD)] = some (.sh (.i (borne fr st))) := by
  obtain ⟨y3, y4, y5, lp⟩ := zborne_loop (s0 := .sh (.l (fr.map Lay.d))) (s1 := .sh (.l (st.map prD))) fr st 0 1 .un .un ok so
  rw [Int.one_mul, Int.zero_add] at lp
  simp only [f__law_borne, g__law_borne]
  clear ok so
  walk_at "ev*"
end Gen
namespace Gen
open PySem L2 L3
private theorem valI {f : Int → D} : ∀ {ks : List Int} {n : Int}, n ∈ ks → valD (ks.map Sum.inl) (ks.map f) (.inl n) = some (f n)
  | k :: r, n, h => by
    by_cases e : k = n
    · subst e; simp [valD]
    · have : n ∈ r := by
        rcases List.mem_cons.mp h with z | z
        · exact absurd z.symm e
        · exact z
      simp only [List.map_cons, valD]
      rw [if_neg (by intro z; exact e (by injection z))]
      exact valI this
private theorem valI_none {f : Int → D} : ∀ {ks : List Int} {n : Int}, n ∉ ks → valD (ks.map Sum.inl) (ks.map f) (.inl n) = none
  | [], _, _ => rfl
  | k :: r, n, h => by
    simp only [List.mem_cons, not_or] at h
    simp only [List.map_cons, valD]
    rw [if_neg (by intro z; exact h.1 (by injection z with z; exact z.symm))]
    exact valI_none h.2
private theorem putI {f : Int → D} {ks : List Int} {n : Int} (h : n ∉ ks) : putD (ks.map Sum.inl) (ks.map f) (.inl n) (f n) = .ad ((ks ++ [n]).map Sum.inl) ((ks ++ [n]).map f) := by
  unfold putD
  rw [valI_none h]
  simp
noncomputable def addK (ks : List Int) (n : Int) : List Int := if n ∈ ks then ks else ks ++ [n]
private theorem repT : ∀ (ks : List Int) (k : Key), repD (ks.map Sum.inl) (ks.map fun _ => D.b true) k (.b true) = ks.map fun _ => D.b true
  | [], _ => rfl
  | x :: r, k => by
    have ih := repT r k
    simp only [List.map_cons, repD, ih]
    split <;> rfl
private theorem putT {ks : List Int} {n : Int} : putD (ks.map Sum.inl) (ks.map fun _ => D.b true) (.inl n) (.b true) = .ad ((addK ks n).map Sum.inl) ((addK ks n).map fun _ => D.b true) := by
  unfold addK
  by_cases h : n ∈ ks
  · rw [if_pos h]
    unfold putD
    rw [valI (f := fun _ => D.b true) h]
    simp [repT]
  · rw [if_neg h, ← putI (f := fun _ => D.b true) h]
private theorem addK_mem {ks : List Int} {n m : Int} : m ∈ addK ks n ↔ m ∈ ks ∨ m = n := by
  unfold addK
  split
  · rename_i h
    constructor
    · exact .inl
    · rintro (z | rfl)
      · exact z
      · exact h
  · simp
private theorem addK_nodup {ks : List Int} {n : Int} (h : ks.Nodup) : (addK ks n).Nodup := by
  unfold addK
  split
  · exact h
  · rename_i c
    rw [List.nodup_append]
    refine ⟨h, by simp, fun a ha b hb => ?_⟩
    rw [List.mem_singleton] at hb
    subst hb
    exact fun z => c (z ▸ ha)
private theorem intsK_map : ∀ ns : List Int, intsK (ns.map Sum.inl) = some ns
  | [] => rfl
  | n :: r => by rw [List.map_cons, intsK, intsK_map r]; rfl
private theorem sortB_eq {ns : List Int} {ds : List D} (h : ns.length < 64) : sortB [.d (ns.map Sum.inl) ds] = some (.ac ((srtI ns).map D.i)) := by
  show ((intsK (ns.map Sum.inl)).bind fun ns => if ns.length < 64 then some (Sl.ac ((srtI ns).map D.i)) else none) = _
  rw [intsK_map]
  simp [h]
private theorem srtI_mem {ns : List Int} {m : Int} : m ∈ srtI ns ↔ m ∈ ns := (srtI_perm ns).mem_iff
private theorem srtI_nodup {ns : List Int} (h : ns.Nodup) : (srtI ns).Nodup := (srtI_perm ns).nodup_iff.mpr h
private theorem ixA_d {f : Int → D} {ks : List Int} {n : Int} (h : n ∈ ks) : ixA (.d (ks.map Sum.inl) (ks.map f)) (.i n) = some (.sh (f n)) := by
  show (valD _ _ (.inl n)).map Sl.sh = _
  rw [valI h]; rfl
private theorem nodup_bound {ns : List Int} {a : Int} {w : Nat} (h : ns.Nodup) (hb : ∀ m ∈ ns, a ≤ m ∧ m ≤ a + (w : Nat)) : ns.length ≤ w + 1 := by
  have nd : (ns.map fun m => (m - a).toNat).Nodup := by
    refine List.pairwise_map.mpr (List.Pairwise.imp_of_mem (fun {x y} hx hy ne e => ?_) h)
    have := hb x hx
    have := hb y hy
    exact ne (by omega)
  have sub : (ns.map fun m => (m - a).toNat) ⊆ List.range (w + 1) := by
    intro m hm
    obtain ⟨x, hx, rfl⟩ := List.mem_map.mp hm
    have := hb x hx
    rw [List.mem_range]; omega
  have := nd.length_le_of_subset sub
  simpa using this
end Gen
namespace Gen
open PySem L2 L3
noncomputable def rp (w : Nat) (p q : Int × Int) : Int := match w with
  | 0 => (if (!(p.1 == q.1)) = true then 1 else 0) + (if (!(p.2 == q.2)) = true then 1 else 0)
  | 1 => if (!(p.1 == q.1 && p.2 == q.2)) = true then 1 else 0
  | _ => (if p.1 - q.1 < 0 then -(p.1 - q.1) else p.1 - q.1) + (if p.2 - q.2 < 0 then -(p.2 - q.2) else p.2 - q.2)
noncomputable def cn (w : Nat) : Str := match w with
  | 0 => "ByMoves"
  | 1 => "ByGrips"
  | _ => "ByBeads"
private theorem one_eq {w : Nat} (hw : w < 3) {p q : Int × Int} : ∃ h, methD "rod_price" tb_rod_price (.o (cn w) [] []) = some h ∧ h [.o (cn w) [] [], prD p, prD q] = some (.sh (.i (rp w p q))) := by
  match w, hw with
  | 0, _ =>
    refine ⟨f_ByMoves_rod_price, rfl, ?_⟩
    simp only [f_ByMoves_rod_price, g_ByMoves_rod_price, rp, c_HIGH, c_LOW]
    walk_at "ev"
  | 1, _ =>
    refine ⟨f_ByGrips_rod_price, rfl, ?_⟩
    simp only [f_ByGrips_rod_price, g_ByGrips_rod_price, rp, c_HIGH, c_LOW]
    walk_at "ev"
  | 2, _ =>
    refine ⟨f_ByBeads_rod_price, rfl, ?_⟩
    simp only [f_ByBeads_rod_price, g_ByBeads_rod_price, rp, c_HIGH, c_LOW]
    walk_at "ev"
end Gen
namespace Gen
open PySem L2 L3
noncomputable def rods (L : Lay) : List (Int × Int) := (List.range (L.u + 1).toNat).flatMap fun h => (List.range (L.l + 1).toNat).map fun l => (((h : Nat) : Int), ((l : Nat) : Int))
private theorem mem_rods {L : Lay} (ok : LayOk L) {p : Int × Int} : p ∈ rods L ↔ RodOk L p := by
  have u0 := ok.u0
  have l0 := ok.l0
  obtain ⟨a, b⟩ := p
  unfold rods
  simp only [List.mem_flatMap, List.mem_map, List.mem_range, Prod.mk.injEq]
  have key : ∀ {k : Nat} {m : Int}, 0 ≤ m → (k < (m + 1).toNat ↔ (k : Int) ≤ m) := fun h => by omega
  constructor
  · rintro ⟨h, hh, l, hl, rfl, rfl⟩
    exact ⟨Int.natCast_nonneg h, (key u0).mp hh, Int.natCast_nonneg l, (key l0).mp hl⟩
  · rintro ⟨h1, h2, h3, h4⟩
    have ea := Int.toNat_of_nonneg h1
    have eb := Int.toNat_of_nonneg h3
    exact ⟨a.toNat, (key u0).mpr (ea.symm ▸ h2), b.toNat, (key l0).mpr (eb.symm ▸ h4), ea, eb⟩
private theorem rods_len {L : Lay} (ok : LayOk L) (i : Nat) (hi : i ≤ 7) : (((List.range i).flatMap fun h => (List.range (L.l + 1).toNat).map fun l => (((h : Nat) : Int), ((l : Nat) : Int))).map prD).length ≤ 1000 := by
  have l24 := ok.l24
  rw [List.length_map, List.length_flatMap]
  simp only [List.length_map, List.length_range]
  rw [List.map_const', List.sum_replicate_nat, List.length_range]
  have : i * (L.l + 1).toNat ≤ 7 * 25 := Nat.mul_le_mul hi (by omega)
  omega
private theorem rod_standings_eq {L : Lay} (ok : LayOk L) : f_rod_standings [L.d] = some (.ac ((rods L).map prD)) := by
  have u0 := ok.u0
  have u6 := ok.u6
  have l0 := ok.l0
  have l24 := ok.l24
  obtain ⟨ρ', lp, y, rfl⟩ := forG_range (h := nameG 2) (g := b_rod_standings_2) (n := (L.u + 1).toNat) (ρ := [.sh L.d, .ac [], .un])
    (fun i ρ => ∃ y, ρ = [.sh L.d, .ac (((List.range i).flatMap fun h => (List.range (L.l + 1).toNat).map fun l => (((h : Nat) : Int), ((l : Nat) : Int))).map prD), y]) ⟨_, rfl⟩ fun i ρ hi zq9 => by
      obtain ⟨y, e⟩ := zq9
      subst e
      have cm := compG_range (F := fun l : Nat => prD ((i : Int), ((l : Nat) : Int))) (h := nameG 0) (f := e_rod_standings_1) (n := (L.l + 1).toNat) (ρ := [.un, .sh (.i (i : Nat))]) (fun ρ => ∃ x, ρ = [x, .sh (.i (i : Nat))]) ⟨_, rfl⟩ fun j hj ρ zq9 => by
        obtain ⟨x, e⟩ := zq9
        subst e
        exact ⟨_, .sh (prD ((i : Int), (j : Int))), rfl, ⟨_, rfl⟩, rfl, rfl⟩
      have ln := rods_len ok i (by omega)
      have nx : ((List.range (i + 1)).flatMap fun h => (List.range (L.l + 1).toNat).map fun l => (((h : Nat) : Int), ((l : Nat) : Int))).map prD = ((List.range i).flatMap fun h => (List.range (L.l + 1).toNat).map fun l => (((h : Nat) : Int), ((l : Nat) : Int))).map prD ++ (List.range (L.l + 1).toNat).map fun l : Nat => prD ((i : Int), ((l : Nat) : Int)) := by
        rw [List.range_succ, List.flatMap_append, List.map_append]
        simp
      refine ⟨_, [.sh L.d, .ac (((List.range (i + 1)).flatMap fun h => (List.range (L.l + 1).toNat).map fun l => (((h : Nat) : Int), ((l : Nat) : Int))).map prD), .sh (.i (i : Nat))], rfl, ?_, _, rfl⟩
      rw [nx]
      generalize ((List.range i).flatMap fun h => (List.range (L.l + 1).toNat).map fun l => (((h : Nat) : Int), ((l : Nat) : Int))).map prD = acc at *
      have hz : acc.length + ((List.range (L.l + 1).toNat).map fun l : Nat => prD ((i : Int), ((l : Nat) : Int))).length ≤ 10000000 := by rw [List.length_map, List.length_range]; omega
      simp only [b_rod_standings_2, c_LOWER]
      clear nx ok
      walk_at "ev*"
  have e : ((List.range (L.u + 1).toNat).flatMap fun h => (List.range (L.l + 1).toNat).map fun l => (((h : Nat) : Int), ((l : Nat) : Int))) = rods L := rfl
  rw [e] at lp
  simp only [f_rod_standings, g_rod_standings, c_UPPER]
  clear ok
  walk_at "ev*"
noncomputable def tpm (L : Lay) (n : Int) : Int := if fullOf L < n then fullOf L else n
noncomputable def fitN (L : Lay) (n : Int) : Nat := (Builtin.Range.rangeSize (n % L.b) (tpm L n + 1) L.b).toNat
noncomputable def fits (L : Lay) (n : Int) : List Int := (List.range (fitN L n)).map fun k => n % L.b + (k : Nat) * L.b
private theorem fit_size {L : Lay} (ok : LayOk L) {n : Int} (n0 : 0 ≤ n) : Builtin.Range.rangeSize (n % L.b) (tpm L n + 1) L.b = (if tpm L n + 1 > n % L.b then (tpm L n + 1 - n % L.b - 1) / L.b + 1 else 0) := by
  have b2 := ok.b2
  unfold Builtin.Range.rangeSize
  rw [if_pos (by omega)]
private theorem mem_fits {L : Lay} (ok : LayOk L) {n c : Int} (n0 : 0 ≤ n) : c ∈ fits L n ↔ 0 ≤ c ∧ c ≤ n ∧ c ≤ fullOf L ∧ c % L.b = n % L.b := by
  have b2 := ok.b2
  have f0 : 0 ≤ fullOf L := by have := ok.uw; have := ok.l0; unfold fullOf; omega
  have m0 := Int.emod_nonneg n (show L.b ≠ 0 by omega)
  have m1 := Int.emod_lt_of_pos n (show 0 < L.b by omega)
  have tp : tpm L n ≤ n ∧ tpm L n ≤ fullOf L ∧ (tpm L n = n ∨ tpm L n = fullOf L) := by
    clear m0 m1 b2 f0
    unfold tpm
    split <;> omega
  unfold fits fitN
  rw [fit_size ok n0, List.mem_map]
  generalize tpm L n = t at *
  have bp : 0 < L.b := by clear m0 m1 f0 tp n0; omega
  have bn : 0 ≤ L.b := Int.le_of_lt bp
  constructor
  · rintro ⟨k, hk, rfl⟩
    rw [List.mem_range] at hk
    by_cases c1 : t + 1 > n % L.b
    · rw [if_pos c1] at hk
      have k1 : (k : Int) ≤ (t + 1 - n % L.b - 1) / L.b := by
        clear m0 m1 f0 tp n0 c1 bp bn b2
        omega
      have k2 : (k : Int) * L.b ≤ t - n % L.b := by
        have := (Int.le_ediv_iff_mul_le bp).mp k1
        clear m0 m1 f0 tp n0 c1 bp bn b2 hk k1
        omega
      have k0 : 0 ≤ (k : Int) * L.b := Int.mul_nonneg (Int.natCast_nonneg k) bn
      have k3 : n % L.b + (k : Int) * L.b ≤ t := by
        clear m0 m1 f0 tp n0 c1 bp bn b2 hk k1 k0
        omega
      refine ⟨Int.add_nonneg m0 k0, Int.le_trans k3 tp.1, Int.le_trans k3 tp.2.1, ?_⟩
      rw [Int.add_mul_emod_self_right, Int.emod_emod_of_dvd _ (Int.dvd_refl _)]
    · rw [if_neg c1] at hk
      simp at hk
  · rintro ⟨c0, c1, c2, c3⟩
    have ct : c ≤ t := by
      rcases tp.2.2 with z | z
      · rw [z]; exact c1
      · rw [z]; exact c2
    have e := Int.emod_add_mul_ediv c L.b
    rw [c3] at e
    have q0 : 0 ≤ c / L.b := Int.ediv_nonneg c0 bn
    clear c1 c2 c3 tp n0 f0 m1 b2
    refine ⟨(c / L.b).toNat, ?_, ?_⟩
    · rw [List.mem_range]
      have qb : 0 ≤ L.b * (c / L.b) := Int.mul_nonneg bn q0
      rw [if_pos (by clear m0 q0 c0 bp bn; omega)]
      have : c / L.b ≤ (t + 1 - n % L.b - 1) / L.b := by
        rw [Int.le_ediv_iff_mul_le bp, Int.mul_comm]
        clear m0 q0 c0 bp bn qb
        omega
      clear m0 c0 bp bn qb e ct
      omega
    · rw [show (((c / L.b).toNat : Nat) : Int) = c / L.b by omega, Int.mul_comm]
      exact e
private theorem fits_len {L : Lay} (ok : LayOk L) {n : Int} (n0 : 0 ≤ n) : (fits L n).length ≤ 150 := by
  have b2 := ok.b2
  have uw := ok.uw
  have l24 := ok.l24
  have m0 := Int.emod_nonneg n (show L.b ≠ 0 by omega)
  have tp : tpm L n ≤ fullOf L := by unfold tpm; split <;> omega
  unfold fullOf at tp
  unfold fits fitN
  rw [List.length_map, List.length_range, fit_size ok n0]
  split
  · have : (tpm L n + 1 - n % L.b - 1) / L.b ≤ tpm L n + 1 - n % L.b - 1 := Int.ediv_le_self _ (by omega)
    omega
  · simp
private theorem okR_of {r t b : Int} (h : 0 ≤ r ∧ r < 25 ∧ 0 ≤ t ∧ t ≤ 144 ∧ 2 ≤ b ∧ b ≤ 25) (fl : (Builtin.Range.rangeSize r (t + 1) b).toNat ≤ 150) : okR r (t + 1) b = true := by
  obtain ⟨r0, r1, t0, t1, b0, b1⟩ := h
  have nn := rangeSize_nonneg r (t + 1) b
  unfold okR Builtin.Range.small
  simp only [Builtin.Range.rangeFitsLong, Bool.and_eq_true, Bool.or_eq_true, decide_eq_true_eq, beq_iff_eq]
  generalize Builtin.Range.rangeSize r (t + 1) b = z at *
  rw [if_pos (Int.lt_of_lt_of_le (by decide) b0)]
  simp only [Bool.and_eq_true, decide_eq_true_eq]
  omega
private theorem okR_fit {L : Lay} (ok : LayOk L) {n : Int} (n0 : 0 ≤ n) : okR (n % L.b) (tpm L n + 1) L.b = true := by
  have b2 := ok.b2
  have uw := ok.uw
  have l24 := ok.l24
  have l0 := ok.l0
  have m1 := Int.emod_lt_of_pos n (show 0 < L.b by omega)
  have tp : 0 ≤ tpm L n ∧ tpm L n ≤ fullOf L := by
    clear m1
    unfold tpm fullOf
    split <;> omega
  have fl := fits_len ok n0
  unfold fits fitN at fl
  rw [List.length_map, List.length_range] at fl
  exact okR_of ⟨Int.emod_nonneg n (Int.ne_of_gt (Int.lt_of_lt_of_le (by decide) b2)), Int.lt_of_lt_of_le m1 ok.b25, tp.1, Int.le_trans tp.2 (Int.add_le_add uw.2 l24), b2, ok.b25⟩ fl
private theorem fitting_counts_eq {L : Lay} (ok : LayOk L) {n : Int} (n0 : 0 ≤ n) : f_fitting_counts [L.d, .i n] = some (.ac ((fits L n).map D.i)) := by
  have b2 := ok.b2
  have b25 := ok.b25
  have fw := full_worth_eq ok
  have ok1 := okR_fit ok n0
  have e : rngsD (n % L.b) (tpm L n + 1) L.b = (fits L n).map D.i := by unfold rngsD fits fitN; rw [List.map_map]; rfl
  unfold tpm at ok1 e
  simp only [f_fitting_counts, g_fitting_counts, c_BASE]
  clear ok
  walk_at "ev*"
noncomputable def lb (L : Lay) (n c : Int) : Int := (n - c) / L.b
private theorem left_behind_eq {L : Lay} (ok : LayOk L) (n c : Int) : f_left_behind [L.d, .i n, .i c] = some (.sh (.i (lb L n c))) := by
  have b2 := ok.b2
  have b25 := ok.b25
  simp only [f_left_behind, g_left_behind, c_BASE, lb]
  clear ok
  walk_at "ev*"
private theorem lb_fit {L : Lay} (ok : LayOk L) {n c : Int} (n0 : 0 ≤ n) (h : c ∈ fits L n) : L.b * lb L n c = n - c ∧ 0 ≤ lb L n c := by
  have b2 := ok.b2
  obtain ⟨c0, c1, c2, c3⟩ := (mem_fits ok n0).mp h
  have e1 := Int.emod_add_mul_ediv n L.b
  have e2 := Int.emod_add_mul_ediv c L.b
  have e : n - c = L.b * (n / L.b - c / L.b) := by rw [Int.mul_sub]; omega
  unfold lb
  refine ⟨?_, Int.ediv_nonneg (by omega) (by omega)⟩
  rw [e, Int.mul_ediv_cancel_left _ (by omega)]
noncomputable def kb1 (L : Lay) (k : Int) (cs : List Int) (acc : List Int) : List Int := cs.foldl (fun a c => addK a (lb L k c)) acc
noncomputable def kbA (L : Lay) (ks : List Int) (acc : List Int) : List Int := ks.foldl (fun a k => kb1 L k (fits L k) a) acc
noncomputable abbrev dT (ks : List Int) : Sl := .ad (ks.map Sum.inl) (ks.map fun _ => D.b true)
private theorem addK_len {ks : List Int} {n : Int} : (addK ks n).length ≤ ks.length + 1 := by
  unfold addK; split
  · omega
  · simp
private theorem kb1_loop {L : Lay} (ok : LayOk L) {k : Int} {s1 : Sl} : ∀ (cs acc : List Int) (x4 : Sl), acc.length + cs.length < 1000000 →
    ∃ y4, forG (nameG 4) b_keys_behind_1 (cs.map D.i) [.sh L.d, s1, dT acc, .sh (.i k), x4] = some (.nx [.sh L.d, s1, dT (kb1 L k cs acc), .sh (.i k), y4])
  | [], acc, x4, _ => ⟨x4, rfl⟩
  | c :: cs, acc, x4, hl => by
    simp only [List.length_cons] at hl
    have al := addK_len (ks := acc) (n := lb L k c)
    obtain ⟨y4, ih⟩ := kb1_loop ok (s1 := s1) cs (addK acc (lb L k c)) (.sh (.i c)) (by omega)
    refine ⟨y4, ?_⟩
    have le := left_behind_eq ok k c
    have pt := putT (ks := acc) (n := lb L k c)
    rw [List.map_cons, forG_step (ρ1 := [.sh L.d, s1, dT acc, .sh (.i k), .sh (.i c)]) (ρ2 := [.sh L.d, s1, dT (addK acc (lb L k c)), .sh (.i k), .sh (.i c)]) rfl (by
      have ln : (acc.map fun _ => D.b true).length < 10000000 := by rw [List.length_map]; omega
      simp only [b_keys_behind_1, dT]
      clear ih ok
      walk_at "ev*"), ih]
    rfl
private theorem kb1_len {L : Lay} {k : Int} : ∀ (cs acc : List Int), (kb1 L k cs acc).length ≤ acc.length + cs.length
  | [], acc => by simp [kb1]
  | c :: cs, acc => by
    have := kb1_len (L := L) (k := k) cs (addK acc (lb L k c))
    have := addK_len (ks := acc) (n := lb L k c)
    show (kb1 L k cs (addK acc (lb L k c))).length ≤ _
    rw [List.length_cons]; omega
private theorem kbA_loop {L : Lay} (ok : LayOk L) {s1 : Sl} : ∀ (ks acc : List Int) (x3 x4 : Sl), (∀ k ∈ ks, 0 ≤ k) → acc.length + 200 * ks.length < 900000 →
    ∃ y3 y4, forG (nameG 3) b_keys_behind_2 (ks.map D.i) [.sh L.d, s1, dT acc, x3, x4] = some (.nx [.sh L.d, s1, dT (kbA L ks acc), y3, y4])
  | [], acc, x3, x4, _, _ => ⟨x3, x4, rfl⟩
  | k :: ks, acc, x3, x4, h0, hl => by
    simp only [List.length_cons] at hl
    have k0 := h0 k List.mem_cons_self
    have fl := fits_len ok k0
    have kl := kb1_len (L := L) (k := k) (fits L k) acc
    obtain ⟨y4, lp⟩ := kb1_loop ok (k := k) (s1 := s1) (fits L k) acc x4 (by omega)
    obtain ⟨z3, z4, ih⟩ := kbA_loop ok (s1 := s1) ks (kb1 L k (fits L k) acc) (.sh (.i k)) y4 (fun m hm => h0 m (List.mem_cons_of_mem _ hm)) (by omega)
    refine ⟨z3, z4, ?_⟩
    have fc := fitting_counts_eq ok k0
    rw [List.map_cons, forG_step (ρ1 := [.sh L.d, s1, dT acc, .sh (.i k), x4]) (ρ2 := [.sh L.d, s1, dT (kb1 L k (fits L k) acc), .sh (.i k), y4]) rfl (by
      simp only [b_keys_behind_2]
      clear ih ok
      walk_at "ev*"), ih]
    rfl
private theorem kb1_mem {L : Lay} {k : Int} {m : Int} : ∀ (cs acc : List Int), m ∈ kb1 L k cs acc ↔ m ∈ acc ∨ ∃ c ∈ cs, m = lb L k c
  | [], acc => by simp [kb1]
  | c :: cs, acc => by
    show m ∈ kb1 L k cs (addK acc (lb L k c)) ↔ _
    rw [kb1_mem cs, addK_mem]
    simp only [List.mem_cons, exists_eq_or_imp]
    constructor
    · rintro ((h | h) | h)
      · exact .inl h
      · exact .inr (.inl h)
      · exact .inr (.inr h)
    · rintro (h | h | h)
      · exact .inl (.inl h)
      · exact .inl (.inr h)
      · exact .inr h
private theorem kbA_mem {L : Lay} {m : Int} : ∀ (ks acc : List Int), m ∈ kbA L ks acc ↔ m ∈ acc ∨ ∃ k ∈ ks, ∃ c ∈ fits L k, m = lb L k c
  | [], acc => by simp [kbA]
  | k :: ks, acc => by
    show m ∈ kbA L ks (kb1 L k (fits L k) acc) ↔ _
    rw [kbA_mem ks, kb1_mem]
    simp only [List.mem_cons, exists_eq_or_imp]
    constructor
    · rintro ((h | h) | h)
      · exact .inl h
      · exact .inr (.inl h)
      · exact .inr (.inr h)
    · rintro (h | h | h)
      · exact .inl (.inl h)
      · exact .inl (.inr h)
      · exact .inr h
private theorem kb1_nodup {L : Lay} {k : Int} : ∀ (cs acc : List Int), acc.Nodup → (kb1 L k cs acc).Nodup
  | [], _, h => h
  | c :: cs, acc, h => kb1_nodup cs (addK acc (lb L k c)) (addK_nodup h)
private theorem kbA_nodup {L : Lay} : ∀ (ks acc : List Int), acc.Nodup → (kbA L ks acc).Nodup
  | [], _, h => h
  | k :: ks, acc, h => kbA_nodup ks (kb1 L k (fits L k) acc) (kb1_nodup _ _ h)
noncomputable def nxt (L : Lay) (ks : List Int) : List Int := srtI (kbA L ks [])
private theorem mem_nxt {L : Lay} {ks : List Int} {m : Int} : m ∈ nxt L ks ↔ ∃ k ∈ ks, ∃ c ∈ fits L k, m = lb L k c := by
  unfold nxt
  rw [srtI_mem, kbA_mem]
  simp
structure Cl (ks : List Int) : Prop where
  nd : ks.Nodup
  n0 : ∀ k ∈ ks, 0 ≤ k
  near : ∀ x ∈ ks, ∀ y ∈ ks, x - y ≤ 25
private theorem Cl.len {ks : List Int} (h : Cl ks) : ks.length ≤ 51 := by
  cases ks with
  | nil => simp
  | cons x r =>
    refine nodup_bound (a := x - 25) (w := 50) h.nd fun m hm => ?_
    have := h.near m hm x List.mem_cons_self
    have := h.near x List.mem_cons_self m hm
    omega
private theorem Cl.nxt {L : Lay} (ok : LayOk L) (f25 : fullOf L ≤ 25) {ks : List Int} (h : Cl ks) : Cl (nxt L ks) := by
  have b2 := ok.b2
  refine ⟨srtI_nodup (kbA_nodup _ _ .nil), fun m hm => ?_, fun x hx y hy => ?_⟩
  · obtain ⟨k, hk, c, hc, rfl⟩ := mem_nxt.mp hm
    exact (lb_fit ok (h.n0 k hk) hc).2
  · obtain ⟨k, hk, c, hc, rfl⟩ := mem_nxt.mp hx
    obtain ⟨k', hk', c', hc', rfl⟩ := mem_nxt.mp hy
    have e1 := (lb_fit ok (h.n0 k hk) hc).1
    have e2 := (lb_fit ok (h.n0 k' hk') hc').1
    have c0 := (mem_fits ok (h.n0 k hk)).mp hc
    have c0' := (mem_fits ok (h.n0 k' hk')).mp hc'
    have nr := h.near k hk k' hk'
    by_cases z : lb L k c - lb L k' c' ≤ 25
    · exact z
    · have : L.b * 26 ≤ L.b * (lb L k c - lb L k' c') := Int.mul_le_mul_of_nonneg_left (by omega) (by omega)
      rw [Int.mul_sub, e1, e2] at this
      omega
private theorem kbA_len {L : Lay} (ok : LayOk L) (f25 : fullOf L ≤ 25) {ks : List Int} (h : Cl ks) : (kbA L ks []).length < 64 := by
  have := (h.nxt ok f25).len
  unfold Gen.nxt at this
  rw [(srtI_perm _).length_eq] at this
  omega
private theorem keys_behind_eq {L : Lay} (ok : LayOk L) (f25 : fullOf L ≤ 25) {ks : List Int} (h : Cl ks) : f_keys_behind [L.d, .l (ks.map D.i)] = some (.ac ((nxt L ks).map D.i)) := by
  have hl := h.len
  obtain ⟨y3, y4, lp⟩ := kbA_loop ok (s1 := .sh (.l (ks.map D.i))) ks [] .un .un h.n0 (by simp; omega)
  have so := sortB_eq (ds := (kbA L ks []).map fun _ => D.b true) (kbA_len ok f25 h)
  rw [show dT [] = .ad [] [] from rfl] at lp
  simp only [f_keys_behind, g_keys_behind, nxt]
  clear ok h
  walk_at "ev*"
noncomputable def rowsK : List Lay → List Int → List (List Int)
  | [], ks => [ks]
  | L :: r, ks => ks :: rowsK r (nxt L ks)
noncomputable def iD (ks : List Int) : D := .l (ks.map D.i)
private theorem keys_loop {s0 s1 : Sl} : ∀ (gr : List Lay) (ks : List Int) (acc : List D) (x4 : Sl), FrOk gr → Fr25 gr → Cl ks → acc.length + gr.length ≤ 1000 →
    ∃ y2 y4, forG (nameG 4) b_keys_of_1 (gr.map Lay.d) [s0, s1, .sh (iD ks), .ac acc, x4] = some (.nx [s0, s1, y2, .ac (acc ++ ((rowsK gr ks).tail.map iD)), y4])
  | [], ks, acc, x4, _, _, _, _ => ⟨.sh (iD ks), x4, by rw [List.map_nil, forG_nil]; simp [rowsK]⟩
  | L :: gr, ks, acc, x4, ok, f25, cl, hl => by
    have okL := ok L List.mem_cons_self
    have fL := f25 L List.mem_cons_self
    simp only [List.length_cons] at hl
    have kb := keys_behind_eq okL fL cl
    obtain ⟨y2, y4, ih⟩ := keys_loop (s0 := s0) (s1 := s1) gr (nxt L ks) (acc ++ [iD (nxt L ks)]) (.sh L.d) (fun K hK => ok K (List.mem_cons_of_mem _ hK)) (fun K hK => f25 K (List.mem_cons_of_mem _ hK)) (cl.nxt okL fL) (by simp; omega)
    refine ⟨y2, y4, ?_⟩
    have e : acc ++ ((rowsK (L :: gr) ks).tail.map iD) = acc ++ [iD (nxt L ks)] ++ ((rowsK gr (nxt L ks)).tail.map iD) := by
      cases gr <;> simp [rowsK]
    rw [e, List.map_cons, forG_step (ρ1 := [s0, s1, .sh (iD ks), .ac acc, .sh L.d]) (ρ2 := [s0, s1, .sh (iD (nxt L ks)), .ac (acc ++ [iD (nxt L ks)]), .sh L.d]) rfl (by
      simp only [b_keys_of_1]
      unfold iD
      clear ih ok f25 cl e
      walk_at "ev*"), ih]
private theorem keys_of_eq {fr : List Lay} (ok : FrOk fr) (f25 : Fr25 fr) (hl : fr.length ≤ 100) {n : Int} (n0 : 0 ≤ n) : f_keys_of [.l (fr.map Lay.d), .i n] = some (.ac ((rowsK fr [n]).map iD)) := by
  have cl : Cl [n] := ⟨by simp, by simpa using n0, by simp⟩
  obtain ⟨y2, y4, lp⟩ := keys_loop (s0 := .sh (.l (fr.map Lay.d))) (s1 := .sh (.i n)) fr [n] [iD [n]] .un ok f25 cl (by simp; omega)
  have e : [iD [n]] ++ ((rowsK fr [n]).tail.map iD) = (rowsK fr [n]).map iD := by cases fr <;> simp [rowsK]
  rw [e] at lp
  have e2 : iD [n] = .l [.i n] := rfl
  rw [e2] at lp
  simp only [f_keys_of, g_keys_of]
  clear ok f25 cl e e2
  walk_at "ev*"
end Gen
namespace Gen
open PySem L2 L3
noncomputable def oD : Option Int → D
  | none => .n
  | some v => .i v
noncomputable def cst1 (w : Nat) (L : Lay) (p : Int × Int) (m : Int → Option Int) (o : Int × Int) : Int → Option Int := fun c => if c = cnt L o then some (if (m c).getD (rp w p o) < rp w p o then (m c).getD (rp w p o) else rp w p o) else m c
noncomputable def cstA (w : Nat) (L : Lay) (p : Int × Int) (os : List (Int × Int)) (m : Int → Option Int) : Int → Option Int := os.foldl (cst1 w L p) m
noncomputable def DictIs (ks : List Key) (ds : List D) (m : Int → Option Int) : Prop := ks.length = ds.length ∧ ∀ c, valD ks ds (.inl c) = (m c).map D.i
private theorem costs_loop {w : Nat} (hw : w < 3) {L : Lay} (ok : LayOk L) {p : Int × Int} : ∀ (os : List (Int × Int)) (ks : List Key) (ds : List D) (m : Int → Option Int) (x4 x5 x6 : Sl), (∀ o ∈ os, RodOk L o) → DictIs ks ds m → ds.length + os.length < 1000000 →
    ∃ ks' ds' y4 y5 y6, DictIs ks' ds' (cstA w L p os m) ∧ forG (nameG 4) b_count_costs_1 (os.map prD) [.sh L.d, .sh (prD p), .sh (.o (cn w) [] []), .ad ks ds, x4, x5, x6] = some (.nx [.sh L.d, .sh (prD p), .sh (.o (cn w) [] []), .ad ks' ds', y4, y5, y6])
  | [], ks, ds, m, x4, x5, x6, _, hd, _ => ⟨ks, ds, x4, x5, x6, hd, rfl⟩
  | o :: os, ks, ds, m, x4, x5, x6, hr, hd, hl => by
    simp only [List.length_cons] at hl
    have ro := hr o List.mem_cons_self
    have co := count_of_eq ok ro
    obtain ⟨f, h1, h2⟩ := one_eq hw (p := p) (q := o)
    obtain ⟨ks2, ds2, e2, l2, b2, v2⟩ := putD_spec (k := .inl (cnt L o)) (d := .i (if (m (cnt L o)).getD (rp w p o) < rp w p o then (m (cnt L o)).getD (rp w p o) else rp w p o)) hd.1
    have d2 : DictIs ks2 ds2 (cst1 w L p m o) := by
      refine ⟨l2, fun c => ?_⟩
      rw [v2 (.inl c)]
      unfold cst1
      by_cases z : c = cnt L o
      · subst z; simp
      · rw [if_neg (by intro q; exact z (by injection q)), if_neg z]
        exact hd.2 c
    obtain ⟨ks', ds', y4, y5, y6, d', ih⟩ := costs_loop hw ok (p := p) os ks2 ds2 (cst1 w L p m o) (.sh (prD o)) (.sh (.i (cnt L o))) (.sh (.i (rp w p o))) (fun q hq => hr q (List.mem_cons_of_mem _ hq)) d2 (by omega)
    refine ⟨ks', ds', y4, y5, y6, d', ?_⟩
    have gv : (valD ks ds (.inl (cnt L o))).getD (.i (rp w p o)) = .i ((m (cnt L o)).getD (rp w p o)) := by
      rw [hd.2]; cases m (cnt L o) <;> rfl
    rw [List.map_cons, forG_step (ρ1 := [.sh L.d, .sh (prD p), .sh (.o (cn w) [] []), .ad ks ds, .sh (prD o), x5, x6]) (ρ2 := [.sh L.d, .sh (prD p), .sh (.o (cn w) [] []), .ad ks2 ds2, .sh (prD o), .sh (.i (cnt L o)), .sh (.i (rp w p o))]) rfl (by
      have ln : ds.length < 10000000 := by omega
      simp only [b_count_costs_1]
      clear ih ok hr hd d2 v2 hl b2 l2 d'
      generalize (m (cnt L o)).getD (rp w p o) = g at *
      generalize rp w p o = r at *
      generalize cnt L o = c at *
      generalize D.o (cn w) [] [] = pr at *
      walk_at "ev*"), ih]
private theorem cstA_some {w : Nat} {L : Lay} {p : Int × Int} {c : Int} : ∀ (os : List (Int × Int)) (m : Int → Option Int), ((m c).isSome = true ∨ ∃ o ∈ os, cnt L o = c) → (cstA w L p os m c).isSome = true
  | [], m, h => by
    rcases h with h | ⟨o, ho, _⟩
    · exact h
    · cases ho
  | o :: os, m, h => by
    refine cstA_some os (cst1 w L p m o) ?_
    rcases h with h | ⟨q, hq, e⟩
    · refine .inl ?_
      unfold cst1; split
      · rfl
      · exact h
    · rcases List.mem_cons.mp hq with rfl | hq
      · refine .inl ?_
        unfold cst1; rw [if_pos e.symm]; rfl
      · exact .inr ⟨q, hq, e⟩
noncomputable def cst (w : Nat) (L : Lay) (p : Int × Int) (c : Int) : Int := (cstA w L p (rods L) (fun _ => none) c).getD 0
private theorem count_costs_eq {w : Nat} (hw : w < 3) {L : Lay} (ok : LayOk L) {p : Int × Int} : ∃ ks ds, f_count_costs [L.d, prD p, .o (cn w) [] []] = some (.ad ks ds) ∧ ∀ c, 0 ≤ c → c ≤ fullOf L → valD ks ds (.inl c) = some (.i (cst w L p c)) := by
  have rl := rods_len ok (L.u + 1).toNat (by have := ok.u6; omega)
  have rl2 : (rods L).length ≤ 1000 := by simpa [rods] using rl
  obtain ⟨ks, ds, y4, y5, y6, d, lp⟩ := costs_loop hw ok (p := p) (rods L) [] [] (fun _ => none) .un .un .un (fun o ho => (mem_rods ok).mp ho) ⟨rfl, fun c => rfl⟩ (by simp; omega)
  have rs := rod_standings_eq ok
  refine ⟨ks, ds, ?_, fun c c0 c1 => ?_⟩
  · simp only [f_count_costs, g_count_costs]
    clear ok d rl rl2
    generalize D.o (cn w) [] [] = pr at *
    walk_at "ev*"
  · have sm : (cstA w L p (rods L) (fun _ => none) c).isSome = true := cstA_some _ _ (.inr ⟨plainOf L c, (mem_rods ok).mpr (plain_ok ok c0 c1), cnt_plain L c⟩)
    obtain ⟨v, hv⟩ := Option.isSome_iff_exists.mp sm
    rw [d.2 c, hv]
    unfold cst
    rw [hv]; rfl
noncomputable def lv1 (cost : Int → Int) (rest : Int → Option Int) (acc : Option Int) (c : Int) : Option Int := match rest c with
  | none => acc
  | some r => match acc with
    | none => some (cost c + r)
    | some a => if cost c + r < a then some (cost c + r) else some a
noncomputable def lvA (cost : Int → Int) (rest : Int → Option Int) (cs : List Int) (acc : Option Int) : Option Int := cs.foldl (lv1 cost rest) acc
private theorem lv_loop {L : Lay} (ok : LayOk L) {n : Int} {cks : List Key} {cds : List D} {cost : Int → Int} {bk : List Int} {bf : Int → Option Int} : ∀ (cs : List Int) (acc : Option Int) (x5 x6 : Sl), (∀ c ∈ cs, valD cks cds (.inl c) = some (.i (cost c)) ∧ lb L n c ∈ bk) →
    ∃ y5 y6, forG (nameG 5) b_least_value_1 (cs.map D.i) [.sh L.d, .sh (.i n), .sh (.d cks cds), .sh (.d (bk.map Sum.inl) (bk.map fun m => oD (bf m))), .sh (oD acc), x5, x6] =
      some (.nx [.sh L.d, .sh (.i n), .sh (.d cks cds), .sh (.d (bk.map Sum.inl) (bk.map fun m => oD (bf m))), .sh (oD (lvA cost (fun c => bf (lb L n c)) cs acc)), y5, y6])
  | [], acc, x5, x6, _ => ⟨x5, x6, rfl⟩
  | c :: cs, acc, x5, x6, hc => by
    obtain ⟨h1, h2⟩ := hc c List.mem_cons_self
    obtain ⟨y5, y6, ih⟩ := lv_loop ok (n := n) (cks := cks) (cds := cds) (cost := cost) (bk := bk) (bf := bf) cs (lv1 cost (fun c => bf (lb L n c)) acc c) (.sh (.i c)) (.sh (oD (bf (lb L n c)))) fun q hq => hc q (List.mem_cons_of_mem _ hq)
    refine ⟨y5, y6, ?_⟩
    have le := left_behind_eq ok n c
    have ix := ixA_d (f := fun m => oD (bf m)) h2
    have ic : ixA (.d cks cds) (.i c) = some (.sh (.i (cost c))) := by
      show (valD cks cds (.inl c)).map Sl.sh = _
      rw [h1]; rfl
    rw [List.map_cons, forG_step (ρ1 := [.sh L.d, .sh (.i n), .sh (.d cks cds), .sh (.d (bk.map Sum.inl) (bk.map fun m => oD (bf m))), .sh (oD acc), .sh (.i c), x6])
      (ρ2 := [.sh L.d, .sh (.i n), .sh (.d cks cds), .sh (.d (bk.map Sum.inl) (bk.map fun m => oD (bf m))), .sh (oD (lv1 cost (fun c => bf (lb L n c)) acc c)), .sh (.i c), .sh (oD (bf (lb L n c)))]) rfl (by
      simp only [b_least_value_1]
      clear ih ok hc h1 h2
      generalize D.d (bk.map Sum.inl) (bk.map fun m => oD (bf m)) = bd at *
      generalize D.d cks cds = cd at *
      unfold lv1
      dsimp only
      generalize lb L n c = m at *
      cases hb : bf m with
      | none =>
        rw [hb] at ix
        simp only [oD] at *
        walk_at "ev*"
      | some r =>
        rw [hb] at ix
        cases acc with
        | none =>
          simp only [oD] at *
          walk_at "ev*"
        | some a =>
          simp only [oD] at *
          by_cases z : cost c + r < a
          · have hz : decide (cost c + r < a) = true := decide_eq_true z
            rw [if_pos z]
            clear z
            walk_at "ev*"
          · have hz : decide (cost c + r < a) = false := decide_eq_false z
            rw [if_neg z]
            clear z
            walk_at "ev*"), ih]
    rfl
private theorem least_value_eq {L : Lay} (ok : LayOk L) {n : Int} (n0 : 0 ≤ n) {cks : List Key} {cds : List D} {cost : Int → Int} {bk : List Int} {bf : Int → Option Int} (hc : ∀ c, 0 ≤ c → c ≤ fullOf L → valD cks cds (.inl c) = some (.i (cost c))) (hb : ∀ c ∈ fits L n, lb L n c ∈ bk) :
    f_least_value [L.d, .i n, .d cks cds, .d (bk.map Sum.inl) (bk.map fun m => oD (bf m))] = some (.sh (oD (lvA cost (fun c => bf (lb L n c)) (fits L n) none))) := by
  obtain ⟨y5, y6, lp⟩ := lv_loop ok (n := n) (cks := cks) (cds := cds) (cost := cost) (bk := bk) (bf := bf) (fits L n) none .un .un fun c h => by
    have m := (mem_fits ok n0).mp h
    exact ⟨hc c m.1 m.2.2.1, hb c h⟩
  have fc := fitting_counts_eq ok n0
  rw [show oD none = .n from rfl] at lp
  simp only [f_least_value, g_least_value]
  clear ok hc hb
  generalize D.d (bk.map Sum.inl) (bk.map fun m => oD (bf m)) = bd at *
  generalize D.d cks cds = cd at *
  walk_at "ev*"
noncomputable def V (w : Nat) : List Lay → List (Int × Int) → Int → Option Int
  | L :: gr, p :: st, n => lvA (cst w L p) (fun c => V w gr st (lb L n c)) (fits L n) none
  | _, _, n => if n = 0 then some 0 else none
noncomputable def dV (f : Int → Option Int) (ks : List Int) : D := .d (ks.map Sum.inl) (ks.map fun m => oD (f m))
private theorem values_at_eq {L : Lay} (ok : LayOk L) {cks : List Key} {cds : List D} {cost : Int → Int} {bf : Int → Option Int} {ks bk : List Int} (cl : Cl ks) (hc : ∀ c, 0 ≤ c → c ≤ fullOf L → valD cks cds (.inl c) = some (.i (cost c))) (hb : ∀ k ∈ ks, ∀ c ∈ fits L k, lb L k c ∈ bk) :
    f_values_at [L.d, .l (ks.map D.i), .d cks cds, dV bf bk] = some (.ad (ks.map Sum.inl) (ks.map fun m => oD (lvA cost (fun c => bf (lb L m c)) (fits L m) none))) := by
  have hl := cl.len
  obtain ⟨ρ', lp, y5, rfl⟩ := forG_inv (enc := D.i) (h := nameG 5) (g := b_values_at_1) (xs := ks) (ρ := [.sh L.d, .sh (.l (ks.map D.i)), .sh (.d cks cds), .sh (dV bf bk), .ad [] [], .un])
    (fun i ρ => ∃ y5, ρ = [.sh L.d, .sh (.l (ks.map D.i)), .sh (.d cks cds), .sh (dV bf bk), .ad ((ks.take i).map Sum.inl) ((ks.take i).map fun m => oD (lvA cost (fun c => bf (lb L m c)) (fits L m) none)), y5]) ⟨_, rfl⟩ fun i k ρ hi zq9 => by
      obtain ⟨y5, e⟩ := zq9
      subst e
      have km := List.mem_of_getElem? hi
      have hlt : i < ks.length := (List.getElem?_eq_some_iff.mp hi).1
      have le := least_value_eq ok (cl.n0 k km) (bf := bf) hc (hb k km)
      have nm : k ∉ ks.take i := by
        intro z
        obtain ⟨j, hj, e⟩ := List.getElem_of_mem z
        rw [List.length_take] at hj
        rw [List.getElem_take] at e
        obtain ⟨_, e2⟩ := List.getElem?_eq_some_iff.mp hi
        have := (List.getElem_inj cl.nd).mp (e.trans e2.symm)
        omega
      have pi := putI (f := fun m => oD (lvA cost (fun c => bf (lb L m c)) (fits L m) none)) nm
      have tk : ks.take i ++ [k] = ks.take (i + 1) := by
        rw [List.take_succ, hi]; rfl
      rw [tk] at pi
      refine ⟨_, [.sh L.d, .sh (.l (ks.map D.i)), .sh (.d cks cds), .sh (dV bf bk), .ad ((ks.take (i + 1)).map Sum.inl) ((ks.take (i + 1)).map fun m => oD (lvA cost (fun c => bf (lb L m c)) (fits L m) none)), .sh (.i k)], rfl, ?_, _, rfl⟩
      have ln : ((ks.take i).map fun m => oD (lvA cost (fun c => bf (lb L m c)) (fits L m) none)).length < 10000000 := by rw [List.length_map, List.length_take]; omega
      rw [← pi]
      simp only [b_values_at_1, dV]
      clear ok cl hc hb pi tk nm hi km
      generalize lvA cost (fun c => bf (lb L k c)) (fits L k) none = v at *
      generalize (ks.take i).map (fun m => oD (lvA cost (fun c => bf (lb L m c)) (fits L m) none)) = ds at *
      generalize (ks.take i).map (Sum.inl : Int → Key) = kk at *
      cases v with
      | none =>
        simp only [oD] at *
        walk_at "ev*"
      | some v =>
        simp only [oD] at *
        walk_at "ev*"
  rw [List.take_of_length_le (Nat.le_refl _)] at lp
  simp only [f_values_at, g_values_at]
  clear ok cl hc hb
  generalize dV bf bk = bd at *
  generalize D.d cks cds = cd at *
  walk_at "ev*"
private theorem values_behind_eq {ks : List Int} (cl : Cl ks) : f_values_behind [.l (ks.map D.i)] = some (.ad (ks.map Sum.inl) (ks.map fun m => oD (if m = 0 then some 0 else none))) := by
  have hl := cl.len
  obtain ⟨ρ', lp, y2, rfl⟩ := forG_inv (enc := D.i) (h := nameG 2) (g := b_values_behind_1) (xs := ks) (ρ := [.sh (.l (ks.map D.i)), .ad [] [], .un])
    (fun i ρ => ∃ y2, ρ = [.sh (.l (ks.map D.i)), .ad ((ks.take i).map Sum.inl) ((ks.take i).map fun m => oD (if m = 0 then some 0 else none)), y2]) ⟨_, rfl⟩ fun i k ρ hi zq9 => by
      obtain ⟨y2, e⟩ := zq9
      subst e
      have hlt : i < ks.length := (List.getElem?_eq_some_iff.mp hi).1
      have nm : k ∉ ks.take i := by
        intro z
        obtain ⟨j, hj, e⟩ := List.getElem_of_mem z
        rw [List.length_take] at hj
        rw [List.getElem_take] at e
        obtain ⟨_, e2⟩ := List.getElem?_eq_some_iff.mp hi
        have := (List.getElem_inj cl.nd).mp (e.trans e2.symm)
        omega
      have pi := putI (f := fun m => oD (if m = 0 then some 0 else none)) nm
      have tk : ks.take i ++ [k] = ks.take (i + 1) := by
        rw [List.take_succ, hi]; rfl
      rw [tk] at pi
      refine ⟨_, [.sh (.l (ks.map D.i)), .ad ((ks.take (i + 1)).map Sum.inl) ((ks.take (i + 1)).map fun m => oD (if m = 0 then some 0 else none)), .sh (.i k)], rfl, ?_, _, rfl⟩
      have ln : ((ks.take i).map fun m => oD (if m = 0 then some 0 else none)).length < 10000000 := by rw [List.length_map, List.length_take]; omega
      rw [← pi]
      simp only [b_values_behind_1]
      clear cl pi tk nm hi
      generalize (ks.take i).map (fun m => oD (if m = 0 then some 0 else none)) = ds at *
      generalize (ks.take i).map (Sum.inl : Int → Key) = kk at *
      by_cases z : k = 0
      · have hz : (k == 0) = true := beq_iff_eq.mpr z
        rw [if_pos z]
        simp only [oD]
        clear z
        walk_at "ev*"
      · have hz : (k == 0) = false := beq_eq_false_iff_ne.mpr z
        rw [if_neg z]
        simp only [oD]
        clear z
        walk_at "ev*"
  rw [List.take_of_length_le (Nat.le_refl _)] at lp
  simp only [f_values_behind, g_values_behind]
  clear cl
  walk_at "ev*"
end Gen
namespace Gen
open PySem L2 L3
private theorem down_step {n : Nat} (h1 : 1 ≤ n) (h2 : n ≤ 100) : Builtin.Range.small ((n : Int) - 1) (-1) (-1) = true ∧ (Builtin.Range.rangeSize ((n : Int) - 1) (-1) (-1)).toNat = n := by
  have e : Builtin.Range.rangeSize ((n : Int) - 1) (-1) (-1) = n := by
    unfold Builtin.Range.rangeSize
    rw [if_neg (by decide)]
    by_cases z : (n : Int) - 1 > -1
    · rw [if_pos z]
      rw [show (- -1 : Int) = 1 by decide, Int.ediv_one]; omega
    · omega
  refine ⟨?_, by rw [e]; omega⟩
  unfold Builtin.Range.small
  rw [e]
  simp only [Builtin.Range.rangeFitsLong, Bool.and_eq_true, Bool.or_eq_true, decide_eq_true_eq, beq_iff_eq, show ¬ (-1 : Int) > 0 by decide, if_false]
  omega
private theorem down_items {n : Nat} (h1 : 1 ≤ n) (h2 : n ≤ 100) : (if (-1 : Int) ≠ 0 ∧ (-1 : Int).natAbs < 1073741824 ∧ Builtin.Range.small ((n : Int) - 1) (-1) (-1) = true then some ((List.range (Builtin.Range.rangeSize ((n : Int) - 1) (-1) (-1)).toNat).map fun k => D.i ((n : Int) - 1 + (k : Nat) * (-1))) else none) = some ((List.range n).map fun k : Nat => D.i ((n : Int) - 1 + (k : Nat) * (-1))) := by
  obtain ⟨s1, s2⟩ := down_step h1 h2
  rw [if_pos ⟨by decide, by decide, s1⟩, s2]
end Gen
namespace Gen
open PySem L2 L3
noncomputable def rowK (fr : List Lay) (n : Int) (j : Nat) : List Int := (rowsK fr [n]).getD j []
private theorem rowsK_len : ∀ (fr : List Lay) (ks : List Int), (rowsK fr ks).length = fr.length + 1
  | [], _ => rfl
  | _ :: r, ks => by simp [rowsK, rowsK_len r]
private theorem rowsK_step : ∀ (fr : List Lay) (ks : List Int) (j : Nat) (L : Lay), fr[j]? = some L → (rowsK fr ks).getD (j + 1) [] = nxt L ((rowsK fr ks).getD j [])
  | [], _, _, _, h => by simp at h
  | K :: r, ks, 0, L, h => by
    simp at h; subst h
    cases r <;> simp [rowsK]
  | K :: r, ks, j + 1, L, h => by
    have := rowsK_step r (nxt K ks) j L (by simpa using h)
    simpa [rowsK] using this
private theorem rowK_0 {fr : List Lay} {n : Int} : rowK fr n 0 = [n] := by cases fr <;> simp [rowK, rowsK]
private theorem rowK_cl {fr : List Lay} (ok : FrOk fr) (f25 : Fr25 fr) {n : Int} (n0 : 0 ≤ n) : ∀ j, j ≤ fr.length → Cl (rowK fr n j)
  | 0, _ => by rw [rowK_0]; exact ⟨by simp, by simpa using n0, by simp⟩
  | j + 1, h => by
    have hL := List.getElem?_eq_getElem (show j < fr.length by omega)
    unfold rowK
    rw [rowsK_step fr [n] j _ hL]
    exact (rowK_cl ok f25 n0 j (by omega)).nxt (ok _ (List.mem_of_getElem? hL)) (f25 _ (List.mem_of_getElem? hL))
private theorem rowK_ix {fr : List Lay} {n : Int} {j : Nat} (h : j ≤ fr.length) : ixA (.l ((rowsK fr [n]).map iD)) (.i (j : Nat)) = some (.sh (iD (rowK fr n j))) := ixA_map (by omega) (by
  have : j < (rowsK fr [n]).length := by rw [rowsK_len]; omega
  rw [Int.toNat_natCast, List.getElem?_eq_getElem this]
  unfold rowK
  rw [List.getD_eq_getElem?_getD, List.getElem?_eq_getElem this]; rfl)
noncomputable def tab (w : Nat) (fr : List Lay) (st : List (Int × Int)) (n : Int) (j : Nat) : D := dV (V w (fr.drop j) (st.drop j)) (rowK fr n j)
private theorem V_last {w : Nat} {m : Int} : V w [] [] m = if m = 0 then some 0 else none := by simp [V]
private theorem table_step {w : Nat} (hw : w < 3) {fr : List Lay} {st : List (Int × Int)} (ok : FrOk fr) (f25 : Fr25 fr) (so : StOk fr st) {n : Int} (n0 : 0 ≤ n) {j : Nat} (hj : j < fr.length) {acc : List D} (ha : acc.length ≤ 1000) {k5 x8 : Sl} (h5 : k5 = .sh (tab w fr st n (j + 1))) :
    ∃ y8, b_table_of_1 [.sh (.l (fr.map Lay.d)), .sh (.l (st.map prD)), .sh (.i n), .sh (.o (cn w) [] []), .sh (.l ((rowsK fr [n]).map iD)), k5, .ac acc, .sh (.i (j : Nat)), x8] =
      some (.nx [.sh (.l (fr.map Lay.d)), .sh (.l (st.map prD)), .sh (.i n), .sh (.o (cn w) [] []), .sh (.l ((rowsK fr [n]).map iD)), .sh (tab w fr st n j), .ac (acc ++ [tab w fr st n j]), .sh (.i (j : Nat)), y8]) := by
  subst h5
  have hj' : j < st.length := by rw [so.length]; exact hj
  have hL := List.getElem?_eq_getElem hj
  have hp := List.getElem?_eq_getElem hj'
  have dL : fr.drop j = fr[j] :: fr.drop (j + 1) := List.drop_eq_getElem_cons hj
  have dp : st.drop j = st[j] :: st.drop (j + 1) := List.drop_eq_getElem_cons hj'
  generalize fr[j] = L at *
  generalize st[j] = p at *
  have okL := ok L (List.mem_of_getElem? hL)
  have ixf : ixA (.l (fr.map Lay.d)) (.i (j : Nat)) = some (.sh L.d) := ixA_map (by omega) (by simpa using hL)
  have ixs : ixA (.l (st.map prD)) (.i (j : Nat)) = some (.sh (prD p)) := ixA_map (by omega) (by simpa using hp)
  have ixk : ixA (.l ((rowsK fr [n]).map iD)) (.i (j : Nat)) = some (.sh (.l ((rowK fr n j).map D.i))) := rowK_ix (by omega)
  obtain ⟨cks, cds, cc, cv⟩ := count_costs_eq hw okL (p := p)
  have va := values_at_eq okL (bf := V w (fr.drop (j + 1)) (st.drop (j + 1))) (ks := rowK fr n j) (bk := rowK fr n (j + 1)) (rowK_cl ok f25 n0 j (by omega)) cv (fun k hk c hc => by
    unfold rowK
    rw [rowsK_step fr [n] j L hL]
    exact mem_nxt.mpr ⟨k, hk, c, hc, rfl⟩)
  have te : tab w fr st n j = .d ((rowK fr n j).map Sum.inl) ((rowK fr n j).map fun m => oD (lvA (cst w L p) (fun c => V w (fr.drop (j + 1)) (st.drop (j + 1)) (lb L m c)) (fits L m) none)) := by
    unfold tab dV
    rw [dL, dp]; rfl
  have tn : dV (V w (fr.drop (j + 1)) (st.drop (j + 1))) (rowK fr n (j + 1)) = tab w fr st n (j + 1) := rfl
  rw [tn] at va
  refine ⟨.sh (.d cks cds), ?_⟩
  rw [te]
  generalize tab w fr st n (j + 1) = t1 at *
  generalize (rowK fr n j).map (fun m => oD (lvA (cst w L p) (fun c => V w (fr.drop (j + 1)) (st.drop (j + 1)) (lb L m c)) (fits L m) none)) = ds at *
  generalize hk : (rowK fr n j).map (Sum.inl : Int → Key) = kk at *
  simp only [b_table_of_1]
  have ln : acc.length < 10000000 := by omega
  clear ok f25 so te tn cv hL hp dL dp okL hk
  generalize D.o (cn w) [] [] = pr at *
  walk_at "ev*"
private theorem rev_down {f : Nat → D} {n : Nat} : ((List.range (n + 1)).map fun i => f (n - i)).reverse = (List.range (n + 1)).map f := by
  apply List.ext_getElem
  · simp
  · intro i h1 h2
    simp at h1 h2
    rw [List.getElem_reverse]
    simp
    congr 1
    omega
private theorem down_idx {N i : Nat} (h : i < N) : (N : Int) - 1 + (i : Nat) * (-1) = ((N - 1 - i : Nat) : Int) ∧ N - 1 - i < N ∧ N - 1 - i + 1 = N - i ∧ N - (i + 1) = N - 1 - i := by
  omega
private theorem table_of_eq {w : Nat} (hw : w < 3) {fr : List Lay} {st : List (Int × Int)} (ok : FrOk fr) (f25 : Fr25 fr) (so : StOk fr st) (h1 : 1 ≤ fr.length) (hl : fr.length ≤ 20) {n : Int} (n0 : 0 ≤ n) :
    f_table_of [.l (fr.map Lay.d), .l (st.map prD), .i n, .o (cn w) [] []] = some (.ac ((List.range (fr.length + 1)).map (tab w fr st n))) := by
  have h100 : fr.length ≤ 100 := Nat.le_trans hl (by decide)
  have ko := keys_of_eq ok f25 h100 n0
  have vb := values_behind_eq (rowK_cl ok f25 n0 fr.length (Nat.le_refl _))
  have ixk : ixA (.l ((rowsK fr [n]).map iD)) (.i (fr.length : Nat)) = some (.sh (.l ((rowK fr n fr.length).map D.i))) := rowK_ix (Nat.le_refl _)
  have te : tab w fr st n fr.length = .d ((rowK fr n fr.length).map Sum.inl) ((rowK fr n fr.length).map fun m => oD (if m = 0 then some 0 else none)) := by
    unfold tab dV
    rw [List.drop_length, ← so.length, List.drop_length]
    simp only [V_last]
  obtain ⟨ρ', lp, y5, y7, y8, rfl, _⟩ := forG_inv (enc := fun k : Nat => D.i ((fr.length : Int) - 1 + (k : Nat) * (-1))) (h := nameG 7) (g := b_table_of_1) (xs := List.range fr.length) (ρ := [.sh (.l (fr.map Lay.d)), .sh (.l (st.map prD)), .sh (.i n), .sh (.o (cn w) [] []), .sh (.l ((rowsK fr [n]).map iD)), .sh (tab w fr st n fr.length), .ac [tab w fr st n fr.length], .un, .un])
    (fun i ρ => ∃ y5 y7 y8, ρ = [.sh (.l (fr.map Lay.d)), .sh (.l (st.map prD)), .sh (.i n), .sh (.o (cn w) [] []), .sh (.l ((rowsK fr [n]).map iD)), y5, .ac ((List.range (i + 1)).map fun k => tab w fr st n (fr.length - k)), y7, y8] ∧ y5 = .sh (tab w fr st n (fr.length - i))) ⟨_, _, _, rfl, rfl⟩ fun i k ρ hk zq9 => by
      obtain ⟨y5, y7, y8, e, h5⟩ := zq9
      subst e
      obtain ⟨q1, q2⟩ := List.getElem?_eq_some_iff.mp hk
      simp at q1 q2
      subst q2
      obtain ⟨ek, k1, k2, e1⟩ := down_idx q1
      obtain ⟨z8, s⟩ := table_step hw ok f25 so n0 (j := fr.length - 1 - i) k1 (acc := (List.range (i + 1)).map fun k => tab w fr st n (fr.length - k)) (by rw [List.length_map, List.length_range]; exact Nat.le_trans q1 (Nat.le_trans hl (by decide))) (k5 := y5) (x8 := y8) (by rw [h5, k2])
      rw [ek]
      refine ⟨_, _, rfl, s, .sh (tab w fr st n (fr.length - 1 - i)), .sh (.i ((fr.length - 1 - i : Nat) : Int)), z8, ?_, by rw [e1]⟩
      rw [List.range_succ (n := i + 1), List.map_append, List.map_singleton, e1]
  rw [List.length_range] at lp
  have hi := down_items h1 h100
  have rv := rev_down (f := tab w fr st n) (n := fr.length)
  rw [te] at lp
  simp only [f_table_of, g_table_of]
  clear ok f25 so
  generalize D.o (cn w) [] [] = pr at *
  walk_at "ev*"
end Gen
namespace Gen
open PySem L2 L3
private theorem tab_ix {w : Nat} {fr : List Lay} {st : List (Int × Int)} {n : Int} {j : Nat} {m : Int} (h : m ∈ rowK fr n j) : ixA (tab w fr st n j) (.i m) = some (.sh (oD (V w (fr.drop j) (st.drop j) m))) := ixA_d (f := fun m => oD (V w (fr.drop j) (st.drop j) m)) h
end Gen
namespace Gen
open PySem L2 L3
noncomputable def off1 (w : Nat) (L : Lay) (p : Int × Int) (n : Int) (bf : Int → Option Int) (o : Int × Int) : Option T3 := if cnt L o ∈ fits L n then (bf (lb L n (cnt L o))).map fun r => (rp w p o + r, o.1, o.2) else none
noncomputable def offs (w : Nat) (L : Lay) (p : Int × Int) (n : Int) (bf : Int → Option Int) (os : List (Int × Int)) : List T3 := os.filterMap (off1 w L p n bf)
private theorem offer_loop {w : Nat} (hw : w < 3) {L : Lay} (ok : LayOk L) {p : Int × Int} {n : Int} {bf : Int → Option Int} {bk : List Int} (hb : ∀ c ∈ fits L n, lb L n c ∈ bk) : ∀ (os : List (Int × Int)) (acc : List T3) (s5 x7 x8 x9 : Sl), s5.vw = .sh (.l ((fits L n).map D.i)) → (∀ o ∈ os, RodOk L o) → acc.length + os.length ≤ 100000 →
    ∃ y5 y7 y8 y9, forG (nameG 7) b_least_offer_1 (os.map prD) [.sh L.d, .sh (prD p), .sh (.o (cn w) [] []), .sh (.i n), .sh (dV bf bk), s5, .ac (acc.map triD), x7, x8, x9] =
      some (.nx [.sh L.d, .sh (prD p), .sh (.o (cn w) [] []), .sh (.i n), .sh (dV bf bk), y5, .ac ((acc ++ offs w L p n bf os).map triD), y7, y8, y9])
  | [], acc, s5, x7, x8, x9, _, _, _ => ⟨s5, x7, x8, x9, by rw [List.map_nil, forG_nil]; simp [offs]⟩
  | o :: os, acc, s5, x7, x8, x9, h5, hr, hl => by
    simp only [List.length_cons] at hl
    have ro := hr o List.mem_cons_self
    have co := count_of_eq ok ro
    obtain ⟨f, h1, h2⟩ := one_eq hw (p := p) (q := o)
    have le := left_behind_eq ok n (cnt L o)
    have io := intsOf_map (fits L n)
    have ln : (acc.map triD).length < 10000000 := by rw [List.length_map]; omega
    by_cases hc : cnt L o ∈ fits L n
    · have hct : (fits L n).contains (cnt L o) = true := by simpa using hc
      have ix := ixA_d (f := fun m => oD (bf m)) (hb _ hc)
      change ixA (dV bf bk) (.i (lb L n (cnt L o))) = _ at ix
      cases hv : bf (lb L n (cnt L o)) with
      | none =>
        have eo : off1 w L p n bf o = none := by unfold off1; rw [if_pos hc, hv]; rfl
        obtain ⟨y5, y7, y8, y9, ih⟩ := offer_loop hw ok (p := p) hb os acc (.sh (.l ((fits L n).map D.i))) (.sh (prD o)) (.sh (.i (cnt L o))) (.sh .n) rfl (fun q hq => hr q (List.mem_cons_of_mem _ hq)) (by omega)
        refine ⟨y5, y7, y8, y9, ?_⟩
        rw [hv] at ix
        have e : offs w L p n bf (o :: os) = offs w L p n bf os := by unfold offs; rw [List.filterMap_cons_none eo]
        rw [e, List.map_cons, forG_step (ρ1 := [.sh L.d, .sh (prD p), .sh (.o (cn w) [] []), .sh (.i n), .sh (dV bf bk), s5, .ac (acc.map triD), .sh (prD o), x8, x9])
          (ρ2 := [.sh L.d, .sh (prD p), .sh (.o (cn w) [] []), .sh (.i n), .sh (dV bf bk), .sh (.l ((fits L n).map D.i)), .ac (acc.map triD), .sh (prD o), .sh (.i (cnt L o)), .sh .n]) rfl (by
          simp only [b_least_offer_1, oD] at *
          clear ih ok hr hb hc eo e hl
          generalize dV bf bk = bd at *
          generalize D.o (cn w) [] [] = pr at *
          generalize rp w p o = r at *
          generalize cnt L o = c at *
          generalize lb L n c = m at *
          generalize fits L n = fs at *
          walk_at "ev*"), ih]
      | some r =>
        have eo : off1 w L p n bf o = some (rp w p o + r, o.1, o.2) := by unfold off1; rw [if_pos hc, hv]; rfl
        obtain ⟨y5, y7, y8, y9, ih⟩ := offer_loop hw ok (p := p) hb os (acc ++ [(rp w p o + r, o.1, o.2)]) (.sh (.l ((fits L n).map D.i))) (.sh (prD o)) (.sh (.i (cnt L o))) (.sh (.i r)) rfl (fun q hq => hr q (List.mem_cons_of_mem _ hq)) (by simp; omega)
        refine ⟨y5, y7, y8, y9, ?_⟩
        rw [hv] at ix
        have e : acc ++ offs w L p n bf (o :: os) = acc ++ [(rp w p o + r, o.1, o.2)] ++ offs w L p n bf os := by unfold offs; rw [List.filterMap_cons_some eo]; simp
        rw [e, List.map_cons, forG_step (ρ1 := [.sh L.d, .sh (prD p), .sh (.o (cn w) [] []), .sh (.i n), .sh (dV bf bk), s5, .ac (acc.map triD), .sh (prD o), x8, x9])
          (ρ2 := [.sh L.d, .sh (prD p), .sh (.o (cn w) [] []), .sh (.i n), .sh (dV bf bk), .sh (.l ((fits L n).map D.i)), .ac ((acc ++ [(rp w p o + r, o.1, o.2)]).map triD), .sh (prD o), .sh (.i (cnt L o)), .sh (.i r)]) rfl (by
          have te : (acc ++ [(rp w p o + r, o.1, o.2)]).map triD = acc.map triD ++ [.t [.i (rp w p o + r), prD o]] := by rw [List.map_append]; rfl
          rw [te]
          simp only [b_least_offer_1, oD] at *
          clear ih ok hr hb hc eo e hl te
          generalize acc.map triD = ac at *
          generalize dV bf bk = bd at *
          generalize D.o (cn w) [] [] = pr at *
          generalize rp w p o = q at *
          generalize cnt L o = c at *
          generalize lb L n c = m at *
          generalize fits L n = fs at *
          generalize prD o = od at *
          walk_at "ev*"), ih]
    · have hct : (fits L n).contains (cnt L o) = false := by simpa using hc
      have eo : off1 w L p n bf o = none := by unfold off1; rw [if_neg hc]
      obtain ⟨y5, y7, y8, y9, ih⟩ := offer_loop hw ok (p := p) hb os acc (.sh (.l ((fits L n).map D.i))) (.sh (prD o)) (.sh (.i (cnt L o))) (.sh .n) rfl (fun q hq => hr q (List.mem_cons_of_mem _ hq)) (by omega)
      refine ⟨y5, y7, y8, y9, ?_⟩
      have e : offs w L p n bf (o :: os) = offs w L p n bf os := by unfold offs; rw [List.filterMap_cons_none eo]
      rw [e, List.map_cons, forG_step (ρ1 := [.sh L.d, .sh (prD p), .sh (.o (cn w) [] []), .sh (.i n), .sh (dV bf bk), s5, .ac (acc.map triD), .sh (prD o), x8, x9])
        (ρ2 := [.sh L.d, .sh (prD p), .sh (.o (cn w) [] []), .sh (.i n), .sh (dV bf bk), .sh (.l ((fits L n).map D.i)), .ac (acc.map triD), .sh (prD o), .sh (.i (cnt L o)), .sh .n]) rfl (by
        simp only [b_least_offer_1]
        clear ih ok hr hb hc eo e hl
        generalize dV bf bk = bd at *
        generalize D.o (cn w) [] [] = pr at *
        generalize rp w p o = r at *
        generalize cnt L o = c at *
        generalize fits L n = fs at *
        walk_at "ev*"), ih]
private theorem least_offer_eq {w : Nat} (hw : w < 3) {L : Lay} (ok : LayOk L) {p : Int × Int} {n : Int} (n0 : 0 ≤ n) {bf : Int → Option Int} {bk : List Int} (hb : ∀ c ∈ fits L n, lb L n c ∈ bk) {x : T3} {r : List T3} (ho : offs w L p n bf (rods L) = x :: r) :
    f_least_offer [L.d, prD p, .o (cn w) [] [], .i n, dV bf bk] = some (.sh (prD (best x r).2)) := by
  have rl := rods_len ok (L.u + 1).toNat (by have := ok.u6; omega)
  have rl2 : (rods L).length ≤ 1000 := by simpa [rods] using rl
  obtain ⟨y5, y7, y8, y9, lp⟩ := offer_loop hw ok (p := p) hb (rods L) [] (.ac ((fits L n).map D.i)) .un .un .un rfl (fun o ho => (mem_rods ok).mp ho) (by simp; omega)
  rw [List.nil_append, List.map_nil, ho] at lp
  have rs := rod_standings_eq ok
  have fc := fitting_counts_eq ok n0
  have mt : minT [.l ((x :: r).map triD)] = some (.sh (triD (best x r))) := by
    unfold minT
    simp only [trisOf_map]
  have ix : ixA (triD (best x r)) (.i 1) = some (.sh (prD (best x r).2)) := rfl
  simp only [f_least_offer, g_least_offer]
  clear ok hb ho rl rl2
  generalize dV bf bk = bd at *
  generalize D.o (cn w) [] [] = pr at *
  generalize triD (best x r) = tb at *
  generalize (x :: r).map triD = xs at *
  generalize prD (best x r).2 = po at *
  walk_at "ev*"
end Gen
namespace Gen
open PySem L2 L3
private theorem lvA_spec {cost : Int → Int} {rest : Int → Option Int} : ∀ (cs : List Int) (acc : Option Int), (lvA cost rest cs acc = none ↔ acc = none ∧ ∀ c ∈ cs, rest c = none) ∧
    ∀ v, lvA cost rest cs acc = some v → (acc = some v ∨ ∃ c ∈ cs, ∃ r, rest c = some r ∧ v = cost c + r) ∧ (∀ a, acc = some a → v ≤ a) ∧ ∀ c ∈ cs, ∀ r, rest c = some r → v ≤ cost c + r
  | [], acc => by
    show (acc = none ↔ _) ∧ ∀ v, acc = some v → _
    refine ⟨by simp, fun v h => ⟨.inl h, fun a ha => ?_, by simp⟩⟩
    rw [h] at ha; cases ha; exact Int.le_refl _
  | c :: cs, acc => by
    obtain ⟨i1, i2⟩ := lvA_spec (cost := cost) (rest := rest) cs (lv1 cost rest acc c)
    show (lvA cost rest cs (lv1 cost rest acc c) = none ↔ _) ∧ ∀ v, lvA cost rest cs (lv1 cost rest acc c) = some v → _
    cases hr : rest c with
    | none =>
      have e : lv1 cost rest acc c = acc := by unfold lv1; rw [hr]
      rw [e] at i1 i2 ⊢
      refine ⟨by rw [i1]; simp [hr], fun v h => ?_⟩
      obtain ⟨j1, j2, j3⟩ := i2 v h
      refine ⟨?_, j2, fun d hd r hr' => ?_⟩
      · rcases j1 with j | ⟨d, hd, r, z⟩
        · exact .inl j
        · exact .inr ⟨d, List.mem_cons_of_mem _ hd, r, z⟩
      · rcases List.mem_cons.mp hd with rfl | hd
        · rw [hr] at hr'; cases hr'
        · exact j3 d hd r hr'
    | some r =>
      obtain ⟨m, hm, m1, m2, m3⟩ : ∃ m, lv1 cost rest acc c = some m ∧ m ≤ cost c + r ∧ (∀ a, acc = some a → m ≤ a) ∧ (acc = some m ∨ m = cost c + r) := by
        unfold lv1
        rw [hr]
        cases acc with
        | none => exact ⟨_, rfl, Int.le_refl _, by simp, .inr rfl⟩
        | some a =>
          dsimp only
          split
          · exact ⟨_, rfl, Int.le_refl _, by intro a' h; cases h; omega, .inr rfl⟩
          · exact ⟨a, rfl, by omega, by intro a' h; cases h; omega, .inl rfl⟩
      rw [hm] at i1 i2 ⊢
      refine ⟨?_, fun v h => ?_⟩
      · rw [i1]; simp [hr]
      · obtain ⟨j1, j2, j3⟩ := i2 v h
        have vm := j2 m rfl
        refine ⟨?_, fun a ha => Int.le_trans vm (m2 a ha), fun d hd r' hr' => ?_⟩
        · rcases j1 with j | ⟨d, hd, r', z⟩
          · cases j
            rcases m3 with q | q
            · exact .inl q
            · exact .inr ⟨c, List.mem_cons_self, r, hr, q⟩
          · exact .inr ⟨d, List.mem_cons_of_mem _ hd, r', z⟩
        · rcases List.mem_cons.mp hd with rfl | hd
          · rw [hr] at hr'; cases hr'; omega
          · exact j3 d hd r' hr'
private theorem cstA_spec {w : Nat} {L : Lay} {p : Int × Int} {c : Int} : ∀ (os : List (Int × Int)) (m : Int → Option Int) (v : Int), cstA w L p os m c = some v → (m c = some v ∨ ∃ o ∈ os, cnt L o = c ∧ v = rp w p o) ∧ (∀ a, m c = some a → v ≤ a) ∧ ∀ o ∈ os, cnt L o = c → v ≤ rp w p o
  | [], m, v, h => by
    have h' : m c = some v := h
    exact ⟨.inl h', fun a ha => by rw [h'] at ha; cases ha; exact Int.le_refl _, by simp⟩
  | o :: os, m, v, h => by
    obtain ⟨j1, j2, j3⟩ := cstA_spec os (cst1 w L p m o) v h
    by_cases e : c = cnt L o
    · have em : cst1 w L p m o c = some (if (m c).getD (rp w p o) < rp w p o then (m c).getD (rp w p o) else rp w p o) := by unfold cst1; rw [if_pos e]
      have k2 := j2 _ em
      have k3 : v ≤ rp w p o := by split at k2 <;> omega
      refine ⟨?_, fun a ha => ?_, fun q hq z => ?_⟩
      · rcases j1 with j | ⟨q, hq, z⟩
        · rw [em] at j
          injection j with j
          cases hm : m c with
          | none =>
            rw [hm] at j
            simp at j
            exact .inr ⟨o, List.mem_cons_self, e.symm, j.symm⟩
          | some a =>
            rw [hm] at j
            simp only [Option.getD_some] at j
            split at j
            · exact .inl (by rw [j])
            · exact .inr ⟨o, List.mem_cons_self, e.symm, j.symm⟩
        · exact .inr ⟨q, List.mem_cons_of_mem _ hq, z⟩
      · rw [ha] at k2
        simp only [Option.getD_some] at k2
        split at k2 <;> omega
      · rcases List.mem_cons.mp hq with rfl | hq
        · exact k3
        · exact j3 q hq z
    · have em : cst1 w L p m o c = m c := by unfold cst1; rw [if_neg e]
      rw [em] at j1 j2
      refine ⟨?_, j2, fun q hq z => ?_⟩
      · rcases j1 with j | ⟨q, hq, z⟩
        · exact .inl j
        · exact .inr ⟨q, List.mem_cons_of_mem _ hq, z⟩
      · rcases List.mem_cons.mp hq with rfl | hq
        · exact absurd z.symm e
        · exact j3 q hq z
private theorem cst_spec {w : Nat} {L : Lay} (ok : LayOk L) {p : Int × Int} {c : Int} (c0 : 0 ≤ c) (c1 : c ≤ fullOf L) : (∃ o, RodOk L o ∧ cnt L o = c ∧ cst w L p c = rp w p o) ∧ ∀ o, RodOk L o → cnt L o = c → cst w L p c ≤ rp w p o := by
  have sm : (cstA w L p (rods L) (fun _ => none) c).isSome = true := cstA_some _ _ (.inr ⟨plainOf L c, (mem_rods ok).mpr (plain_ok ok c0 c1), cnt_plain L c⟩)
  obtain ⟨v, hv⟩ := Option.isSome_iff_exists.mp sm
  have e : cst w L p c = v := by unfold cst; rw [hv]; rfl
  obtain ⟨j1, _, j3⟩ := cstA_spec (rods L) (fun _ => none) v hv
  rw [e]
  refine ⟨?_, fun o ho z => j3 o ((mem_rods ok).mpr ho) z⟩
  rcases j1 with j | ⟨o, ho, z1, z2⟩
  · cases j
  · exact ⟨o, (mem_rods ok).mp ho, z1, z2⟩
end Gen
namespace Gen
open PySem L2 L3
noncomputable def lt3 (x y : T3) : Prop := x.1 < y.1 ∨ (x.1 = y.1 ∧ (x.2.1 < y.2.1 ∨ (x.2.1 = y.2.1 ∧ x.2.2 < y.2.2)))
private theorem tlt_iff {x y : T3} : tlt x y = true ↔ lt3 x y := by
  unfold tlt lt3 pairLt
  by_cases h1 : x.1 = y.1
  · by_cases h2 : x.2.1 = y.2.1
    · by_cases h3 : x.2.2 = y.2.2
      · simp [h1, h2, h3]
      · simp [h1, h2, h3]
    · by_cases h3 : x.2.2 = y.2.2 <;> simp [h1, h2, h3]
  · simp [h1]
private theorem lt3_irrefl {x : T3} : ¬ lt3 x x := by
  rintro (h | ⟨_, h | ⟨_, h⟩⟩) <;> exact Int.lt_irrefl _ h
private theorem lt3_trans {x y z : T3} (h : lt3 x y) (k : lt3 y z) : lt3 x z := by
  unfold lt3 at *
  rcases h with h | ⟨e1, h⟩
  · rcases k with k | ⟨f1, _⟩
    · exact .inl (Int.lt_trans h k)
    · exact .inl (f1 ▸ h)
  · rcases k with k | ⟨f1, k⟩
    · exact .inl (e1 ▸ k)
    · refine .inr ⟨e1.trans f1, ?_⟩
      rcases h with h | ⟨e2, h⟩
      · rcases k with k | ⟨f2, _⟩
        · exact .inl (Int.lt_trans h k)
        · exact .inl (f2 ▸ h)
      · rcases k with k | ⟨f2, k⟩
        · exact .inl (e2 ▸ k)
        · exact .inr ⟨e2.trans f2, Int.lt_trans h k⟩
private theorem lt3_total {x y : T3} (h : ¬ lt3 x y) : x = y ∨ lt3 y x := by
  unfold lt3 at *
  rcases Int.lt_trichotomy x.1 y.1 with a | a | a
  · exact absurd (.inl a) h
  · rcases Int.lt_trichotomy x.2.1 y.2.1 with b | b | b
    · exact absurd (.inr ⟨a, .inl b⟩) h
    · rcases Int.lt_trichotomy x.2.2 y.2.2 with c | c | c
      · exact absurd (.inr ⟨a, .inr ⟨b, c⟩⟩) h
      · exact .inl (Prod.ext a (Prod.ext b c))
      · exact .inr (.inr ⟨a.symm, .inr ⟨b.symm, c⟩⟩)
    · exact .inr (.inr ⟨a.symm, .inl b⟩)
  · exact .inr (.inl a)
private theorem best_spec : ∀ (r : List T3) (b : T3), best b r ∈ b :: r ∧ ∀ y ∈ b :: r, ¬ lt3 y (best b r)
  | [], b => by
    refine ⟨List.mem_cons_self, fun y hy => ?_⟩
    rw [List.mem_singleton] at hy
    subst hy
    exact lt3_irrefl
  | x :: r, b => by
    show best (if tlt x b then x else b) r ∈ _ ∧ _
    by_cases h : tlt x b = true
    · obtain ⟨i1, i2⟩ := best_spec r x
      have e : best b (x :: r) = best x r := by show best (if tlt x b then x else b) r = _; rw [if_pos h]
      rw [if_pos h]
      refine ⟨List.mem_cons_of_mem _ i1, fun y hy => ?_⟩
      rw [e]
      rcases List.mem_cons.mp hy with rfl | hy
      · exact fun z => i2 x List.mem_cons_self (lt3_trans (tlt_iff.mp h) z)
      · exact i2 y hy
    · obtain ⟨i1, i2⟩ := best_spec r b
      have e : best b (x :: r) = best b r := by show best (if tlt x b then x else b) r = _; rw [if_neg h]
      rw [if_neg h]
      refine ⟨?_, fun y hy => ?_⟩
      · rcases List.mem_cons.mp i1 with q | q
        · rw [q]; exact List.mem_cons_self
        · exact List.mem_cons_of_mem _ (List.mem_cons_of_mem _ q)
      · rw [e]
        rcases List.mem_cons.mp hy with rfl | hy
        · exact i2 y List.mem_cons_self
        · rcases List.mem_cons.mp hy with rfl | hy
          · intro z
            rcases lt3_total fun z => h (tlt_iff.mpr z) with q | q
            · exact i2 b List.mem_cons_self (q ▸ z)
            · exact i2 b List.mem_cons_self (lt3_trans q z)
          · exact i2 y (List.mem_cons_of_mem _ hy)
noncomputable def Off (w : Nat) (L : Lay) (p : Int × Int) (n : Int) (bf : Int → Option Int) (o : Int × Int) (r : Int) : Prop := RodOk L o ∧ cnt L o ∈ fits L n ∧ bf (lb L n (cnt L o)) = some r
private theorem mem_offs {w : Nat} {L : Lay} (ok : LayOk L) {p : Int × Int} {n : Int} {bf : Int → Option Int} {t : T3} : t ∈ offs w L p n bf (rods L) ↔ ∃ r, Off w L p n bf t.2 r ∧ t.1 = rp w p t.2 + r := by
  unfold offs
  rw [List.mem_filterMap]
  constructor
  · rintro ⟨o, ho, e⟩
    unfold off1 at e
    split at e
    · rename_i hc
      obtain ⟨r, hr, rfl⟩ := Option.map_eq_some_iff.mp e
      exact ⟨r, ⟨(mem_rods ok).mp ho, hc, hr⟩, rfl⟩
    · cases e
  · rintro ⟨r, ⟨h1, h2, h3⟩, e⟩
    refine ⟨t.2, (mem_rods ok).mpr h1, ?_⟩
    unfold off1
    rw [if_pos h2, h3]
    show some (rp w p t.2 + r, t.2.1, t.2.2) = some t
    rw [← e]
private theorem V_offs {w : Nat} {L : Lay} (ok : LayOk L) {p : Int × Int} {n : Int} (n0 : 0 ≤ n) {gr : List Lay} {st : List (Int × Int)} {v : Int} (hv : V w (L :: gr) (p :: st) n = some v) :
    ∃ x r, offs w L p n (V w gr st) (rods L) = x :: r ∧ (best x r).1 = v ∧ ∃ q, Off w L p n (V w gr st) (best x r).2 q ∧ v = rp w p (best x r).2 + q := by
  obtain ⟨_, s2⟩ := lvA_spec (cost := cst w L p) (rest := fun c => V w gr st (lb L n c)) (fits L n) none
  obtain ⟨j1, _, j3⟩ := s2 v hv
  have full : ∀ c ∈ fits L n, 0 ≤ c ∧ c ≤ fullOf L := fun c hc => by have := (mem_fits ok n0).mp hc; exact ⟨this.1, this.2.2.1⟩
  rcases j1 with j | ⟨c, hc, q, hq, e⟩
  · cases j
  obtain ⟨⟨o, ro, co, eo⟩, _⟩ := cst_spec (w := w) ok (p := p) (full c hc).1 (full c hc).2
  have mo : (rp w p o + q, o) ∈ offs w L p n (V w gr st) (rods L) := (mem_offs ok).mpr ⟨q, ⟨ro, by rw [co]; exact hc, by rw [co]; exact hq⟩, rfl⟩
  cases ho : offs w L p n (V w gr st) (rods L) with
  | nil => rw [ho] at mo; cases mo
  | cons x r =>
    obtain ⟨b1, b2⟩ := best_spec r x
    rw [ho] at mo
    have bm : best x r ∈ offs w L p n (V w gr st) (rods L) := by rw [ho]; exact b1
    obtain ⟨q', of', e'⟩ := (mem_offs ok).mp bm
    have le1 : v ≤ (best x r).1 := by
      obtain ⟨z1, z2, z3⟩ := of'
      have k3 := j3 _ z2 q' z3
      have k4 := (cst_spec (w := w) ok (p := p) (full _ z2).1 (full _ z2).2).2 _ z1 rfl
      rw [e']
      exact Int.le_trans k3 (Int.add_le_add_right k4 _)
    have le2 : (best x r).1 ≤ v := by
      have nl := b2 _ mo
      refine Int.le_of_not_gt fun z => nl (.inl ?_)
      show rp w p o + q < (best x r).1
      rw [← eo, ← e]
      exact z
    have eb := Int.le_antisymm le2 le1
    refine ⟨x, r, rfl, eb, q', of', eb.symm.trans e'⟩
end Gen
namespace Gen
open PySem L2 L3
noncomputable def ch (w : Nat) : List Lay → List (Int × Int) → Int → List (Int × Int)
  | L :: gr, p :: st, n => match offs w L p n (V w gr st) (rods L) with
    | x :: r => (best x r).2 :: ch w gr st (lb L n (cnt L (best x r).2))
    | [] => []
  | _, _, _ => []
private theorem ch_cons {w : Nat} {L : Lay} {p : Int × Int} {gr : List Lay} {st : List (Int × Int)} {n : Int} {x : T3} {r : List T3} (h : offs w L p n (V w gr st) (rods L) = x :: r) : ch w (L :: gr) (p :: st) n = (best x r).2 :: ch w gr st (lb L n (cnt L (best x r).2)) := by
  rw [ch, h]
noncomputable def fp (w : Nat) (ps qs : List (Int × Int)) : Int := ((ps.zip qs).map fun z => rp w z.1 z.2).sum
private theorem ch_good {w : Nat} : ∀ (fr : List Lay) (st : List (Int × Int)) (n v : Int), FrOk fr → StOk fr st → 0 ≤ n → V w fr st n = some v → StOk fr (ch w fr st n) ∧ borne fr (ch w fr st n) = n ∧ fp w st (ch w fr st n) = v
  | [], [], n, v, _, _, _, h => by
    rw [V_last] at h
    split at h
    · rename_i z
      cases h
      subst z
      exact ⟨trivial, rfl, rfl⟩
    · cases h
  | [], _ :: _, _, _, _, h, _, _ => h.elim
  | _ :: _, [], _, _, _, h, _, _ => h.elim
  | L :: gr, p :: st, n, v, ok, so, n0, h => by
    have okL := ok L List.mem_cons_self
    obtain ⟨x, r, ho, e1, q, ⟨z1, z2, z3⟩, e2⟩ := V_offs okL n0 h
    obtain ⟨l1, l2⟩ := lb_fit okL n0 z2
    obtain ⟨i1, i2, i3⟩ := ch_good gr st (lb L n (cnt L (best x r).2)) q (fun K hK => ok K (List.mem_cons_of_mem _ hK)) so.2 l2 z3
    rw [ch_cons ho]
    refine ⟨⟨z1, i1⟩, ?_, ?_⟩
    · rw [borne, i2, l1]; omega
    · show (((p, (best x r).2) :: st.zip (ch w gr st _)).map fun z => rp w z.1 z.2).sum = v
      rw [List.map_cons, List.sum_cons]
      have : ((st.zip (ch w gr st (lb L n (cnt L (best x r).2)))).map fun z => rp w z.1 z.2).sum = q := i3
      rw [this, e2]
private theorem tabs_ix {w : Nat} {fr : List Lay} {st : List (Int × Int)} {n : Int} {j : Nat} (h : j ≤ fr.length) : ixA (.l ((List.range (fr.length + 1)).map (tab w fr st n))) (.i (j : Nat)) = some (.sh (tab w fr st n j)) := ixA_map (by omega) (by
  rw [Int.toNat_natCast, List.getElem?_range (by omega)])
private theorem drop_two {α : Type} {xs : List α} {k : Nat} {x : α} {ys : List α} (h : xs.drop k = x :: ys) : xs[k]? = some x ∧ xs.drop (k + 1) = ys := by
  constructor
  · have := congrArg (·[0]?) h
    simpa [List.getElem?_drop] using this
  · have := congrArg (List.drop 1) h
    simpa [List.drop_drop, Nat.add_comm] using this
private theorem cheap_loop {w : Nat} (hw : w < 3) {fr : List Lay} {st : List (Int × Int)} (ok : FrOk fr) (so : StOk fr st) {n : Int} {s2 : Sl} : ∀ (gr : List Lay) (tt : List (Int × Int)) (k : Nat) (m v : Int) (acc : List (Int × Int)) (s4 x7 x8 x9 : Sl), fr.drop k = gr → st.drop k = tt → StOk gr tt → k + gr.length = fr.length → 0 ≤ m → m ∈ rowK fr n k → V w gr tt m = some v → acc.length + gr.length ≤ 1000 →
      s4.vw = .sh (.l ((List.range (fr.length + 1)).map (tab w fr st n))) →
    ∃ y4 y6 y7 y8 y9, forG (tupG 2 (consG (nameG 7) (consG (nameG 8) nilG))) b_cheapest_of_1 ((gr.zipIdx k).map fun p => D.t [.i (p.2 : Nat), Lay.d p.1]) [.sh (.l (fr.map Lay.d)), .sh (.l (st.map prD)), s2, .sh (.o (cn w) [] []), s4, .ac (acc.map prD), .sh (.i m), x7, x8, x9] =
      some (.nx [.sh (.l (fr.map Lay.d)), .sh (.l (st.map prD)), s2, .sh (.o (cn w) [] []), y4, .ac ((acc ++ ch w gr tt m).map prD), y6, y7, y8, y9])
  | [], _ :: _, _, _, _, _, _, _, _, _, _, _, h, _, _, _, _, _, _ => h.elim
  | _ :: _, [], _, _, _, _, _, _, _, _, _, _, h, _, _, _, _, _, _ => h.elim
  | [], [], k, m, v, acc, s4, x7, x8, x9, _, _, _, _, _, _, _, _, _ => ⟨s4, .sh (.i m), x7, x8, x9, by rw [List.zipIdx_nil, List.map_nil, forG_nil]; simp [ch]⟩
  | L :: gr, p :: tt, k, m, v, acc, s4, x7, x8, x9, dg, dt, so', hk, m0, mk, hv, hl, h4 => by
    simp only [List.length_cons] at hk hl
    obtain ⟨hL, dg'⟩ := drop_two dg
    obtain ⟨hp, dt'⟩ := drop_two dt
    have okL := ok L (List.mem_of_getElem? hL)
    obtain ⟨x, r, ho, eb, q, ⟨z1, z2, z3⟩, ev⟩ := V_offs okL m0 hv
    obtain ⟨l1, l2⟩ := lb_fit okL m0 z2
    have nk : ∀ c ∈ fits L m, lb L m c ∈ rowK fr n (k + 1) := fun c hc => by
      unfold rowK
      rw [rowsK_step fr [n] k L hL]
      exact mem_nxt.mpr ⟨m, mk, c, hc, rfl⟩
    have lo : f_least_offer [L.d, prD p, .o (cn w) [] [], .i m, tab w fr st n (k + 1)] = some (.sh (prD (best x r).2)) := by
      have := least_offer_eq hw okL m0 (p := p) (bf := V w gr tt) nk ho
      unfold tab
      rw [dg', dt']
      exact this
    have ixt : ixA (.l ((List.range (fr.length + 1)).map (tab w fr st n))) (.i ((k : Int) + 1)) = some (.sh (tab w fr st n (k + 1))) := tabs_ix (j := k + 1) (by omega)
    have ixs : ixA (.l (st.map prD)) (.i (k : Nat)) = some (.sh (prD p)) := ixA_map (by omega) (by simpa using hp)
    have co := count_of_eq okL z1
    have le := left_behind_eq okL m (cnt L (best x r).2)
    rw [ch_cons ho]
    obtain ⟨y4, y6, y7, y8, y9, ih⟩ := cheap_loop hw ok so (n := n) (s2 := s2) gr tt (k + 1) (lb L m (cnt L (best x r).2)) q (acc ++ [(best x r).2]) (.sh (.l ((List.range (fr.length + 1)).map (tab w fr st n)))) (.sh (.i (k : Nat))) (.sh L.d) (.sh (prD (best x r).2)) dg' dt' so'.2 (by omega) l2 (nk _ z2) z3 (by simp; omega) rfl
    refine ⟨y4, y6, y7, y8, y9, ?_⟩
    rw [List.zipIdx_cons, List.map_cons, forG_step (ρ1 := [.sh (.l (fr.map Lay.d)), .sh (.l (st.map prD)), s2, .sh (.o (cn w) [] []), s4, .ac (acc.map prD), .sh (.i m), .sh (.i (k : Nat)), .sh L.d, x9])
      (ρ2 := [.sh (.l (fr.map Lay.d)), .sh (.l (st.map prD)), s2, .sh (.o (cn w) [] []), .sh (.l ((List.range (fr.length + 1)).map (tab w fr st n))), .ac ((acc ++ [(best x r).2]).map prD), .sh (.i (lb L m (cnt L (best x r).2))), .sh (.i (k : Nat)), .sh L.d, .sh (prD (best x r).2)]) (by walk_at "ev") (by
        have ln : (acc.map prD).length < 10000000 := by rw [List.length_map]; omega
        rw [List.map_append]
        simp only [b_cheapest_of_1]
        clear ih ok so so' dg dt dg' dt' hv ho eb ev z1 z2 z3 nk hp hL hl okL l1
        generalize acc.map prD = ac at *
        generalize tab w fr st n (k + 1) = t1 at *
        generalize (List.range (fr.length + 1)).map (tab w fr st n) = ts at *
        generalize D.o (cn w) [] [] = pr at *
        generalize lb L m (cnt L (best x r).2) = m2 at *
        generalize cnt L (best x r).2 = c2 at *
        generalize (best x r).2 = o at *
        obtain ⟨oa, ob⟩ := o
        simp only [prD_mk] at *
        walk_at "ev*"), ih, List.append_assoc]
    rfl
private theorem cheap_none {w : Nat} {fr : List Lay} {st : List (Int × Int)} {n : Int} : ixA (tab w fr st n 0) (.i n) = some (.sh (oD (V w fr st n))) := tab_ix (j := 0) (by rw [rowK_0]; exact List.mem_singleton_self n)
private theorem cheapest_ok {w : Nat} (hw : w < 3) {fr : List Lay} {st : List (Int × Int)} (ok : FrOk fr) (f25 : Fr25 fr) (so : StOk fr st) (h1 : 1 ≤ fr.length) (hl : fr.length ≤ 20) {n v : Int} (n0 : 0 ≤ n) (hv : V w fr st n = some v) :
    f_cheapest_of [.l (fr.map Lay.d), .l (st.map prD), .i n, .o (cn w) [] []] = some (.ac ((ch w fr st n).map prD)) := by
  have to := table_of_eq hw ok f25 so h1 hl n0
  obtain ⟨y4, y6, y7, y8, y9, lp⟩ := cheap_loop hw ok so (n := n) (s2 := .sh (.i n)) fr st 0 n v [] (.ac ((List.range (fr.length + 1)).map (tab w fr st n))) .un .un .un rfl rfl so (by omega) n0 (by rw [rowK_0]; exact List.mem_singleton_self n) hv (by simp; omega) rfl
  have ix0 : ixA (.l ((List.range (fr.length + 1)).map (tab w fr st n))) (.i 0) = some (.sh (tab w fr st n 0)) := tabs_ix (j := 0) (by omega)
  have ixn := cheap_none (w := w) (fr := fr) (st := st) (n := n)
  rw [hv] at ixn
  simp only [oD] at ixn
  rw [List.map_nil, List.nil_append] at lp
  simp only [f_cheapest_of, g_cheapest_of]
  clear ok f25 so hv
  generalize tab w fr st n 0 = t0 at *
  generalize (List.range (fr.length + 1)).map (tab w fr st n) = ts at *
  generalize D.o (cn w) [] [] = pr at *
  walk_at "ev*"
private theorem cheapest_ex {w : Nat} (hw : w < 3) {fr : List Lay} {st : List (Int × Int)} (ok : FrOk fr) (f25 : Fr25 fr) (so : StOk fr st) (h1 : 1 ≤ fr.length) (hl : fr.length ≤ 20) {n : Int} (n0 : 0 ≤ n) (hv : V w fr st n = none) :
    f_cheapest_of [.l (fr.map Lay.d), .l (st.map prD), .i n, .o (cn w) [] []] = none ∧ x_cheapest_of [.l (fr.map Lay.d), .l (st.map prD), .i n, .o (cn w) [] []] = some ⟨"TooGreat", ["rod"], [.i ((fr.length : Int) - 1)]⟩ := by
  have to := table_of_eq hw ok f25 so h1 hl n0
  have ix0 : ixA (.l ((List.range (fr.length + 1)).map (tab w fr st n))) (.i 0) = some (.sh (tab w fr st n 0)) := tabs_ix (j := 0) (by omega)
  have ixn := cheap_none (w := w) (fr := fr) (st := st) (n := n)
  rw [hv] at ixn
  simp only [oD] at ixn
  clear ok f25 so hv
  generalize tab w fr st n 0 = t0 at *
  generalize (List.range (fr.length + 1)).map (tab w fr st n) = ts at *
  generalize D.o (cn w) [] [] = pr at *
  constructor
  · simp only [f_cheapest_of, g_cheapest_of]
    walk_at "ev*"
  · simp only [x_cheapest_of, g_cheapest_of]
    walk_at "ev*"
end Gen
namespace Gen
open PySem L2 L3
private theorem borne_le : ∀ {fr : List Lay} {st : List (Int × Int)}, FrOk fr → StOk fr st → 0 ≤ borne fr st ∧ borne fr st ≤ 6 * 25 ^ fr.length - 6
  | [], [], _, _ => by simp [borne]
  | [], _ :: _, _, h => h.elim
  | _ :: _, [], _, h => h.elim
  | L :: fr, p :: st, ok, so => by
    have okL := ok L List.mem_cons_self
    have b2 := okL.b2
    have b25 := okL.b25
    have cb := cnt_bound okL so.1
    obtain ⟨i0, i1⟩ := borne_le (fr := fr) (st := st) (fun K hK => ok K (List.mem_cons_of_mem _ hK)) so.2
    have m0 := Int.mul_nonneg (show 0 ≤ L.b by omega) i0
    have m1 : L.b * borne fr st ≤ 25 * (6 * 25 ^ fr.length - 6) := Int.mul_le_mul b25 i1 i0 (by omega)
    rw [borne, List.length_cons, Int.pow_succ]
    omega
end Gen
namespace Gen
open PySem L2 L3
private theorem law_rods_eq {L : Lay} (ok : LayOk L) : f__law_rods [L.d] = some (.ac ((rods L).map prD)) := by
  have u0 := ok.u0
  have u6 := ok.u6
  have l0 := ok.l0
  have l24 := ok.l24
  obtain ⟨ρ', lp, y, z, rfl⟩ := forG_range (h := nameG 2) (g := b__law_rods_2) (n := (L.u + 1).toNat) (ρ := [.sh L.d, .ac [], .un, .un])
    (fun i ρ => ∃ y z, ρ = [.sh L.d, .ac (((List.range i).flatMap fun h => (List.range (L.l + 1).toNat).map fun l => (((h : Nat) : Int), ((l : Nat) : Int))).map prD), y, z]) ⟨_, _, rfl⟩ fun i ρ hi zq9 => by
      obtain ⟨y, z, e⟩ := zq9
      subst e
      have ln := rods_len ok i (by omega)
      have nx : ((List.range (i + 1)).flatMap fun h => (List.range (L.l + 1).toNat).map fun l => (((h : Nat) : Int), ((l : Nat) : Int))).map prD = ((List.range i).flatMap fun h => (List.range (L.l + 1).toNat).map fun l => (((h : Nat) : Int), ((l : Nat) : Int))).map prD ++ (List.range (L.l + 1).toNat).map fun l : Nat => prD ((i : Int), ((l : Nat) : Int)) := by
        rw [List.range_succ, List.flatMap_append, List.map_append]
        simp
      generalize ((List.range i).flatMap fun h => (List.range (L.l + 1).toNat).map fun l => (((h : Nat) : Int), ((l : Nat) : Int))).map prD = acc at *
      obtain ⟨ρ2, lp2, z2, rfl⟩ := forG_range (h := nameG 3) (g := b__law_rods_1) (n := (L.l + 1).toNat) (ρ := [.sh L.d, .ac acc, .sh (.i (i : Nat)), z])
        (fun j ρ => ∃ z, ρ = [.sh L.d, .ac (acc ++ (List.range j).map fun l : Nat => prD ((i : Int), ((l : Nat) : Int))), .sh (.i (i : Nat)), z]) ⟨z, by simp⟩ fun j ρ hj zq9 => by
          obtain ⟨z, e⟩ := zq9
          subst e
          refine ⟨_, [.sh L.d, .ac (acc ++ (List.range (j + 1)).map fun l : Nat => prD ((i : Int), ((l : Nat) : Int))), .sh (.i (i : Nat)), .sh (.i (j : Nat))], rfl, ?_, _, rfl⟩
          rw [List.range_succ, List.map_append, ← List.append_assoc]
          have ln2 : (acc ++ (List.range j).map fun l : Nat => prD ((i : Int), ((l : Nat) : Int))).length < 10000000 := by rw [List.length_append, List.length_map, List.length_range]; omega
          generalize acc ++ (List.range j).map (fun l : Nat => prD ((i : Int), ((l : Nat) : Int))) = ac at *
          simp only [b__law_rods_1]
          clear nx ok ln
          walk_at "ev*"
      refine ⟨_, [.sh L.d, .ac (((List.range (i + 1)).flatMap fun h => (List.range (L.l + 1).toNat).map fun l => (((h : Nat) : Int), ((l : Nat) : Int))).map prD), .sh (.i (i : Nat)), z2], rfl, ?_, _, _, rfl⟩
      rw [nx]
      simp only [b__law_rods_2]
      clear nx ok
      walk_at "ev*"
  have e : ((List.range (L.u + 1).toNat).flatMap fun h => (List.range (L.l + 1).toNat).map fun l => (((h : Nat) : Int), ((l : Nat) : Int))) = rods L := rfl
  rw [e] at lp
  simp only [f__law_rods, g__law_rods]
  clear ok
  walk_at "ev*"
end Gen
namespace Gen
open PySem L2 L3
noncomputable def fullS (fr : List Lay) : List (Int × Int) := fr.map fun L => (L.u, L.l)
private theorem fullS_ok : ∀ {fr : List Lay}, FrOk fr → StOk fr (fullS fr)
  | [], _ => trivial
  | L :: fr, ok => ⟨⟨(ok L List.mem_cons_self).u0, Int.le_refl _, (ok L List.mem_cons_self).l0, Int.le_refl _⟩, fullS_ok fun K hK => ok K (List.mem_cons_of_mem _ hK)⟩
end Gen
namespace Gen
open PySem L2 L3
noncomputable def allS : List Lay → List (List (Int × Int))
  | [] => [[]]
  | L :: fr => (rods L).flatMap fun o => (allS fr).map (o :: ·)
private theorem FrOk.tail {L : Lay} {fr : List Lay} (ok : FrOk (L :: fr)) : FrOk fr := fun K hK => ok K (List.mem_cons_of_mem _ hK)
private theorem mem_allS : ∀ {fr : List Lay} {qs : List (Int × Int)}, FrOk fr → (qs ∈ allS fr ↔ StOk fr qs)
  | [], [], _ => ⟨fun _ => trivial, fun _ => List.mem_singleton.mpr rfl⟩
  | [], _ :: _, _ => ⟨fun h => (nomatch List.mem_singleton.mp h), fun h => h.elim⟩
  | L :: fr, qs, ok => by
    rw [allS, List.mem_flatMap]
    constructor
    · rintro ⟨o, ho, h⟩
      obtain ⟨r, hr, rfl⟩ := List.mem_map.mp h
      exact ⟨(mem_rods (ok L List.mem_cons_self)).mp ho, (mem_allS ok.tail).mp hr⟩
    · intro h
      cases qs with
      | nil => exact h.elim
      | cons o r => exact ⟨o, (mem_rods (ok L List.mem_cons_self)).mpr h.1, List.mem_map.mpr ⟨r, (mem_allS ok.tail).mpr h.2, rfl⟩⟩
private theorem add_less (a b : Int) : a + b - a = b := by omega
private theorem fit_borne {L : Lay} (okL : LayOk L) {o : Int × Int} (ro : RodOk L o) {m : Int} (m0 : 0 ≤ m) : cnt L o ∈ fits L (cnt L o + L.b * m) ∧ lb L (cnt L o + L.b * m) (cnt L o) = m := by
  have b2 := okL.b2
  have b0 : 0 < L.b := Int.lt_of_lt_of_le (by decide) b2
  have bm := Int.mul_nonneg (Int.le_of_lt b0) m0
  have c0 := (cnt_bound okL ro).2.2.1
  have n0 : 0 ≤ cnt L o + L.b * m := Int.add_nonneg c0 bm
  have cf : cnt L o ≤ fullOf L := Int.add_le_add (Int.mul_le_mul_of_nonneg_right ro.h1 (Int.le_trans (by decide) okL.w1)) ro.l1
  have hm : cnt L o ∈ fits L (cnt L o + L.b * m) := (mem_fits okL n0).mpr ⟨c0, Int.le_add_of_nonneg_right bm, cf, (Int.add_mul_emod_self_left _ _ _).symm⟩
  refine ⟨hm, ?_⟩
  have := (lb_fit okL n0 hm).1
  rw [add_less] at this
  exact Int.eq_of_mul_eq_mul_left (Int.ne_of_gt b0) this
private theorem V_min {w : Nat} : ∀ {fr : List Lay} {st qs : List (Int × Int)}, FrOk fr → StOk fr st → StOk fr qs → ∃ v, V w fr st (borne fr qs) = some v ∧ v ≤ fp w st qs
  | [], [], [], _, _, _ => ⟨0, by rw [V_last]; rfl, Int.le_refl _⟩
  | [], _ :: _, _, _, h, _ => h.elim
  | [], [], _ :: _, _, _, h => h.elim
  | _ :: _, [], _, _, h, _ => h.elim
  | _ :: _, _ :: _, [], _, _, h => h.elim
  | L :: gr, p :: st, o :: qs, ok, so, sq => by
    have okL := ok L List.mem_cons_self
    obtain ⟨q, hq, q1⟩ := V_min (w := w) (fr := gr) (st := st) (qs := qs) ok.tail so.2 sq.2
    obtain ⟨f1, f2⟩ := fit_borne okL sq.1 (borne_le ok.tail sq.2).1
    obtain ⟨s1, s2⟩ := lvA_spec (cost := cst w L p) (rest := fun c => V w gr st (lb L (borne (L :: gr) (o :: qs)) c)) (fits L (borne (L :: gr) (o :: qs))) none
    have hr : V w gr st (lb L (borne (L :: gr) (o :: qs)) (cnt L o)) = some q := by
      rw [borne, f2]; exact hq
    have fm : cnt L o ∈ fits L (borne (L :: gr) (o :: qs)) := by rw [borne]; exact f1
    cases hv : V w (L :: gr) (p :: st) (borne (L :: gr) (o :: qs)) with
    | none =>
      have := (s1.mp hv).2 _ fm
      rw [hr] at this; cases this
    | some v =>
      refine ⟨v, rfl, ?_⟩
      have k := (s2 v hv).2.2 _ fm q hr
      have c := (cst_spec (w := w) okL (p := p) (cnt_bound okL sq.1).2.2.1 (by
        rw [borne] at fm
        exact ((mem_fits okL (Int.add_nonneg (cnt_bound okL sq.1).2.2.1 (Int.mul_nonneg (Int.le_trans (by decide) okL.b2) (borne_le ok.tail sq.2).1))).mp fm).2.2.1)).2 o sq.1 rfl
      show v ≤ (((p, o) :: st.zip qs).map fun z => rp w z.1 z.2).sum
      rw [List.map_cons, List.sum_cons]
      exact Int.le_trans k (Int.add_le_add c q1)
noncomputable def ltp (a b : Int × Int) : Prop := a.1 < b.1 ∨ (a.1 = b.1 ∧ a.2 < b.2)
private theorem rods_sorted (L : Lay) : (rods L).Pairwise ltp := by
  unfold rods
  rw [List.pairwise_flatMap]
  constructor
  · intro a _
    rw [List.pairwise_map]
    exact List.pairwise_lt_range.imp fun h => .inr ⟨rfl, Int.ofNat_lt.mpr h⟩
  · refine List.pairwise_lt_range.imp fun h x hx y hy => ?_
    obtain ⟨i, _, rfl⟩ := List.mem_map.mp hx
    obtain ⟨j, _, rfl⟩ := List.mem_map.mp hy
    exact .inl (Int.ofNat_lt.mpr h)
noncomputable def First (f : List (Int × Int) → Int) (g : List (Int × Int) → Prop) (zs : List (List (Int × Int))) (c : List (Int × Int)) : Prop :=
  ∃ l1 l2, zs = l1 ++ c :: l2 ∧ (∀ x ∈ l1, g x → f c < f x) ∧ ∀ x ∈ l2, g x → f c ≤ f x
private theorem fp_cons {w : Nat} {p o : Int × Int} {st qs : List (Int × Int)} : fp w (p :: st) (o :: qs) = rp w p o + fp w st qs := by
  show (((p, o) :: st.zip qs).map fun z => rp w z.1 z.2).sum = _
  rw [List.map_cons, List.sum_cons]; rfl
private theorem offer_ge {w : Nat} {L : Lay} {p : Int × Int} {gr : List Lay} {st : List (Int × Int)} {n v : Int} {x : T3} {r : List T3} (ok : FrOk (L :: gr)) (so : StOk gr st) (ho : offs w L p n (V w gr st) (rods L) = x :: r) (e1 : (best x r).1 = v)
    {o : Int × Int} {qs : List (Int × Int)} (sq : StOk (L :: gr) (o :: qs)) (hb : borne (L :: gr) (o :: qs) = n) : v ≤ fp w (p :: st) (o :: qs) ∧ (ltp o (best x r).2 → v < fp w (p :: st) (o :: qs)) := by
  have okL := ok L List.mem_cons_self
  obtain ⟨q, hq, q1⟩ := V_min (w := w) ok.tail so sq.2
  obtain ⟨f1, f2⟩ := fit_borne okL sq.1 (borne_le ok.tail sq.2).1
  have hb' : cnt L o + L.b * borne gr qs = n := hb
  rw [hb'] at f1 f2
  have mo : (rp w p o + q, o) ∈ offs w L p n (V w gr st) (rods L) := (mem_offs okL).mpr ⟨q, ⟨sq.1, f1, by rw [f2]; exact hq⟩, rfl⟩
  rw [ho] at mo
  have nl := (best_spec r x).2 _ mo
  have le : v ≤ rp w p o + q := Int.le_of_not_gt fun z => nl (.inl (by rw [e1]; exact z))
  rw [fp_cons]
  refine ⟨Int.le_trans le (Int.add_le_add_left q1 _), fun hl => ?_⟩
  exact Int.lt_of_lt_of_le (Int.lt_iff_le_and_ne.mpr ⟨le, fun z => nl (.inr ⟨by rw [e1]; exact z.symm, hl⟩)⟩) (Int.add_le_add_left q1 _)
private theorem ch_first {w : Nat} : ∀ {fr : List Lay} {st : List (Int × Int)} {n v : Int}, FrOk fr → StOk fr st → 0 ≤ n → V w fr st n = some v →
    First (fp w st) (fun x => borne fr x = n) (allS fr) (ch w fr st n)
  | [], [], _, _, _, _, _, _ => ⟨[], [], rfl, fun _ h => (nomatch h), fun _ h => (nomatch h)⟩
  | [], _ :: _, _, _, _, h, _, _ => h.elim
  | _ :: _, [], _, _, _, h, _, _ => h.elim
  | L :: gr, p :: st, n, v, ok, so, n0, hv => by
    have okL := ok L List.mem_cons_self
    have b0 : 0 < L.b := Int.lt_of_lt_of_le (by decide) okL.b2
    obtain ⟨x, r, ho, e1, q, ⟨z1, z2, z3⟩, e2⟩ := V_offs okL n0 hv
    obtain ⟨k1, k2⟩ := lb_fit okL n0 z2
    obtain ⟨i1, i2, ie, ia, ib⟩ := ch_first (w := w) (fr := gr) (st := st) (n := lb L n (cnt L (best x r).2)) (v := q) ok.tail so.2 k2 z3
    have fo : fp w (p :: st) (ch w (L :: gr) (p :: st) n) = v := (ch_good (L :: gr) (p :: st) n v ok so n0 hv).2.2
    have ge := @offer_ge w L p gr st n v x r ok so.2 ho e1
    have rest : ∀ qs, borne (L :: gr) ((best x r).2 :: qs) = n → borne gr qs = lb L n (cnt L (best x r).2) := fun qs h => by
      have h' : cnt L (best x r).2 + L.b * borne gr qs = n := h
      refine Int.eq_of_mul_eq_mul_left (Int.ne_of_gt b0) ?_
      rw [k1, ← h', add_less]
    have hc := ch_cons ho
    obtain ⟨r1, r2, er⟩ := List.append_of_mem ((mem_rods okL).mpr z1)
    have so1 : ∀ a ∈ r1, ltp a (best x r).2 := fun a ha => by
      have := rods_sorted L
      rw [er, List.pairwise_append] at this
      exact this.2.2 a ha _ List.mem_cons_self
    clear e2 z1 z2 z3 k1 ho e1 hv
    have sq : ∀ {a qs}, a ∈ rods L → qs ∈ allS gr → StOk (L :: gr) (a :: qs) := fun h1 h2 => ⟨(mem_rods okL).mp h1, (mem_allS ok.tail).mp h2⟩
    refine ⟨r1.flatMap (fun a => (allS gr).map (a :: ·)) ++ i1.map ((best x r).2 :: ·), i2.map ((best x r).2 :: ·) ++ r2.flatMap (fun a => (allS gr).map (a :: ·)), ?_, ?_, ?_⟩
    · have em : (allS gr).map ((best x r).2 :: ·) = i1.map ((best x r).2 :: ·) ++ ch w (L :: gr) (p :: st) n :: i2.map ((best x r).2 :: ·) := by
        rw [ie, List.map_append, List.map_cons, hc]
      rw [allS, er, List.flatMap_append, List.flatMap_cons, em]
      simp only [List.append_assoc, List.cons_append]
    · intro y hy hb
      rcases List.mem_append.mp hy with h | h
      · obtain ⟨a, ha, h'⟩ := List.mem_flatMap.mp h
        obtain ⟨qs, hq, rfl⟩ := List.mem_map.mp h'
        rw [fo]
        exact (ge (sq (by rw [er]; exact List.mem_append_left _ ha) hq) hb).2 (so1 a ha)
      · obtain ⟨qs, hq, rfl⟩ := List.mem_map.mp h
        have := ia qs hq (rest qs hb)
        rw [hc, fp_cons, fp_cons]
        exact Int.add_lt_add_left this _
    · intro y hy hb
      rcases List.mem_append.mp hy with h | h
      · obtain ⟨qs, hq, rfl⟩ := List.mem_map.mp h
        have := ib qs hq (rest qs hb)
        rw [hc, fp_cons, fp_cons]
        exact Int.add_le_add_left this _
      · obtain ⟨a, ha, h'⟩ := List.mem_flatMap.mp h
        obtain ⟨qs, hq, rfl⟩ := List.mem_map.mp h'
        rw [fo]
        exact (ge (sq (by rw [er]; exact List.mem_append_right _ (List.mem_cons_of_mem _ ha)) hq) hb).1
noncomputable def due1 (f : List (Int × Int) → Int) (acc : Option (Int × List (Int × Int))) (x : List (Int × Int)) : Option (Int × List (Int × Int)) :=
  if acc.all (fun a => decide (f x < a.1)) then some (f x, x) else acc
private theorem due_before {f : List (Int × Int) → Int} {v : Int} : ∀ (l : List (List (Int × Int))) (acc : Option (Int × List (Int × Int))), (∀ x ∈ l, v < f x) → (∀ a, acc = some a → v < a.1) → ∀ a, l.foldl (due1 f) acc = some a → v < a.1
  | [], _, _, h => h
  | x :: l, acc, hl, h => due_before l (due1 f acc x) (fun y hy => hl y (List.mem_cons_of_mem _ hy)) fun a ha => by
    unfold due1 at ha
    split at ha
    · cases ha; exact hl x List.mem_cons_self
    · exact h a ha
private theorem due_behind {f : List (Int × Int) → Int} {v : Int} {c : List (Int × Int)} : ∀ (l : List (List (Int × Int))), (∀ x ∈ l, v ≤ f x) → l.foldl (due1 f) (some (v, c)) = some (v, c)
  | [], _ => rfl
  | x :: l, hl => by
    have e : due1 f (some (v, c)) x = some (v, c) := by
      unfold due1
      rw [if_neg]
      rw [Option.all_some, decide_eq_true_eq]
      exact Int.not_lt.mpr (hl x List.mem_cons_self)
    rw [List.foldl_cons, e]
    exact due_behind l fun y hy => hl y (List.mem_cons_of_mem _ hy)
private theorem due_first {f : List (Int × Int) → Int} {g : List (Int × Int) → Bool} {zs : List (List (Int × Int))} {c : List (Int × Int)} (h : First f (fun x => g x = true) zs c) (gc : g c = true) : (zs.filter g).foldl (due1 f) none = some (f c, c) := by
  obtain ⟨l1, l2, rfl, h1, h2⟩ := h
  rw [List.filter_append, List.filter_cons_of_pos gc, List.foldl_append, List.foldl_cons]
  have b := due_before (f := f) (v := f c) (l1.filter g) none (fun x hx => h1 x (List.mem_filter.mp hx).1 (List.mem_filter.mp hx).2) (fun _ e => (nomatch e))
  have e : due1 f ((l1.filter g).foldl (due1 f) none) c = some (f c, c) := by
    generalize (l1.filter g).foldl (due1 f) none = acc at b ⊢
    unfold due1
    cases acc with
    | none => exact if_pos rfl
    | some a =>
      rw [if_pos]
      rw [Option.all_some, decide_eq_true_eq]
      exact b a rfl
  rw [e]
  exact due_behind _ fun x hx => h2 x (List.mem_filter.mp hx).1 (List.mem_filter.mp hx).2
end Gen
-- with layok mixa frok plc standing count full plain1 borne0 zborne dicti price tkeys tvals down ttable ttabix toffer tmatha tmathb tcheap lborneb lrods tfull tfirst
namespace Gen
open PySem L2 L3
private theorem lay33_hi {W B z x : Int} (w0 : 1 ≤ W ∧ W ≤ 3) (b0 : 2 ≤ B ∧ B ≤ 4) (x0 : 0 ≤ x ∧ x ≤ 1) (hz : (if B - 1 - W > W - 1 then B - 1 - W else W - 1) = z) : LayOk ⟨1, W, z + x, B⟩ ∧ 1 * W + (z + x) ≤ 25 ∧ (1 : Int) ≤ 1 ∧ z + x ≤ 4 := by
  have z1 : W - 1 ≤ z ∧ B - 1 - W ≤ z ∧ z ≤ 2 := by
    subst hz
    clear x0
    split <;> omega
  clear hz
  have a : 0 ≤ z + x ∧ z + x ≤ 4 ∧ B ≤ 1 * W + (z + x) + 1 ∧ W ≤ z + x + 1 ∧ 1 * W + (z + x) ≤ 25 := by omega
  obtain ⟨a1, a2, a4, a5, a6⟩ := a
  exact ⟨⟨(by decide : (0 : Int) ≤ 1), (by decide : (1 : Int) ≤ 6), w0.1, Int.le_trans w0.2 (by decide), a1, Int.le_trans a2 (by decide), b0.1, Int.le_trans b0.2 (by decide), a4, fun e => absurd e (by decide : ¬ (1 : Int) = 0), fun _ => a5⟩, a6, Int.le_refl _, a2⟩
private theorem lay33_lo {B x : Int} (b0 : 2 ≤ B ∧ B ≤ 4) (x0 : 0 ≤ x ∧ x ≤ 1) : LayOk ⟨0, 1, B - 1 + x, B⟩ ∧ 0 * 1 + (B - 1 + x) ≤ 25 ∧ (0 : Int) ≤ 1 ∧ B - 1 + x ≤ 4 := by
  have a : 0 ≤ B - 1 + x ∧ B - 1 + x ≤ 4 ∧ B ≤ 0 * 1 + (B - 1 + x) + 1 ∧ 0 * 1 + (B - 1 + x) ≤ 25 := by omega
  obtain ⟨a1, a2, a4, a6⟩ := a
  exact ⟨⟨Int.le_refl _, (by decide : (0 : Int) ≤ 6), Int.le_refl _, (by decide : (1 : Int) ≤ 20), a1, Int.le_trans a2 (by decide), b0.1, Int.le_trans b0.2 (by decide), a4, fun _ => rfl, fun e => absurd e (Int.lt_irrefl 0)⟩, a6, by decide, a2⟩
private theorem lay33_run {n B U W x z : Int} (hW : 1 + n / 64 % 3 = W) (hB : 2 + n % 3 = B) (hU : n / 8 % 2 = U) (hx : n / 256 % 2 = x) (hd : decide (0 < U) = true) (hz : (if B - 1 - W > W - 1 then B - 1 - W else W - 1) = z) :
    f__law_layout [.i n] = some (.sh (Lay.d ⟨U, W, z + x, B⟩)) := by
  simp only [f__law_layout, g__law_layout]
  walk_at "ev*"
private theorem lay33_run0 {n B U x : Int} (hB : 2 + n % 3 = B) (hU : n / 8 % 2 = U) (hx : n / 256 % 2 = x) (hd : decide (0 < U) = false) : f__law_layout [.i n] = some (.sh (Lay.d ⟨U, 1, B - 1 + x, B⟩)) := by
  simp only [f__law_layout, g__law_layout]
  walk_at "ev*"
noncomputable def Tiny (L : Lay) : Prop := L.u * L.w + L.l ≤ 25 ∧ L.u ≤ 1 ∧ L.l ≤ 4
private theorem lay33 (n : Int) : ∃ L : Lay, f__law_layout [.i n] = some (.sh L.d) ∧ LayOk L ∧ Tiny L := by
  have b0 : 2 ≤ 2 + n % 3 ∧ 2 + n % 3 ≤ 4 := by omega
  have x0 : 0 ≤ n / 256 % 2 ∧ n / 256 % 2 ≤ 1 := by clear b0; omega
  have w0 : 1 ≤ 1 + n / 64 % 3 ∧ 1 + n / 64 % 3 ≤ 3 := by clear b0 x0; omega
  have u0 : n / 8 % 2 = 0 ∨ n / 8 % 2 = 1 := by clear b0 x0 w0; omega
  rcases u0 with h | h
  · exact ⟨_, lay33_run0 rfl h rfl (by decide), lay33_lo b0 x0⟩
  · exact ⟨_, lay33_run rfl rfl h rfl (by decide) rfl, lay33_hi w0 b0 x0 rfl⟩
private theorem rods_ten {L : Lay} (ok : LayOk L) (t : Tiny L) : (rods L).length ≤ 10 := by
  have h := t.2
  have u0 := ok.u0
  have l0 := ok.l0
  unfold rods
  rw [List.length_flatMap]
  simp only [List.length_map, List.length_range]
  rw [List.map_const', List.sum_replicate_nat, List.length_range]
  exact Nat.mul_le_mul (show (L.u + 1).toNat ≤ 2 by omega) (show (L.l + 1).toNat ≤ 5 by omega)
noncomputable abbrev stD (qs : List (Int × Int)) : D := .l (qs.map prD)
noncomputable def longer (L : Lay) (zs : List (List (Int × Int))) : List (List (Int × Int)) := zs.flatMap fun z => (rods L).map fun o => z ++ [o]
private theorem longer_len {L : Lay} (h : (rods L).length ≤ 10) (zs : List (List (Int × Int))) : (longer L zs).length ≤ zs.length * 10 := by
  unfold longer
  rw [List.length_flatMap]
  simp only [List.length_map]
  rw [List.map_const', List.sum_replicate_nat]
  exact Nat.mul_le_mul_left _ h
private theorem all_row {L : Lay} {z : List (Int × Int)} (hz : z.length ≤ 1000) : compG (nameG 0) yesT e__law_all_1 ((rods L).map prD) [.un, .sh (stD z)] = some (((rods L).map fun o => z ++ [o]).map stD) := by
  rw [List.map_map]
  refine compG_map (enc := prD) (F := stD ∘ fun o => z ++ [o]) (fun ρ => ∃ a, ρ = [a, .sh (stD z)]) ⟨_, rfl⟩ fun o _ ρ zq9 => ?_
  obtain ⟨a, e⟩ := zq9
  subst e
  have ad : addL (.l (z.map prD)) (.l [prD o]) = some (.ac ((z ++ [o]).map prD)) := by
    rw [addL_l (by rw [List.length_map]; exact Nat.le_trans (Nat.add_le_add_right hz 1) (by decide)), List.map_append]; rfl
  refine ⟨[.sh (prD o), .sh (stD z)], .ac ((z ++ [o]).map prD), rfl, ⟨_, rfl⟩, ?_, rfl⟩
  simp only [e__law_all_1, stD]
  walk_at "ev*"
private theorem all_inner {L : Lay} (ok : LayOk L) (r10 : (rods L).length ≤ 10) {s0 s1 : Sl} : ∀ (zs acc : List (List (Int × Int))) (x4 : Sl), (∀ z ∈ zs, z.length ≤ 1000) → acc.length + zs.length * 10 ≤ 100000 →
    ∃ y4, forG (nameG 4) b__law_all_2 (zs.map stD) [s0, s1, .sh L.d, .ac (acc.map stD), x4] = some (.nx [s0, s1, .sh L.d, .ac ((acc ++ longer L zs).map stD), y4])
  | [], acc, x4, _, _ => ⟨x4, by rw [List.map_nil, forG_nil, longer, List.flatMap_nil, List.append_nil]⟩
  | z :: zs, acc, x4, hz, hn => by
    rw [List.length_cons] at hn
    have lr := law_rods_eq ok
    have row := all_row (L := L) (hz z List.mem_cons_self)
    have l1 : ((rods L).map fun o => z ++ [o]).length ≤ 10 := by rw [List.length_map]; exact r10
    have ad : addL (.l (acc.map stD)) (.l (((rods L).map fun o => z ++ [o]).map stD)) = some (.ac ((acc ++ (rods L).map fun o => z ++ [o]).map stD)) := by
      rw [addL_l (by rw [List.length_map, List.length_map]; omega), List.map_append]
    have rl : ((rods L).map prD).length < 10000000 := by rw [List.length_map]; omega
    obtain ⟨y4, ih⟩ := all_inner ok r10 (s0 := s0) (s1 := s1) zs (acc ++ (rods L).map fun o => z ++ [o]) (.sh (stD z)) (fun y hy => hz y (List.mem_cons_of_mem _ hy)) (by rw [List.length_append]; omega)
    refine ⟨y4, ?_⟩
    have e : acc ++ longer L (z :: zs) = acc ++ ((rods L).map fun o => z ++ [o]) ++ longer L zs := by
      rw [longer, List.flatMap_cons, List.append_assoc]; rfl
    rw [e, List.map_cons, forG_step (ρ1 := [s0, s1, .sh L.d, .ac (acc.map stD), .sh (stD z)]) (ρ2 := [s0, s1, .sh L.d, .ac ((acc ++ (rods L).map fun o => z ++ [o]).map stD), .sh (stD z)]) rfl (by
      simp only [b__law_all_2]
      clear ih e ok hz hn l1 r10
      generalize (acc ++ (rods L).map fun o => z ++ [o]).map stD = A2 at *
      generalize ((rods L).map fun o => z ++ [o]).map stD = A1 at *
      generalize acc.map stD = A0 at *
      generalize stD z = Z at *
      generalize (rods L).map prD = R at *
      walk_at "ev*"), ih]
private theorem longer_all {L : Lay} {gr : List Lay} (zs : List (List (Int × Int))) : (longer L zs).flatMap (fun y => (allS gr).map (y ++ ·)) = zs.flatMap fun z => (allS (L :: gr)).map (z ++ ·) := by
  unfold longer
  rw [List.flatMap_assoc]
  congr 1
  funext z
  rw [allS, List.map_flatMap, List.flatMap_map]
  congr 1
  funext o
  rw [List.map_map]
  congr 1
  funext s
  show z ++ [o] ++ s = z ++ (o :: s)
  rw [List.append_assoc]; rfl
private theorem all_outer {s0 : Sl} : ∀ (gr : List Lay) (zs : List (List (Int × Int))) (s1 x2 x3 x4 : Sl), FrOk gr → (∀ L ∈ gr, Tiny L) → s1.vw = .sh (.l (zs.map stD)) → (∀ z ∈ zs, z.length + gr.length ≤ 1000) → zs.length * 10 ^ gr.length ≤ 10000 →
    ∃ y1 y2 y3 y4, forG (nameG 2) b__law_all_3 (gr.map Lay.d) [s0, s1, x2, x3, x4] = some (.nx [s0, y1, y2, y3, y4]) ∧ y1.vw = .sh (.l ((zs.flatMap fun z => (allS gr).map (z ++ ·)).map stD))
  | [], zs, s1, x2, x3, x4, _, _, h1, _, _ => ⟨s1, x2, x3, x4, rfl, by
      rw [h1]
      have e : (zs.flatMap fun z => (allS []).map (z ++ ·)) = zs := by
        simp [allS]
      rw [e]⟩
  | L :: gr, zs, s1, x2, x3, x4, ok, ti, h1, hz, hn => by
    have okL := ok L List.mem_cons_self
    have r10 := rods_ten okL (ti L List.mem_cons_self)
    rw [List.length_cons, Nat.pow_succ, Nat.mul_comm (10 ^ gr.length) 10, ← Nat.mul_assoc] at hn
    have hp : 0 < 10 ^ gr.length := Nat.pow_pos (by decide)
    have hn1 : zs.length * 10 ≤ 10000 := Nat.le_trans (Nat.le_mul_of_pos_right _ hp) hn
    obtain ⟨y4, lp⟩ := all_inner okL r10 (s0 := s0) (s1 := .sh (.l (zs.map stD))) zs [] x4 (fun z hz' => Nat.le_trans (Nat.le_add_right _ _) (hz z hz')) (by rw [List.length_nil]; omega)
    rw [List.map_nil, List.nil_append] at lp
    obtain ⟨z1, z2, z3, z4, ih, ihv⟩ := all_outer (s0 := s0) gr (longer L zs) (.sh (.l ((longer L zs).map stD))) (.sh L.d) (.sh (.l ((longer L zs).map stD))) y4 ok.tail (fun K hK => ti K (List.mem_cons_of_mem _ hK)) rfl (fun y hy => by
      obtain ⟨z, hz', hy'⟩ := List.mem_flatMap.mp hy
      obtain ⟨o, _, rfl⟩ := List.mem_map.mp hy'
      have := hz z hz'
      rw [List.length_cons] at this
      rw [List.length_append, List.length_singleton]
      omega) (Nat.le_trans (Nat.mul_le_mul_right _ (longer_len r10 zs)) hn)
    refine ⟨z1, z2, z3, z4, ?_, by rw [ihv, longer_all]⟩
    rw [List.map_cons, forG_step (ρ1 := [s0, s1, .sh L.d, x3, x4]) (ρ2 := [s0, .sh (.l ((longer L zs).map stD)), .sh L.d, .sh (.l ((longer L zs).map stD)), y4]) rfl (by
      have zl : (zs.map stD).length < 10000000 := by rw [List.length_map]; omega
      simp only [b__law_all_3]
      clear ih ihv ok ti hz hn hn1 hp okL r10
      generalize (longer L zs).map stD = A at *
      generalize zs.map stD = Z at *
      walk_at "ev*"), ih]
private theorem law_all_eq {fr : List Lay} (ok : FrOk fr) (ti : ∀ L ∈ fr, Tiny L) (hl : fr.length ≤ 3) : ∃ r, f__law_all [.l (fr.map Lay.d)] = some r ∧ r.vw = .sh (.l ((allS fr).map stD)) := by
  obtain ⟨y1, y2, y3, y4, lp, v⟩ := all_outer (s0 := .sh (.l (fr.map Lay.d))) fr [[]] (.ac [.l []]) .un .un .un ok ti rfl (fun z hz => by
    cases List.mem_singleton.mp hz
    rw [List.length_nil]; omega) (by
      rw [List.length_singleton, Nat.one_mul]
      exact Nat.le_trans (Nat.pow_le_pow_right (by decide) hl) (by decide))
  have e : ([[]].flatMap fun z : List (Int × Int) => (allS fr).map (z ++ ·)) = allS fr := by simp
  rw [e] at v
  refine ⟨y1, ?_, v⟩
  clear ok ti
  cases y1 with
  | un => cases v
  | ad ks ds => cases v
  | sh d =>
    clear v
    simp only [f__law_all, g__law_all]
    walk_at "ev*"
  | ac ds =>
    clear v
    simp only [f__law_all, g__law_all]
    walk_at "ev*"
private theorem apart_eq (a c : Int) : (if c > a then c else a) - (if c < a then c else a) = if a - c < 0 then -(a - c) else a - c := by
  split <;> split <;> split <;> omega
private theorem law_price_eq {w : Nat} (hw : w < 3) {p q : Int × Int} : f__law_rod_price [.i (w : Nat), prD p, prD q] = some (.sh (.i (rp w p q))) := by
  obtain ⟨a, b⟩ := p
  obtain ⟨c, d⟩ := q
  match w, hw with
  | 0, _ =>
    simp only [f__law_rod_price, g__law_rod_price, rp, prD_mk]
    walk_at "ev"
    rfl
  | 1, _ =>
    have e1 : ((1 : Int) == 0) = false := rfl
    show f__law_rod_price [.i 1, _, _] = _
    simp only [f__law_rod_price, g__law_rod_price, rp, prD_mk]
    cases h : (a == c) with
    | true => walk_at "ev*"
    | false => walk_at "ev*"
  | 2, _ =>
    have e1 : ((2 : Int) == 0) = false := rfl
    have e2 : ((2 : Int) == 1) = false := rfl
    show f__law_rod_price [.i 2, _, _] = _
    simp only [f__law_rod_price, g__law_rod_price, rp, prD_mk]
    walk_at "ev*"
    rw [Int.add_sub_assoc, apart_eq, apart_eq]
private theorem price_loop {w : Nat} (hw : w < 3) {s0 s1 s3 s4 : Sl} : ∀ (st qs : List (Int × Int)) (a : Int) (x6 x7 : Sl),
    ∃ y6 y7, forG (tupG 2 (consG (nameG 6) (consG (nameG 7) nilG))) b__law_due_1 ((st.zip qs).map fun z => D.t [prD z.1, prD z.2]) [s0, s1, .sh (.i (w : Nat)), s3, s4, .sh (.i a), x6, x7] = some (.nx [s0, s1, .sh (.i (w : Nat)), s3, s4, .sh (.i (a + fp w st qs)), y6, y7])
  | [], qs, a, x6, x7 => ⟨x6, x7, by rw [List.zip_nil_left, List.map_nil, forG_nil, show fp w [] qs = 0 from rfl, Int.add_zero]⟩
  | p :: st, [], a, x6, x7 => ⟨x6, x7, by rw [List.zip_nil_right, List.map_nil, forG_nil, show fp w (p :: st) [] = 0 from rfl, Int.add_zero]⟩
  | p :: st, q :: qs, a, x6, x7 => by
    have lp := law_price_eq hw (p := p) (q := q)
    obtain ⟨y6, y7, ih⟩ := price_loop hw (s0 := s0) (s1 := s1) (s3 := s3) (s4 := s4) st qs (a + rp w p q) (.sh (prD p)) (.sh (prD q))
    refine ⟨y6, y7, ?_⟩
    rw [fp_cons, ← Int.add_assoc, List.zip_cons_cons, List.map_cons, forG_step (ρ1 := [s0, s1, .sh (.i (w : Nat)), s3, s4, .sh (.i a), .sh (prD p), .sh (prD q)]) (ρ2 := [s0, s1, .sh (.i (w : Nat)), s3, s4, .sh (.i (a + rp w p q)), .sh (prD p), .sh (prD q)]) rfl (by
      simp only [b__law_due_1]
      clear ih
      walk_at "ev*"), ih]
noncomputable def dueD : Option (Int × List (Int × Int)) → D
  | none => .n
  | some a => .t [.i a.1, stD a.2]
private theorem due_loop {w : Nat} (hw : w < 3) {st : List (Int × Int)} (hl : st.length ≤ 1000) {s1 : Sl} : ∀ (zs : List (List (Int × Int))) (acc : Option (Int × List (Int × Int))) (x4 x5 x6 x7 : Sl),
    ∃ y4 y5 y6 y7, forG (nameG 4) b__law_due_2 (zs.map stD) [.sh (stD st), s1, .sh (.i (w : Nat)), .sh (dueD acc), x4, x5, x6, x7] = some (.nx [.sh (stD st), s1, .sh (.i (w : Nat)), .sh (dueD (zs.foldl (due1 (fp w st)) acc)), y4, y5, y6, y7])
  | [], acc, x4, x5, x6, x7 => ⟨x4, x5, x6, x7, rfl⟩
  | z :: zs, acc, x4, x5, x6, x7 => by
    obtain ⟨u6, u7, lp⟩ := price_loop hw (s0 := .sh (stD st)) (s1 := s1) (s3 := .sh (dueD acc)) (s4 := .sh (stD z)) st z 0 x6 x7
    rw [Int.zero_add] at lp
    obtain ⟨y4, y5, y6, y7, ih⟩ := due_loop hw hl (s1 := s1) zs (due1 (fp w st) acc z) (.sh (stD z)) (.sh (.i (fp w st z))) u6 u7
    refine ⟨y4, y5, y6, y7, ?_⟩
    have zl : (st.zip z).length < 10000000 := by rw [List.length_zip]; omega
    rw [List.map_cons, List.foldl_cons, forG_step (ρ1 := [.sh (stD st), s1, .sh (.i (w : Nat)), .sh (dueD acc), .sh (stD z), x5, x6, x7]) (ρ2 := [.sh (stD st), s1, .sh (.i (w : Nat)), .sh (dueD (due1 (fp w st) acc z)), .sh (stD z), .sh (.i (fp w st z)), u6, u7]) rfl (by
      simp only [b__law_due_2]
      clear ih
      cases acc with
      | none =>
        have e : due1 (fp w st) none z = some (fp w st z, z) := if_pos rfl
        rw [e]
        clear e
        generalize fp w st z = P at *
        simp only [dueD, stD] at *
        walk_at "ev*"
      | some a =>
        obtain ⟨v, c⟩ := a
        have i0 : ixA (.t [.i v, stD c]) (.i 0) = some (.sh (.i v)) := rfl
        cases hd : decide (fp w st z < v) with
        | true =>
          have e : due1 (fp w st) (some (v, c)) z = some (fp w st z, z) := if_pos hd
          rw [e]
          clear e
          generalize fp w st z = P at *
          simp only [dueD, stD] at *
          walk_at "ev*"
        | false =>
          have e : due1 (fp w st) (some (v, c)) z = some (v, c) := if_neg (by rw [Option.all_some, hd]; decide)
          rw [e]
          clear e
          generalize fp w st z = P at *
          simp only [dueD, stD] at *
          walk_at "ev*"), ih]
private theorem law_due_eq {w : Nat} (hw : w < 3) {st : List (Int × Int)} (hl : st.length ≤ 1000) {zs : List (List (Int × Int))} (zl : zs.length < 10000000) : f__law_due [stD st, .l (zs.map stD), .i (w : Nat)] = some (.sh (dueD (zs.foldl (due1 (fp w st)) none))) := by
  obtain ⟨y4, y5, y6, y7, lp⟩ := due_loop hw hl (s1 := .sh (.l (zs.map stD))) zs none .un .un .un .un
  have zm : (zs.map stD).length < 10000000 := by rw [List.length_map]; exact zl
  have dn : dueD none = .n := rfl
  rw [dn] at lp
  simp only [f__law_due, g__law_due]
  generalize dueD (zs.foldl (due1 (fp w st)) none) = R at *
  generalize zs.map stD = Z at *
  generalize stD st = S at *
  clear zl dn
  walk_at "ev*"
private theorem right_due {w : Nat} (hw : w < 3) {fr : List Lay} {st : List (Int × Int)} (ok : FrOk fr) (f25 : Fr25 fr) (so : StOk fr st) (h1 : 1 ≤ fr.length) (hl : fr.length ≤ 20) {n : Int} (n0 : 0 ≤ n) :
    f__law_right [.l (fr.map Lay.d), stD st, .i n, .o (cn w) [] [], dueD (((allS fr).filter fun x => borne fr x == n).foldl (due1 (fp w st)) none)] = some (.sh (.b true)) := by
  cases hv : V w fr st n with
  | none =>
    have e : ((allS fr).filter fun x => borne fr x == n) = [] := List.filter_eq_nil_iff.mpr fun x hx z => by
      obtain ⟨v, q, _⟩ := V_min (w := w) ok so ((mem_allS ok).mp hx)
      rw [eq_of_beq z, hv] at q
      cases q
    rw [e]
    obtain ⟨e1, e2⟩ := cheapest_ex hw ok f25 so h1 hl n0 hv
    have ae : fldX ["TooGreat"] "rod" (.x "TooGreat" ["rod"] [.i ((fr.length : Int) - 1)]) = some (.sh (.i ((fr.length : Int) - 1))) := fldX_one (by decide)
    simp only [f__law_right, g__law_right, b__law_right_1, List.foldl_nil, dueD]
    clear ok f25 so hv e hw h1 hl n0
    generalize D.o (cn w) [] [] = pr at *
    walk_at "ev*"
  | some v =>
    obtain ⟨g1, g2, g3⟩ := ch_good fr st n v ok so n0 hv
    obtain ⟨l1, l2, e, la, lb⟩ := ch_first ok so n0 hv
    rw [due_first (c := ch w fr st n) ⟨l1, l2, e, fun x hx z => la x hx (eq_of_beq z), fun x hx z => lb x hx (eq_of_beq z)⟩ (beq_iff_eq.mpr g2), g3]
    have ce := cheapest_ok hw ok f25 so h1 hl n0 hv
    have i1 : ixA (.t [.i v, stD (ch w fr st n)]) (.i 1) = some (.sh (stD (ch w fr st n))) := rfl
    have ee := eqO_stand (st := ch w fr st n)
    have ht : subT "list" "list" = true := rfl
    simp only [f__law_right, g__law_right, b__law_right_1, dueD]
    clear ok f25 so hv e hw h1 hl n0 g1 g2 g3 la lb
    generalize ch w fr st n = cs at *
    generalize D.o (cn w) [] [] = pr at *
    simp only [stD] at *
    walk_at "ev*"
private theorem handed_ok (fr : List Lay) (st : List (Int × Int)) : okE 60 (.l [.l (fr.map Lay.d), .l (st.map prD)]) = true := by
  have a : okE 59 (.l (fr.map Lay.d)) = true := okE_map (n := 58) (okE_lay' (n := 57)) fr
  have b : okE 59 (.l (st.map prD)) = true := okE_map (n := 58) (okE_pr (n := 57)) st
  simp only [okE, okEs] at a b ⊢
  simp [a, b]
noncomputable abbrev prs : List D := [.o "ByMoves" [] [], .o "ByGrips" [] [], .o "ByBeads" [] []]
private theorem prs_ix {w : Nat} (hw : w < 3) : ixA (.l prs) (.i (w : Nat)) = some (.sh (.o (cn w) [] [])) := by
  match w, hw with
  | 0, _ => rfl
  | 1, _ => rfl
  | 2, _ => rfl
private theorem way_loop {fr : List Lay} {st : List (Int × Int)} (ok : FrOk fr) (f25 : Fr25 fr) (so : StOk fr st) (h1 : 1 ≤ fr.length) (hl : fr.length ≤ 20) {n : Int} (n0 : 0 ≤ n) {s0 s2 s4 s5 : Sl} {zs : List (List (Int × Int))} (hz : zs = (allS fr).filter fun x => borne fr x == n) (zl : zs.length < 10000000) :
    ∀ (ws : List Nat) (s7 x9 x10 x11 : Sl), (∀ w ∈ ws, w < 3) → s7.vw = .sh (.l (zs.map stD)) →
    ∃ y7 y9 y10 y11, forG (nameG 9) b_law_1 (ws.map fun k => D.i (0 + (k : Nat))) [s0, .sh (.l (fr.map Lay.d)), s2, .sh (stD st), s4, s5, .sh (.i n), s7, .ac prs, x9, x10, x11] =
      some (.nx [s0, .sh (.l (fr.map Lay.d)), s2, .sh (stD st), s4, s5, .sh (.i n), y7, .ac prs, y9, y10, y11])
  | [], s7, x9, x10, x11, _, _ => ⟨s7, x9, x10, x11, rfl⟩
  | w :: ws, s7, x9, x10, x11, hw, h7 => by
    have hw' := hw w List.mem_cons_self
    have sl : st.length ≤ 1000 := by rw [so.length]; omega
    have ld := law_due_eq hw' sl zl
    have lr := right_due hw' ok f25 so h1 hl n0
    rw [← hz] at lr
    have pix := prs_ix hw'
    have nh := neO_same (handed_ok fr st)
    have i0 : ∀ a b : D, ixA (.l [a, b]) (.i 0) = some (.sh a) := fun _ _ => rfl
    have i1 : ∀ a b : D, ixA (.l [a, b]) (.i 1) = some (.sh b) := fun _ _ => rfl
    obtain ⟨y7, y9, y10, y11, ih⟩ := way_loop ok f25 so h1 hl n0 (s0 := s0) (s2 := s2) (s4 := s4) (s5 := s5) hz zl ws (.sh (.l (zs.map stD))) (.sh (.i (w : Nat))) (.ac [.l (fr.map Lay.d), stD st]) (.sh (dueD (zs.foldl (due1 (fp w st)) none))) (fun v hv => hw v (List.mem_cons_of_mem _ hv)) rfl
    refine ⟨y7, y9, y10, y11, ?_⟩
    rw [List.map_cons, Int.zero_add, forG_step (ρ1 := [s0, .sh (.l (fr.map Lay.d)), s2, .sh (stD st), s4, s5, .sh (.i n), s7, .ac prs, .sh (.i (w : Nat)), x10, x11])
      (ρ2 := [s0, .sh (.l (fr.map Lay.d)), s2, .sh (stD st), s4, s5, .sh (.i n), .sh (.l (zs.map stD)), .ac prs, .sh (.i (w : Nat)), .ac [.l (fr.map Lay.d), stD st], .sh (dueD (zs.foldl (due1 (fp w st)) none))]) rfl (by
        simp only [b_law_1]
        clear ih ok f25 so h1 hl n0 hz zl hw hw' sl
        generalize dueD (zs.foldl (due1 (fp w st)) none) = R at *
        generalize zs.map stD = Z at *
        generalize prs = P at *
        generalize D.o (cn w) [] [] = pr at *
        simp only [stD] at *
        walk_at "ev*"), ih]
private theorem comp_filter {α : Type} {enc : α → D} {g : α → Bool} {h : D → List Sl → Option (List Sl)} {ts : List Sl → Option Bool} {f : List Sl → Option Sl} (P : List Sl → Prop) : ∀ {xs : List α} {ρ : List Sl}, P ρ →
    (∀ x ∈ xs, ∀ ρ, P ρ → ∃ ρ1 r, h (enc x) ρ = some ρ1 ∧ P ρ1 ∧ ts ρ1 = some (g x) ∧ f ρ1 = some r ∧ r.toD = enc x) → compG h ts f (xs.map enc) ρ = some ((xs.filter g).map enc)
  | [], _, _, _ => rfl
  | x :: xs, ρ, hp, hs => by
    obtain ⟨ρ1, r, e1, p1, e2, e3, e4⟩ := hs x List.mem_cons_self ρ hp
    have ih := comp_filter (f := f) (g := g) (ts := ts) (enc := enc) P p1 fun y hy => hs y (List.mem_cons_of_mem _ hy)
    rw [List.map_cons, compG, e1]
    dsimp only
    rw [e2]
    cases hg : g x with
    | true =>
      dsimp only
      rw [e3]
      dsimp only
      rw [ih, e4, List.filter_cons_of_pos hg]
      rfl
    | false =>
      dsimp only
      rw [ih, List.filter_cons_of_neg (by rw [hg]; decide)]
private theorem good_comp {fr : List Lay} (ok : FrOk fr) {n : Int} : compG (nameG 0) (tstF (opF eqO (callF f__law_borne (consF (rdF 2) (consF (rdF 0) nilF))) (rdF 1))) e_law_1 ((allS fr).map stD) [.un, .sh (.i n), .sh (.l (fr.map Lay.d))] = some (((allS fr).filter fun x => borne fr x == n).map stD) := by
  refine comp_filter (enc := stD) (g := fun x => borne fr x == n) (fun ρ => ∃ a, ρ = [a, .sh (.i n), .sh (.l (fr.map Lay.d))]) ⟨_, rfl⟩ fun x hx ρ zq9 => ?_
  obtain ⟨a, e⟩ := zq9
  subst e
  have lb := law_borne_eq ok ((mem_allS ok).mp hx)
  refine ⟨[.sh (stD x), .sh (.i n), .sh (.l (fr.map Lay.d))], .sh (stD x), rfl, ⟨_, rfl⟩, ?_, rfl, rfl⟩
  clear ok hx
  simp only [stD]
  walk_at "ev*"
private theorem num_loop {fr : List Lay} {st : List (Int × Int)} (ok : FrOk fr) (f25 : Fr25 fr) (so : StOk fr st) (h1 : 1 ≤ fr.length) (hl : fr.length ≤ 20) (al : (allS fr).length < 10000000) {s0 s4 s5 : Sl} :
    ∀ (ks : List Int) (x6 x7 x8 x9 x10 x11 : Sl), (∀ k ∈ ks, 0 ≤ k) →
    ∃ y6 y7 y8 y9 y10 y11, forG (nameG 6) b_law_3 (ks.map D.i) [s0, .sh (.l (fr.map Lay.d)), .sh (.l ((allS fr).map stD)), .sh (stD st), s4, s5, x6, x7, x8, x9, x10, x11] =
      some (.nx [s0, .sh (.l (fr.map Lay.d)), .sh (.l ((allS fr).map stD)), .sh (stD st), s4, s5, y6, y7, y8, y9, y10, y11])
  | [], x6, x7, x8, x9, x10, x11, _ => ⟨x6, x7, x8, x9, x10, x11, rfl⟩
  | n :: ks, x6, x7, x8, x9, x10, x11, hk => by
    have n0 := hk n List.mem_cons_self
    obtain ⟨zs, hz⟩ : ∃ zs, zs = (allS fr).filter fun x => borne fr x == n := ⟨_, rfl⟩
    have gc := good_comp ok (n := n)
    rw [← hz] at gc
    have zl : zs.length < 10000000 := by rw [hz]; exact Nat.lt_of_le_of_lt (List.length_filter_le _ _) al
    obtain ⟨z7, z9, z10, z11, lp⟩ := way_loop ok f25 so h1 hl n0 (s0 := s0) (s2 := .sh (.l ((allS fr).map stD))) (s4 := s4) (s5 := s5) hz zl (List.range (Int.toNat 3)) (.ac (zs.map stD)) x9 x10 x11 (fun w hw => List.mem_range.mp hw) rfl
    obtain ⟨y6, y7, y8, y9, y10, y11, ih⟩ := num_loop ok f25 so h1 hl al (s0 := s0) (s4 := s4) (s5 := s5) ks (.sh (.i n)) z7 (.ac prs) z9 z10 z11 fun k h => hk k (List.mem_cons_of_mem _ h)
    refine ⟨y6, y7, y8, y9, y10, y11, ?_⟩
    have am : ((allS fr).map stD).length < 10000000 := by rw [List.length_map]; exact al
    rw [List.map_cons, forG_step (ρ1 := [s0, .sh (.l (fr.map Lay.d)), .sh (.l ((allS fr).map stD)), .sh (stD st), s4, s5, .sh (.i n), x7, x8, x9, x10, x11])
      (ρ2 := [s0, .sh (.l (fr.map Lay.d)), .sh (.l ((allS fr).map stD)), .sh (stD st), s4, s5, .sh (.i n), z7, .ac prs, z9, z10, z11]) rfl (by
        simp only [b_law_3]
        clear ih ok f25 so h1 hl n0 hz hk zl al
        generalize (allS fr).map stD = A at *
        generalize zs.map stD = Z at *
        generalize stD st = S at *
        generalize fr.map Lay.d = F at *
        walk_at "ev*"), ih]
private theorem all_len : ∀ {fr : List Lay}, FrOk fr → (∀ L ∈ fr, Tiny L) → (allS fr).length ≤ 10 ^ fr.length
  | [], _, _ => Nat.le_refl _
  | L :: fr, ok, ti => by
    rw [allS, List.length_flatMap]
    simp only [List.length_map]
    rw [List.map_const', List.sum_replicate_nat, List.length_cons, Nat.pow_succ, Nat.mul_comm (10 ^ _) 10]
    exact Nat.mul_le_mul (rods_ten (ok L List.mem_cons_self) (ti L List.mem_cons_self)) (all_len ok.tail fun K hK => ti K (List.mem_cons_of_mem _ hK))
private theorem pick (c : Int) {xs : List (List (Int × Int))} (h : 0 < xs.length) : ∃ x ∈ xs, ixA (.l (xs.map stD)) (.i (c % (xs.length : Int))) = some (.sh (stD x)) := by
  have l0 : (0 : Int) < (xs.length : Int) := Int.ofNat_lt.mpr h
  have m0 := Int.emod_nonneg c (Int.ne_of_gt l0)
  have m1 := Int.emod_lt_of_pos c l0
  have hi : (c % (xs.length : Int)).toNat < xs.length := by omega
  exact ⟨xs[(c % (xs.length : Int)).toNat], List.getElem_mem hi, ixA_map m0 (List.getElem?_eq_getElem hi)⟩
private theorem most_comp {fr : List Lay} (ok : FrOk fr) : compG (nameG 0) yesT e_law_2 ((allS fr).map stD) [.un, .sh (.l (fr.map Lay.d))] = some (((allS fr).map (borne fr)).map D.i) := by
  rw [List.map_map]
  refine compG_map (enc := stD) (F := D.i ∘ borne fr) (fun ρ => ∃ a, ρ = [a, .sh (.l (fr.map Lay.d))]) ⟨_, rfl⟩ fun x hx ρ zq9 => ?_
  obtain ⟨a, e⟩ := zq9
  subst e
  have lb := law_borne_eq ok ((mem_allS ok).mp hx)
  refine ⟨[.sh (stD x), .sh (.l (fr.map Lay.d))], .sh (.i (borne fr x)), rfl, ⟨_, rfl⟩, ?_, rfl⟩
  clear ok hx
  simp only [e_law_2, stD]
  walk_at "ev*"
private theorem three_ix {a b c : Int} (k : Int) (a0 : 0 ≤ a) (b0 : 0 ≤ b) (c0 : 0 ≤ c) : ∃ x, 0 ≤ x ∧ ixA (.l [.i a, .i b, .i c]) (.i (k % 3)) = some (.sh (.i x)) := by
  have h : k % 3 = 0 ∨ k % 3 = 1 ∨ k % 3 = 2 := by clear a0 b0 c0; omega
  rcases h with h | h | h <;> rw [h]
  · exact ⟨_, a0, rfl⟩
  · exact ⟨_, b0, rfl⟩
  · exact ⟨_, c0, rfl⟩
private theorem law_true (ns : List Int) (h : ns.length ≤ 63) : f_law [.l (ns.map D.i)] = some (.sh (.b true)) := by
  obtain ⟨c0, hc0, _⟩ := mixed_ex ns (k := 0) (by decide) (by decide)
  obtain ⟨c1, hc1, _⟩ := mixed_ex ns (k := 1) (by decide) (by decide)
  obtain ⟨c2, hc2, _⟩ := mixed_ex ns (k := 2) (by decide) (by decide)
  obtain ⟨c3, hc3, _⟩ := mixed_ex ns (k := 3) (by decide) (by decide)
  obtain ⟨fr, hf, hlen, hr⟩ := compG_exR (out := Lay.d) (R := fun _ L => LayOk L ∧ Tiny L) (h := nameG 0) (f := e_law_3) (n := (1 + c0 % 3).toNat) (ρ := [.un, .sh (.l (ns.map D.i))]) (fun ρ => ∃ x, ρ = [x, .sh (.l (ns.map D.i))]) ⟨_, rfl⟩ fun i hi ρ zq9 => by
    obtain ⟨x, hx⟩ := zq9
    subst hx
    obtain ⟨c', hc', _⟩ := mixed_ex ns (k := 10 + (i : Int)) (by omega) (by omega)
    obtain ⟨L, hL, ok⟩ := lay33 c'
    refine ⟨_, L, .sh L.d, rfl, ⟨_, rfl⟩, ?_, rfl, ok⟩
    clear hc0 hc1 hc2 hc3 h hi
    simp only [e_law_3]
    walk_at "ev*"
  have ok : FrOk fr := fun L hL => by
    obtain ⟨i, hi, rfl⟩ := List.getElem_of_mem hL
    exact (hr i _ (List.getElem?_eq_getElem hi)).1
  have ti : ∀ L ∈ fr, Tiny L := fun L hL => by
    obtain ⟨i, hi, rfl⟩ := List.getElem_of_mem hL
    exact (hr i _ (List.getElem?_eq_getElem hi)).2
  have h13 : 1 ≤ fr.length ∧ fr.length ≤ 3 := by
    rw [hlen]
    clear hf hr hlen hc0 hc1 hc2 hc3
    omega
  clear hr
  obtain ⟨r, ha, hv⟩ := law_all_eq ok ti h13.2
  have al : (allS fr).length < 10000000 := Nat.lt_of_le_of_lt (Nat.le_trans (all_len ok ti) (Nat.pow_le_pow_right (by decide) h13.2)) (by decide)
  have a0 : 0 < (allS fr).length := List.length_pos_of_mem ((mem_allS ok).mpr (fullS_ok ok))
  obtain ⟨st, ms, ix1⟩ := pick c1 a0
  obtain ⟨ds, md, ix2⟩ := pick c2 a0
  have so := (mem_allS ok).mp ms
  have sd := (mem_allS ok).mp md
  have mc := most_comp ok
  have lb := law_borne_eq ok sd
  have d0 := (borne_le ok sd).1
  have mm : maxN ((allS fr).map (borne fr)) ∈ (allS fr).map (borne fr) := maxN_mem fun z => by
    rw [List.map_eq_nil_iff] at z
    rw [z] at a0
    cases a0
  have m0 : 0 ≤ maxN ((allS fr).map (borne fr)) := by
    obtain ⟨q, hq, e⟩ := List.mem_map.mp mm
    rw [← e]
    exact (borne_le ok ((mem_allS ok).mp hq)).1
  have mx : maxL [.l (((allS fr).map (borne fr)).map D.i)] = some (.sh (.i (maxN ((allS fr).map (borne fr))))) := by
    show (intsOf (((allS fr).map (borne fr)).map D.i)).bind _ = _
    rw [intsOf_map]
    exact if_neg (by rw [List.length_map]; exact Nat.ne_of_gt a0)
  obtain ⟨k, k0, kx⟩ := three_ix c3 m0 (Int.le_add_one m0) (Int.ediv_nonneg d0 (by decide : (0 : Int) ≤ 2))
  obtain ⟨y6, y7, y8, y9, y10, y11, lp⟩ := num_loop ok (fun L hL => (ti L hL).1) so h13.1 (Nat.le_trans h13.2 (by decide)) al (s0 := .sh (.l (ns.map D.i))) (s4 := .sh (.i (maxN ((allS fr).map (borne fr))))) (s5 := .sh (.i (borne fr ds))) [borne fr ds, k] .un .un .un .un .un .un fun x hx => by
    rcases List.mem_cons.mp hx with rfl | hx
    · exact d0
    · rw [List.mem_singleton.mp hx]; exact k0
  simp only [List.map_cons, List.map_nil] at lp
  have am : ((allS fr).map stD).length < 10000000 := by rw [List.length_map]; exact al
  have ai : (0 : Int) < ((allS fr).length : Int) := Int.ofNat_lt.mpr a0
  have e1 : modD (.i c1) (.i ((allS fr).length : Int)) = some (.sh (.i (c1 % ((allS fr).length : Int)))) := modD_i ai
  have e2 : modD (.i c2) (.i ((allS fr).length : Int)) = some (.sh (.i (c2 % ((allS fr).length : Int)))) := modD_i ai
  have al2 : lenB [.l ((allS fr).map stD)] = some (.sh (.i ((allS fr).length : Int))) := by
    show some (Sl.sh (.i (((allS fr).map stD).length : Int))) = _
    rw [List.length_map]
  simp only [f_law, g_law]
  clear ok ti so sd ms md mm m0 d0 k0 h13 hlen h al a0 ai
  generalize maxN ((allS fr).map (borne fr)) = M at *
  generalize ((allS fr).map (borne fr)).map D.i = bs at *
  generalize borne fr ds = Dn at *
  generalize ((allS fr).length : Int) = len at *
  generalize (allS fr).map stD = A at *
  simp only [stD] at *
  walk_at "ev*"
end Gen

namespace Gen
open PySem PySem.Spec PyProof.Rows L2 L3
noncomputable def top (i : Nat) : Stmt := PySem.Challenge.pw_beadframe_k33_small_frames_by_all_standi.main.body.getD i (.Pass ⟨0, 0, 0, 0⟩)
noncomputable abbrev s__law_mixed : Stmt := top 31
private theorem sc__law_mixed : FnScope ["_law_script", "_law_k"] ["_law_script", "_law_k"] (defScope s__law_mixed) := ⟨rfl, rfl, rfl, by decide +kernel, rfl, by decide +kernel, by decide +kernel⟩
noncomputable abbrev s_left_behind : Stmt := top 23
private theorem sc_left_behind : FnScope ["layout", "number", "count"] ["layout", "number", "count"] (defScope s_left_behind) := ⟨rfl, rfl, rfl, by decide +kernel, rfl, by decide +kernel, by decide +kernel⟩
noncomputable abbrev s_count_of : Stmt := top 11
private theorem sc_count_of : FnScope ["layout", "rod_standing"] ["layout", "rod_standing"] (defScope s_count_of) := ⟨rfl, rfl, rfl, by decide +kernel, rfl, by decide +kernel, by decide +kernel⟩
noncomputable abbrev s_rod_standings : Stmt := top 24
private theorem nd_rod_standings_1 : (["low", "high"] : List Str).Nodup := by decide +kernel
private theorem sc_rod_standings : FnScope ["layout", "standings", "high"] ["layout"] (defScope s_rod_standings) := ⟨rfl, rfl, rfl, by decide +kernel, rfl, by decide +kernel, by decide +kernel⟩
noncomputable abbrev s_full_worth : Stmt := top 10
private theorem sc_full_worth : FnScope ["layout"] ["layout"] (defScope s_full_worth) := ⟨rfl, rfl, rfl, by decide +kernel, rfl, by decide +kernel, by decide +kernel⟩
noncomputable abbrev s_fitting_counts : Stmt := top 22
private theorem sc_fitting_counts : FnScope ["layout", "number", "base"] ["layout", "number"] (defScope s_fitting_counts) := ⟨rfl, rfl, rfl, by decide +kernel, rfl, by decide +kernel, by decide +kernel⟩
noncomputable abbrev s_ByMoves_rod_price : Stmt := inClass (top 27) 0
private theorem sc_ByMoves_rod_price : FnScope ["self", "one", "other"] ["self", "one", "other"] (defScope s_ByMoves_rod_price) := ⟨rfl, rfl, rfl, by decide +kernel, rfl, by decide +kernel, by decide +kernel⟩
noncomputable abbrev s_ByGrips_rod_price : Stmt := inClass (top 28) 0
private theorem sc_ByGrips_rod_price : FnScope ["self", "one", "other"] ["self", "one", "other"] (defScope s_ByGrips_rod_price) := ⟨rfl, rfl, rfl, by decide +kernel, rfl, by decide +kernel, by decide +kernel⟩
noncomputable abbrev s_ByBeads_rod_price : Stmt := inClass (top 29) 0
private theorem sc_ByBeads_rod_price : FnScope ["self", "one", "other"] ["self", "one", "other"] (defScope s_ByBeads_rod_price) := ⟨rfl, rfl, rfl, by decide +kernel, rfl, by decide +kernel, by decide +kernel⟩
noncomputable abbrev s_least_offer : Stmt := top 14
private theorem sc_least_offer : FnScope ["layout", "rod_standing", "price", "left", "behind", "counts", "offers", "offered", "count", "rest"] ["layout", "rod_standing", "price", "left", "behind"] (defScope s_least_offer) := ⟨rfl, rfl, rfl, by decide +kernel, rfl, by decide +kernel, by decide +kernel⟩
noncomputable abbrev s_least_value : Stmt := top 20
private theorem sc_least_value : FnScope ["layout", "key", "costs", "behind", "least", "count", "rest"] ["layout", "key", "costs", "behind"] (defScope s_least_value) := ⟨rfl, rfl, rfl, by decide +kernel, rfl, by decide +kernel, by decide +kernel⟩
noncomputable abbrev s_values_at : Stmt := top 19
private theorem sc_values_at : FnScope ["layout", "keys", "costs", "behind", "values", "key"] ["layout", "keys", "costs", "behind"] (defScope s_values_at) := ⟨rfl, rfl, rfl, by decide +kernel, rfl, by decide +kernel, by decide +kernel⟩
noncomputable abbrev s_count_costs : Stmt := top 21
private theorem sc_count_costs : FnScope ["layout", "rod_standing", "price", "costs", "offered", "count", "cost"] ["layout", "rod_standing", "price"] (defScope s_count_costs) := ⟨rfl, rfl, rfl, by decide +kernel, rfl, by decide +kernel, by decide +kernel⟩
noncomputable abbrev s_values_behind : Stmt := top 18
private theorem sc_values_behind : FnScope ["keys", "values", "key"] ["keys"] (defScope s_values_behind) := ⟨rfl, rfl, rfl, by decide +kernel, rfl, by decide +kernel, by decide +kernel⟩
noncomputable abbrev s_keys_behind : Stmt := top 17
private theorem sc_keys_behind : FnScope ["layout", "keys", "found", "key", "count"] ["layout", "keys"] (defScope s_keys_behind) := ⟨rfl, rfl, rfl, by decide +kernel, rfl, by decide +kernel, by decide +kernel⟩
noncomputable abbrev s_keys_of : Stmt := top 16
private theorem sc_keys_of : FnScope ["frame", "number", "reached", "keys", "layout"] ["frame", "number"] (defScope s_keys_of) := ⟨rfl, rfl, rfl, by decide +kernel, rfl, by decide +kernel, by decide +kernel⟩
noncomputable abbrev s_table_of : Stmt := top 15
private theorem sc_table_of : FnScope ["frame", "standing", "number", "price", "keys", "values", "table", "rod", "costs"] ["frame", "standing", "number", "price"] (defScope s_table_of) := ⟨rfl, rfl, rfl, by decide +kernel, rfl, by decide +kernel, by decide +kernel⟩
noncomputable abbrev s_cheapest_of : Stmt := top 13
private theorem sc_cheapest_of : FnScope ["frame", "standing", "number", "price", "table", "chosen", "left", "rod", "layout", "rod_standing"] ["frame", "standing", "number", "price"] (defScope s_cheapest_of) := ⟨rfl, rfl, rfl, by decide +kernel, rfl, by decide +kernel, by decide +kernel⟩
noncomputable abbrev s__law_right : Stmt := top 38
private theorem sc__law_right : FnScope ["_law_frame", "_law_standing", "_law_number", "_law_price", "_law_due_here", "_law_kept", "_law_found", "e"] ["_law_frame", "_law_standing", "_law_number", "_law_price", "_law_due_here"] (defScope s__law_right) := ⟨rfl, rfl, rfl, by decide +kernel, rfl, by decide +kernel, by decide +kernel⟩
noncomputable abbrev s__law_rod_price : Stmt := top 36
private theorem sc__law_rod_price : FnScope ["_law_way", "_law_one", "_law_other", "_law_upper"] ["_law_way", "_law_one", "_law_other"] (defScope s__law_rod_price) := ⟨rfl, rfl, rfl, by decide +kernel, rfl, by decide +kernel, by decide +kernel⟩
noncomputable abbrev s__law_due : Stmt := top 37
private theorem sc__law_due : FnScope ["_law_standing", "_law_some", "_law_way", "_law_due_here", "_law_other", "_law_price", "_law_one", "_law_rod"] ["_law_standing", "_law_some", "_law_way"] (defScope s__law_due) := ⟨rfl, rfl, rfl, by decide +kernel, rfl, by decide +kernel, by decide +kernel⟩
noncomputable abbrev s__law_borne : Stmt := top 35
private theorem sc__law_borne : FnScope ["_law_frame", "_law_standing", "_law_found", "_law_place", "_law_layout_here", "_law_rod"] ["_law_frame", "_law_standing"] (defScope s__law_borne) := ⟨rfl, rfl, rfl, by decide +kernel, rfl, by decide +kernel, by decide +kernel⟩
noncomputable abbrev s__law_rods : Stmt := top 33
private theorem sc__law_rods : FnScope ["_law_layout_here", "_law_found", "_law_high", "_law_low"] ["_law_layout_here"] (defScope s__law_rods) := ⟨rfl, rfl, rfl, by decide +kernel, rfl, by decide +kernel, by decide +kernel⟩
noncomputable abbrev s__law_all : Stmt := top 34
private theorem nd__law_all_1 : (["_law_rod", "_law_some"] : List Str).Nodup := by decide +kernel
private theorem sc__law_all : FnScope ["_law_frame", "_law_found", "_law_layout_here", "_law_longer", "_law_some"] ["_law_frame"] (defScope s__law_all) := ⟨rfl, rfl, rfl, by decide +kernel, rfl, by decide +kernel, by decide +kernel⟩
noncomputable abbrev s__law_layout : Stmt := top 32
private theorem sc__law_layout : FnScope ["_law_number", "_law_base", "_law_upper", "_law_worth", "_law_lower"] ["_law_number"] (defScope s__law_layout) := ⟨rfl, rfl, rfl, by decide +kernel, rfl, by decide +kernel, by decide +kernel⟩
noncomputable abbrev s_law : Stmt := top 39
private theorem nd_law_1 : (["_law_one", "_law_number", "_law_frame"] : List Str).Nodup := by decide +kernel
private theorem nd_law_2 : (["_law_one", "_law_frame"] : List Str).Nodup := by decide +kernel
private theorem nd_law_3 : (["_law_k", "_law_script"] : List Str).Nodup := by decide +kernel
private theorem sc_law : FnScope ["_law_script", "_law_frame", "_law_some", "_law_standing", "_law_most", "_law_drawn", "_law_number", "_law_good", "_law_prices", "_law_way", "_law_handed", "_law_due_here"] ["_law_script"] (defScope s_law) := ⟨rfl, rfl, rfl, by decide +kernel, rfl, by decide +kernel, by decide +kernel⟩
noncomputable abbrev si_TooGreat : Stmt := inClass (top 2) 0
private theorem sci_TooGreat : FnScope ["self", "rod"] ["self", "rod"] (defScope si_TooGreat) := ⟨rfl, rfl, rfl, by decide +kernel, rfl, by decide +kernel, by decide +kernel⟩
section
variable {P : Program} {w : World} {K : PySem.W.Frag} {mg : Str → Option Value} {base : Heap}
set_option maxHeartbeats 4000000 in
private theorem fx__law_mixed (F : FD K mg "_law_mixed" s__law_mixed ["_law_script", "_law_k"]) (z_len : mg "len" = none) : FX P w K mg base 1 "_law_mixed" ["_law_script", "_law_k"] f__law_mixed x__law_mixed := by
  exact F.ok sc__law_mixed rfl rfl (g := g__law_mixed) (k := 0) fun cdv A outer s H E hr => (qs_cons (q_if (ptx_cmp (ox_eq hr.units) (px_rd (pv 0)) (px_lst pxs_nil) (nomark _)) (qs_one (q_ret (px_op ox_addI (px_op ox_mul (px_rd (pv 1)) px_int) px_int))) qs_nil) (qs_one (q_ret (px_op ox_mod (px_op ox_mul (px_op ox_addI (px_op ox_addI (px_ix (xx_any (hu_of hr)) (px_rd (pv 0)) (px_op ox_mod (px_rd (pv 1)) (px_callB cx_len rfl z_len PySem.boot_len (pxs_cons (px_rd (pv 0)) pxs_nil)))) px_int) (px_rd (pv 1))) (px_op ox_addI px_int (px_op ox_mul px_int (px_rd (pv 1))))) px_int))))
set_option maxHeartbeats 4000000 in
private theorem fx_left_behind (F : FD K mg "left_behind" s_left_behind ["layout", "number", "count"]) (h_BASE : CI K mg "BASE" c_BASE) : FX P w K mg base 1 "left_behind" ["layout", "number", "count"] f_left_behind x_left_behind := by
  exact F.ok sc_left_behind rfl rfl (g := g_left_behind) (k := 0) fun cdv A outer s H E hr => (qs_one (q_ret (px_op ox_fdiv (px_op ox_sub (px_rd (pv 1)) (px_rd (pv 2))) (px_ix (xx_any (hu_of hr)) (px_rd (pv 0)) (px_cst (x := "BASE") h_BASE rfl)))))
set_option maxHeartbeats 4000000 in
private theorem fx_count_of (F : FD K mg "count_of" s_count_of ["layout", "rod_standing"]) (h_HIGH : CI K mg "HIGH" c_HIGH) (h_WORTH : CI K mg "WORTH" c_WORTH) (h_LOW : CI K mg "LOW" c_LOW) : FX P w K mg base 1 "count_of" ["layout", "rod_standing"] f_count_of x_count_of := by
  exact F.ok sc_count_of rfl rfl (g := g_count_of) (k := 0) fun cdv A outer s H E hr => (qs_one (q_ret (px_op ox_addI (px_op ox_mul (px_ix (xx_any (hu_of hr)) (px_rd (pv 1)) (px_cst (x := "HIGH") h_HIGH rfl)) (px_ix (xx_any (hu_of hr)) (px_rd (pv 0)) (px_cst (x := "WORTH") h_WORTH rfl))) (px_ix (xx_any (hu_of hr)) (px_rd (pv 1)) (px_cst (x := "LOW") h_LOW rfl)))))
set_option maxHeartbeats 4000000 in
private theorem fx_rod_standings (F : FD K mg "rod_standings" s_rod_standings ["layout"]) (h_UPPER : CI K mg "UPPER" c_UPPER) (h_LOWER : CI K mg "LOWER" c_LOWER) (z_range : mg "range" = none) : FX P w K mg base 1 "rod_standings" ["layout"] f_rod_standings x_rod_standings := by
  exact F.ok sc_rod_standings rfl rfl (g := g_rod_standings) (k := 0) fun cdv A outer s H E hr => (qs_cons (q_set (i := 1) sc_rod_standings.nd rfl (by first | exact Or.inl rfl | exact Or.inr rfl) (px_lst pxs_nil)) (qs_cons (q_for pown rfl (pix_range1 rfl z_range (pxs_cons (px_op ox_addI (px_ix (xx_any (hu_of hr)) (px_rd (pv 0)) (px_cst (x := "UPPER") h_UPPER rfl)) px_int) pxs_nil)) (pgx_name (i := 2) sc_rod_standings.nd rfl (by first | exact Or.inl rfl | exact Or.inr rfl)) (qs_one (q_extend (pv 1) (px_lc rfl (compOk_at (sc := defScope s_rod_standings) (N := ["layout", "standings", "high"]) (N' := ["low", "high"]) (fr := [none, some 2]) rfl rfl rfl (by decide +kernel) (by decide +kernel) (by decide +kernel) cells_def (by decide +kernel)) (pix_range1 rfl z_range (pxs_cons (px_op ox_addI (px_ix (xx_any (hu_of hr)) (px_rd (pv 0)) (px_cst (x := "LOWER") h_LOWER rfl)) px_int) pxs_nil)) (fun _ _ _ _ => (pgx_name (i := 0) nd_rod_standings_1 rfl (by first | exact Or.inl rfl | exact Or.inr rfl))) (fun _ _ _ _ => pxl_nil) (fun _ _ _ _ => (px_tup (pxs_cons (px_rd (pv 1)) (pxs_cons (px_rd (pv 0)) pxs_nil)))))))) (qs_one (q_retV (pv 1)))))
set_option maxHeartbeats 4000000 in
private theorem fx_full_worth (F : FD K mg "full_worth" s_full_worth ["layout"]) (h_UPPER : CI K mg "UPPER" c_UPPER) (h_WORTH : CI K mg "WORTH" c_WORTH) (h_LOWER : CI K mg "LOWER" c_LOWER) : FX P w K mg base 1 "full_worth" ["layout"] f_full_worth x_full_worth := by
  exact F.ok sc_full_worth rfl rfl (g := g_full_worth) (k := 0) fun cdv A outer s H E hr => (qs_one (q_ret (px_op ox_addI (px_op ox_mul (px_ix (xx_any (hu_of hr)) (px_rd (pv 0)) (px_cst (x := "UPPER") h_UPPER rfl)) (px_ix (xx_any (hu_of hr)) (px_rd (pv 0)) (px_cst (x := "WORTH") h_WORTH rfl))) (px_ix (xx_any (hu_of hr)) (px_rd (pv 0)) (px_cst (x := "LOWER") h_LOWER rfl)))))
set_option maxHeartbeats 4000000 in
private theorem fx_fitting_counts (F : FD K mg "fitting_counts" s_fitting_counts ["layout", "number"]) (h_full_worth : FX P w K mg base 1 "full_worth" ["layout"] f_full_worth x_full_worth) (h_BASE : CI K mg "BASE" c_BASE) (z_list : mg "list" = none) (z_range : mg "range" = none) (z_min : mg "min" = none) : FX P w K mg base 2 "fitting_counts" ["layout", "number"] f_fitting_counts x_fitting_counts := by
  replace h_full_worth := h_full_worth.mono (show 1 ≤ 1 by decide)
  exact F.ok sc_fitting_counts rfl rfl (g := g_fitting_counts) (k := 1) fun cdv A outer s H E hr => (qs_cons (q_set (i := 2) sc_fitting_counts.nd rfl (by first | exact Or.inl rfl | exact Or.inr rfl) (px_ix (xx_any (hu_of hr)) (px_rd (pv 0)) (px_cst (x := "BASE") h_BASE rfl))) (qs_one (q_ret (px_lrng2 rfl rfl z_list rfl z_range (pxs_cons (px_op ox_mod (px_rd (pv 1)) (px_rd (pv 2))) (pxs_cons (px_op ox_addI (px_callB (cx_min rfl) rfl z_min boot_min (pxs_cons (px_rd (pv 1)) (pxs_cons (px_fx h_full_worth hr rfl (pxs_cons (px_rd (pv 0)) pxs_nil)) pxs_nil))) px_int) (pxs_cons (px_rd (pv 2)) pxs_nil)))))))
set_option maxHeartbeats 4000000 in
private theorem fx_ByMoves_rod_price {f : Addr} {fd : FuncData} (F : Fun K "rod_price" "ByMoves.rod_price" s_ByMoves_rod_price f fd) (bd : Binds K fd ["self", "one", "other"] []) (h_HIGH : CI K mg "HIGH" c_HIGH) (h_LOW : CI K mg "LOW" c_LOW) (z_int : mg "int" = none) : FM P w K mg base 1 f f_ByMoves_rod_price x_ByMoves_rod_price := by
  exact ⟨fd, ["self", "one", "other"], fn_ok F sc_ByMoves_rod_price rfl rfl (g := g_ByMoves_rod_price) (k := 0) fun cdv A outer s H E hr => (qs_one (q_ret (px_op ox_addI (px_callTy cx_int rfl z_int PyProof.Rows.boot_int (pxs_cons (px_cmp (ox_ne hr.units) (px_ix (xx_any (hu_of hr)) (px_rd (pv 1)) (px_cst (x := "HIGH") h_HIGH rfl)) (px_ix (xx_any (hu_of hr)) (px_rd (pv 2)) (px_cst (x := "HIGH") h_HIGH rfl)) (nomark _)) pxs_nil)) (px_callTy cx_int rfl z_int PyProof.Rows.boot_int (pxs_cons (px_cmp (ox_ne hr.units) (px_ix (xx_any (hu_of hr)) (px_rd (pv 1)) (px_cst (x := "LOW") h_LOW rfl)) (px_ix (xx_any (hu_of hr)) (px_rd (pv 2)) (px_cst (x := "LOW") h_LOW rfl)) (nomark _)) pxs_nil))))), bd⟩
set_option maxHeartbeats 4000000 in
private theorem fx_ByGrips_rod_price {f : Addr} {fd : FuncData} (F : Fun K "rod_price" "ByGrips.rod_price" s_ByGrips_rod_price f fd) (bd : Binds K fd ["self", "one", "other"] []) (z_int : mg "int" = none) : FM P w K mg base 1 f f_ByGrips_rod_price x_ByGrips_rod_price := by
  exact ⟨fd, ["self", "one", "other"], fn_ok F sc_ByGrips_rod_price rfl rfl (g := g_ByGrips_rod_price) (k := 0) fun cdv A outer s H E hr => (qs_one (q_ret (px_callTy cx_int rfl z_int PyProof.Rows.boot_int (pxs_cons (px_cmp (ox_ne hr.units) (px_rd (pv 1)) (px_rd (pv 2)) (nomark _)) pxs_nil)))), bd⟩
set_option maxHeartbeats 4000000 in
private theorem fx_ByBeads_rod_price {f : Addr} {fd : FuncData} (F : Fun K "rod_price" "ByBeads.rod_price" s_ByBeads_rod_price f fd) (bd : Binds K fd ["self", "one", "other"] []) (h_HIGH : CI K mg "HIGH" c_HIGH) (h_LOW : CI K mg "LOW" c_LOW) (z_abs : mg "abs" = none) : FM P w K mg base 1 f f_ByBeads_rod_price x_ByBeads_rod_price := by
  exact ⟨fd, ["self", "one", "other"], fn_ok F sc_ByBeads_rod_price rfl rfl (g := g_ByBeads_rod_price) (k := 0) fun cdv A outer s H E hr => (qs_one (q_ret (px_op ox_addI (px_callB cx_abs rfl z_abs boot_abs (pxs_cons (px_op ox_sub (px_ix (xx_any (hu_of hr)) (px_rd (pv 1)) (px_cst (x := "HIGH") h_HIGH rfl)) (px_ix (xx_any (hu_of hr)) (px_rd (pv 2)) (px_cst (x := "HIGH") h_HIGH rfl))) pxs_nil)) (px_callB cx_abs rfl z_abs boot_abs (pxs_cons (px_op ox_sub (px_ix (xx_any (hu_of hr)) (px_rd (pv 1)) (px_cst (x := "LOW") h_LOW rfl)) (px_ix (xx_any (hu_of hr)) (px_rd (pv 2)) (px_cst (x := "LOW") h_LOW rfl))) pxs_nil))))), bd⟩
set_option maxHeartbeats 4000000 in
private theorem fx_least_offer (F : FD K mg "least_offer" s_least_offer ["layout", "rod_standing", "price", "left", "behind"]) (h_rod_standings : FX P w K mg base 1 "rod_standings" ["layout"] f_rod_standings x_rod_standings) (h_left_behind : FX P w K mg base 1 "left_behind" ["layout", "number", "count"] f_left_behind x_left_behind) (h_count_of : FX P w K mg base 1 "count_of" ["layout", "rod_standing"] f_count_of x_count_of) (h_fitting_counts : FX P w K mg base 2 "fitting_counts" ["layout", "number"] f_fitting_counts x_fitting_counts) (t_rod_price : MT P w K mg base 1 "rod_price" tb_rod_price) (z_min : mg "min" = none) : FX P w K mg base 3 "least_offer" ["layout", "rod_standing", "price", "left", "behind"] f_least_offer x_least_offer := by
  replace h_rod_standings := h_rod_standings.mono (show 1 ≤ 2 by decide)
  replace h_left_behind := h_left_behind.mono (show 1 ≤ 2 by decide)
  replace h_count_of := h_count_of.mono (show 1 ≤ 2 by decide)
  replace h_fitting_counts := h_fitting_counts.mono (show 2 ≤ 2 by decide)
  replace t_rod_price := t_rod_price.mono (show 1 ≤ 2 by decide)
  exact F.ok sc_least_offer rfl rfl (g := g_least_offer) (k := 2) fun cdv A outer s H E hr => (qs_cons (q_set (i := 5) sc_least_offer.nd rfl (by first | exact Or.inl rfl | exact Or.inr rfl) (px_fx h_fitting_counts hr rfl (pxs_cons (px_rd (pv 0)) (pxs_cons (px_rd (pv 3)) pxs_nil)))) (qs_cons (q_set (i := 6) sc_least_offer.nd rfl (by first | exact Or.inl rfl | exact Or.inr rfl) (px_lst pxs_nil)) (qs_cons (q_for pown rfl (pix_seq (px_fx h_rod_standings hr rfl (pxs_cons (px_rd (pv 0)) pxs_nil))) (pgx_name (i := 7) sc_least_offer.nd rfl (by first | exact Or.inl rfl | exact Or.inr rfl)) (qs_cons (q_set (i := 8) sc_least_offer.nd rfl (by first | exact Or.inl rfl | exact Or.inr rfl) (px_fx h_count_of hr rfl (pxs_cons (px_rd (pv 0)) (pxs_cons (px_rd (pv 7)) pxs_nil)))) (qs_cons (q_frz (q_frz (q_set (i := 9) sc_least_offer.nd rfl (by first | exact Or.inl rfl | exact Or.inr rfl) (px_ifExp (ptx_cmp (ox_inX (hu_of hr)) (px_rd (pv 8)) (px_rd (pv 5)) (by rfl)) (px_ix (xx_any (hu_of hr)) (px_rd (pv 4)) (px_fx h_left_behind hr rfl (pxs_cons (px_rd (pv 0)) (pxs_cons (px_rd (pv 3)) (pxs_cons (px_rd (pv 8)) pxs_nil))))) px_non)))) (qs_one (q_if (ptx_cmp ox_isnotX (px_rd (pv 9)) px_non (nomark _)) (qs_one (q_append (pv 6) (px_tup (pxs_cons (px_op ox_addI (px_meth t_rod_price (px_rd (pv 2)) hr (pxs_cons (px_rd (pv 1)) (pxs_cons (px_rd (pv 7)) pxs_nil))) (px_rd (pv 9))) (pxs_cons (px_rd (pv 7)) pxs_nil))))) qs_nil))))) (qs_one (q_ret (px_ix (xx_any (hu_of hr)) (px_callB (call_minT rfl (hu12 hr)) rfl z_min boot_min (pxs_cons (px_rd (pv 6)) pxs_nil)) px_int))))))
set_option maxHeartbeats 4000000 in
private theorem fx_least_value (F : FD K mg "least_value" s_least_value ["layout", "key", "costs", "behind"]) (h_fitting_counts : FX P w K mg base 2 "fitting_counts" ["layout", "number"] f_fitting_counts x_fitting_counts) (h_left_behind : FX P w K mg base 1 "left_behind" ["layout", "number", "count"] f_left_behind x_left_behind) : FX P w K mg base 3 "least_value" ["layout", "key", "costs", "behind"] f_least_value x_least_value := by
  replace h_fitting_counts := h_fitting_counts.mono (show 2 ≤ 2 by decide)
  replace h_left_behind := h_left_behind.mono (show 1 ≤ 2 by decide)
  exact F.ok sc_least_value rfl rfl (g := g_least_value) (k := 2) fun cdv A outer s H E hr => (qs_cons (q_set (i := 4) sc_least_value.nd rfl (by first | exact Or.inl rfl | exact Or.inr rfl) px_non) (qs_cons (q_for pown rfl (pix_seq (px_fx h_fitting_counts hr rfl (pxs_cons (px_rd (pv 0)) (pxs_cons (px_rd (pv 1)) pxs_nil)))) (pgx_name (i := 5) sc_least_value.nd rfl (by first | exact Or.inl rfl | exact Or.inr rfl)) (qs_cons (q_set (i := 6) sc_least_value.nd rfl (by first | exact Or.inl rfl | exact Or.inr rfl) (px_ix (xx_any (hu_of hr)) (px_rd (pv 3)) (px_fx h_left_behind hr rfl (pxs_cons (px_rd (pv 0)) (pxs_cons (px_rd (pv 1)) (pxs_cons (px_rd (pv 5)) pxs_nil)))))) (qs_one (q_if (PW.pt (pwx_and (ptx_cmp ox_isnotX (px_rd (pv 6)) px_non (nomark _)) (pwx_and1 (PW.pt (pwx_or (ptx_cmp ox_isX (px_rd (pv 4)) px_non (nomark _)) (pwx_or1 (ptx_cmp ox_lt (px_op ox_addI (px_ix (xx_any (hu_of hr)) (px_rd (pv 2)) (px_rd (pv 5))) (px_rd (pv 6))) (px_rd (pv 4)) (nomark _)))))))) (qs_one (q_set (i := 4) sc_least_value.nd rfl (by first | exact Or.inl rfl | exact Or.inr rfl) (px_op ox_addI (px_ix (xx_any (hu_of hr)) (px_rd (pv 2)) (px_rd (pv 5))) (px_rd (pv 6))))) qs_nil)))) (qs_one (q_retV (pv 4)))))
set_option maxHeartbeats 4000000 in
private theorem fx_values_at (F : FD K mg "values_at" s_values_at ["layout", "keys", "costs", "behind"]) (h_least_value : FX P w K mg base 3 "least_value" ["layout", "key", "costs", "behind"] f_least_value x_least_value) : FX P w K mg base 4 "values_at" ["layout", "keys", "costs", "behind"] f_values_at x_values_at := by
  replace h_least_value := h_least_value.mono (show 3 ≤ 3 by decide)
  exact F.ok sc_values_at rfl rfl (g := g_values_at) (k := 3) fun cdv A outer s H E hr => (qs_cons (q_set (i := 4) sc_values_at.nd rfl (by first | exact Or.inl rfl | exact Or.inr rfl) px_dnew) (qs_cons (q_for pown rfl (pix_seq (px_rd (pv 1))) (pgx_name (i := 5) sc_values_at.nd rfl (by first | exact Or.inl rfl | exact Or.inr rfl)) (qs_one (q_storeA (hu_of hr) (pv 4) (px_rd (pv 5)) (px_fx h_least_value hr rfl (pxs_cons (px_rd (pv 0)) (pxs_cons (px_rd (pv 5)) (pxs_cons (px_rd (pv 2)) (pxs_cons (px_rd (pv 3)) pxs_nil)))))))) (qs_one (q_retV (pv 4)))))
set_option maxHeartbeats 4000000 in
private theorem fx_count_costs (F : FD K mg "count_costs" s_count_costs ["layout", "rod_standing", "price"]) (h_rod_standings : FX P w K mg base 1 "rod_standings" ["layout"] f_rod_standings x_rod_standings) (h_count_of : FX P w K mg base 1 "count_of" ["layout", "rod_standing"] f_count_of x_count_of) (t_rod_price : MT P w K mg base 1 "rod_price" tb_rod_price) (z_min : mg "min" = none) : FX P w K mg base 2 "count_costs" ["layout", "rod_standing", "price"] f_count_costs x_count_costs := by
  replace h_rod_standings := h_rod_standings.mono (show 1 ≤ 1 by decide)
  replace h_count_of := h_count_of.mono (show 1 ≤ 1 by decide)
  replace t_rod_price := t_rod_price.mono (show 1 ≤ 1 by decide)
  exact F.ok sc_count_costs rfl rfl (g := g_count_costs) (k := 1) fun cdv A outer s H E hr => (qs_cons (q_set (i := 3) sc_count_costs.nd rfl (by first | exact Or.inl rfl | exact Or.inr rfl) px_dnew) (qs_cons (q_for pown rfl (pix_seq (px_fx h_rod_standings hr rfl (pxs_cons (px_rd (pv 0)) pxs_nil))) (pgx_name (i := 4) sc_count_costs.nd rfl (by first | exact Or.inl rfl | exact Or.inr rfl)) (qs_cons (q_set (i := 5) sc_count_costs.nd rfl (by first | exact Or.inl rfl | exact Or.inr rfl) (px_fx h_count_of hr rfl (pxs_cons (px_rd (pv 0)) (pxs_cons (px_rd (pv 4)) pxs_nil)))) (qs_cons (q_set (i := 6) sc_count_costs.nd rfl (by first | exact Or.inl rfl | exact Or.inr rfl) (px_meth t_rod_price (px_rd (pv 2)) hr (pxs_cons (px_rd (pv 1)) (pxs_cons (px_rd (pv 4)) pxs_nil)))) (qs_one (q_frz (q_frz (q_storeA (hu_of hr) (pv 3) (px_rd (pv 5)) (px_callB (cx_min rfl) rfl z_min boot_min (pxs_cons (px_rd (pv 6)) (pxs_cons (px_get (hu_of hr) (px_rd (pv 3)) (px_rd (pv 5)) (px_rd (pv 6)) ⟨rfl, rfl, rfl, rfl⟩) pxs_nil)))))))))) (qs_one (q_retV (pv 3)))))
set_option maxHeartbeats 4000000 in
private theorem fx_values_behind (F : FD K mg "values_behind" s_values_behind ["keys"]) : FX P w K mg base 1 "values_behind" ["keys"] f_values_behind x_values_behind := by
  exact F.ok sc_values_behind rfl rfl (g := g_values_behind) (k := 0) fun cdv A outer s H E hr => (qs_cons (q_set (i := 1) sc_values_behind.nd rfl (by first | exact Or.inl rfl | exact Or.inr rfl) px_dnew) (qs_cons (q_for pown rfl (pix_seq (px_rd (pv 0))) (pgx_name (i := 2) sc_values_behind.nd rfl (by first | exact Or.inl rfl | exact Or.inr rfl)) (qs_one (q_storeA (hu_of hr) (pv 1) (px_rd (pv 2)) (px_ifExp (ptx_cmp (ox_eq hr.units) (px_rd (pv 2)) px_int (nomark _)) px_int px_non)))) (qs_one (q_retV (pv 1)))))
set_option maxHeartbeats 4000000 in
private theorem fx_keys_behind (F : FD K mg "keys_behind" s_keys_behind ["layout", "keys"]) (h_fitting_counts : FX P w K mg base 2 "fitting_counts" ["layout", "number"] f_fitting_counts x_fitting_counts) (h_left_behind : FX P w K mg base 1 "left_behind" ["layout", "number", "count"] f_left_behind x_left_behind) (z_sorted : mg "sorted" = none) : FX P w K mg base 3 "keys_behind" ["layout", "keys"] f_keys_behind x_keys_behind := by
  replace h_fitting_counts := h_fitting_counts.mono (show 2 ≤ 2 by decide)
  replace h_left_behind := h_left_behind.mono (show 1 ≤ 2 by decide)
  exact F.ok sc_keys_behind rfl rfl (g := g_keys_behind) (k := 2) fun cdv A outer s H E hr => (qs_cons (q_set (i := 2) sc_keys_behind.nd rfl (by first | exact Or.inl rfl | exact Or.inr rfl) px_dnew) (qs_cons (q_for pown rfl (pix_seq (px_rd (pv 1))) (pgx_name (i := 3) sc_keys_behind.nd rfl (by first | exact Or.inl rfl | exact Or.inr rfl)) (qs_one (q_for pown rfl (pix_seq (px_fx h_fitting_counts hr rfl (pxs_cons (px_rd (pv 0)) (pxs_cons (px_rd (pv 3)) pxs_nil)))) (pgx_name (i := 4) sc_keys_behind.nd rfl (by first | exact Or.inl rfl | exact Or.inr rfl)) (qs_one (q_storeA (hu_of hr) (pv 2) (px_fx h_left_behind hr rfl (pxs_cons (px_rd (pv 0)) (pxs_cons (px_rd (pv 3)) (pxs_cons (px_rd (pv 4)) pxs_nil)))) px_bl))))) (qs_one (q_ret (px_callB (call_sorted rfl) rfl z_sorted boot_sorted (pxs_cons (px_rd (pv 2)) pxs_nil))))))
set_option maxHeartbeats 4000000 in
private theorem fx_keys_of (F : FD K mg "keys_of" s_keys_of ["frame", "number"]) (h_keys_behind : FX P w K mg base 3 "keys_behind" ["layout", "keys"] f_keys_behind x_keys_behind) : FX P w K mg base 4 "keys_of" ["frame", "number"] f_keys_of x_keys_of := by
  replace h_keys_behind := h_keys_behind.mono (show 3 ≤ 3 by decide)
  exact F.ok sc_keys_of rfl rfl (g := g_keys_of) (k := 3) fun cdv A outer s H E hr => (qs_cons (q_set (i := 2) sc_keys_of.nd rfl (by first | exact Or.inl rfl | exact Or.inr rfl) (px_lst (pxs_cons (px_rd (pv 1)) pxs_nil))) (qs_cons (q_frz (q_set (i := 3) sc_keys_of.nd rfl (by first | exact Or.inl rfl | exact Or.inr rfl) (px_lst (pxs_cons (px_rd (pv 2)) pxs_nil)))) (qs_cons (q_for pown rfl (pix_seq (px_rd (pv 0))) (pgx_name (i := 4) sc_keys_of.nd rfl (by first | exact Or.inl rfl | exact Or.inr rfl)) (qs_cons (q_frz (q_set (i := 2) sc_keys_of.nd rfl (by first | exact Or.inl rfl | exact Or.inr rfl) (px_fx h_keys_behind hr rfl (pxs_cons (px_rd (pv 4)) (pxs_cons (px_rd (pv 2)) pxs_nil))))) (qs_one (q_frz (q_append (pv 3) (px_rd (pv 2))))))) (qs_one (q_retV (pv 3))))))
set_option maxHeartbeats 4000000 in
private theorem fx_table_of (F : FD K mg "table_of" s_table_of ["frame", "standing", "number", "price"]) (h_values_at : FX P w K mg base 4 "values_at" ["layout", "keys", "costs", "behind"] f_values_at x_values_at) (h_count_costs : FX P w K mg base 2 "count_costs" ["layout", "rod_standing", "price"] f_count_costs x_count_costs) (h_values_behind : FX P w K mg base 1 "values_behind" ["keys"] f_values_behind x_values_behind) (h_keys_of : FX P w K mg base 4 "keys_of" ["frame", "number"] f_keys_of x_keys_of) (z_list : mg "list" = none) (z_reversed : mg "reversed" = none) (z_range : mg "range" = none) (z_len : mg "len" = none) : FX P w K mg base 5 "table_of" ["frame", "standing", "number", "price"] f_table_of x_table_of := by
  replace h_values_at := h_values_at.mono (show 4 ≤ 4 by decide)
  replace h_count_costs := h_count_costs.mono (show 2 ≤ 4 by decide)
  replace h_values_behind := h_values_behind.mono (show 1 ≤ 4 by decide)
  replace h_keys_of := h_keys_of.mono (show 4 ≤ 4 by decide)
  exact F.ok sc_table_of rfl rfl (g := g_table_of) (k := 4) fun cdv A outer s H E hr => (qs_cons (q_set (i := 4) sc_table_of.nd rfl (by first | exact Or.inl rfl | exact Or.inr rfl) (px_fx h_keys_of hr rfl (pxs_cons (px_rd (pv 0)) (pxs_cons (px_rd (pv 2)) pxs_nil)))) (qs_cons (q_frz (q_set (i := 5) sc_table_of.nd rfl (by first | exact Or.inl rfl | exact Or.inr rfl) (px_fx h_values_behind hr rfl (pxs_cons (px_ix (xx_any (hu_of hr)) (px_rd (pv 4)) (px_callB cx_len rfl z_len PySem.boot_len (pxs_cons (px_rd (pv 0)) pxs_nil))) pxs_nil)))) (qs_cons (q_frz (q_set (i := 6) sc_table_of.nd rfl (by first | exact Or.inl rfl | exact Or.inr rfl) (px_lst (pxs_cons (px_rd (pv 5)) pxs_nil)))) (qs_cons (q_for pown rfl (pix_range3 rfl z_range (pxs_cons (px_op ox_sub (px_callB cx_len rfl z_len PySem.boot_len (pxs_cons (px_rd (pv 0)) pxs_nil)) px_int) (pxs_cons (px_neg px_int) (pxs_cons (px_neg px_int) pxs_nil)))) (pgx_name (i := 7) sc_table_of.nd rfl (by first | exact Or.inl rfl | exact Or.inr rfl)) (qs_cons (q_set (i := 8) sc_table_of.nd rfl (by first | exact Or.inl rfl | exact Or.inr rfl) (px_fx h_count_costs hr rfl (pxs_cons (px_ix (xx_any (hu_of hr)) (px_rd (pv 0)) (px_rd (pv 7))) (pxs_cons (px_ix (xx_any (hu_of hr)) (px_rd (pv 1)) (px_rd (pv 7))) (pxs_cons (px_rd (pv 3)) pxs_nil))))) (qs_cons (q_frz (q_frz (q_frz (q_set (i := 5) sc_table_of.nd rfl (by first | exact Or.inl rfl | exact Or.inr rfl) (px_fx h_values_at hr rfl (pxs_cons (px_ix (xx_any (hu_of hr)) (px_rd (pv 0)) (px_rd (pv 7))) (pxs_cons (px_ix (xx_any (hu_of hr)) (px_rd (pv 4)) (px_rd (pv 7))) (pxs_cons (px_rd (pv 8)) (pxs_cons (px_rd (pv 5)) pxs_nil))))))))) (qs_one (q_frz (q_append (pv 6) (px_rd (pv 5)))))))) (qs_one (q_ret (px_lback rfl rfl z_list rfl z_reversed (px_rd (pv 6)))))))))
set_option maxHeartbeats 4000000 in
private theorem fx_cheapest_of (F : FD K mg "cheapest_of" s_cheapest_of ["frame", "standing", "number", "price"]) (h_left_behind : FX P w K mg base 1 "left_behind" ["layout", "number", "count"] f_left_behind x_left_behind) (h_count_of : FX P w K mg base 1 "count_of" ["layout", "rod_standing"] f_count_of x_count_of) (h_least_offer : FX P w K mg base 3 "least_offer" ["layout", "rod_standing", "price", "left", "behind"] f_least_offer x_least_offer) (h_table_of : FX P w K mg base 5 "table_of" ["frame", "standing", "number", "price"] f_table_of x_table_of) (z_enumerate : mg "enumerate" = none) (z_len : mg "len" = none) (xi_TooGreat : XI P w K mg base "TooGreat" ["rod"]) : FX P w K mg base 6 "cheapest_of" ["frame", "standing", "number", "price"] f_cheapest_of x_cheapest_of := by
  replace h_left_behind := h_left_behind.mono (show 1 ≤ 5 by decide)
  replace h_count_of := h_count_of.mono (show 1 ≤ 5 by decide)
  replace h_least_offer := h_least_offer.mono (show 3 ≤ 5 by decide)
  replace h_table_of := h_table_of.mono (show 5 ≤ 5 by decide)
  exact F.ok sc_cheapest_of rfl rfl (g := g_cheapest_of) (k := 5) fun cdv A outer s H E hr => (qs_cons (q_set (i := 4) sc_cheapest_of.nd rfl (by first | exact Or.inl rfl | exact Or.inr rfl) (px_fx h_table_of hr rfl (pxs_cons (px_rd (pv 0)) (pxs_cons (px_rd (pv 1)) (pxs_cons (px_rd (pv 2)) (pxs_cons (px_rd (pv 3)) pxs_nil)))))) (qs_cons (q_if (ptx_cmp ox_isX (px_ix (xx_any (hu_of hr)) (px_ix (xx_any (hu_of hr)) (px_rd (pv 4)) px_int) (px_rd (pv 2))) px_non (nomark _)) (qs_one (q_raiseI xi_TooGreat hr (by decide) (by decide) (by decide) rfl (pxs_cons (px_op ox_sub (px_callB cx_len rfl z_len PySem.boot_len (pxs_cons (px_rd (pv 0)) pxs_nil)) px_int) pxs_nil))) qs_nil) (qs_cons (q_set (i := 5) sc_cheapest_of.nd rfl (by first | exact Or.inl rfl | exact Or.inr rfl) (px_lst pxs_nil)) (qs_cons (q_set (i := 6) sc_cheapest_of.nd rfl (by first | exact Or.inl rfl | exact Or.inr rfl) (px_rd (pv 2))) (qs_cons (q_for pown rfl (pix_enum rfl z_enumerate (by decide +kernel) (pxs_cons (px_rd (pv 0)) pxs_nil)) (pgx_tup rfl (pgxs_cons (pgx_name (i := 7) sc_cheapest_of.nd rfl (by first | exact Or.inl rfl | exact Or.inr rfl)) (pgxs_cons (pgx_name (i := 8) sc_cheapest_of.nd rfl (by first | exact Or.inl rfl | exact Or.inr rfl)) pgxs_nil))) (qs_cons (q_frz (q_frz (q_set (i := 9) sc_cheapest_of.nd rfl (by first | exact Or.inl rfl | exact Or.inr rfl) (px_fx h_least_offer hr rfl (pxs_cons (px_rd (pv 8)) (pxs_cons (px_ix (xx_any (hu_of hr)) (px_rd (pv 1)) (px_rd (pv 7))) (pxs_cons (px_rd (pv 3)) (pxs_cons (px_rd (pv 6)) (pxs_cons (px_ix (xx_any (hu_of hr)) (px_rd (pv 4)) (px_op ox_addI (px_rd (pv 7)) px_int)) pxs_nil))))))))) (qs_cons (q_frz (q_append (pv 5) (px_rd (pv 9)))) (qs_one (q_frz (q_frz (q_set (i := 6) sc_cheapest_of.nd rfl (by first | exact Or.inl rfl | exact Or.inr rfl) (px_fx h_left_behind hr rfl (pxs_cons (px_rd (pv 8)) (pxs_cons (px_rd (pv 6)) (pxs_cons (px_fx h_count_of hr rfl (pxs_cons (px_rd (pv 8)) (pxs_cons (px_rd (pv 9)) pxs_nil))) pxs_nil))))))))))) (qs_one (q_retV (pv 5))))))))
set_option maxHeartbeats 4000000 in
private theorem fx__law_right (F : FD K mg "_law_right" s__law_right ["_law_frame", "_law_standing", "_law_number", "_law_price", "_law_due_here"]) (h_cheapest_of : FX P w K mg base 6 "cheapest_of" ["frame", "standing", "number", "price"] f_cheapest_of x_cheapest_of) (z_isinstance : mg "isinstance" = none) (z_list : mg "list" = none) (z_len : mg "len" = none) (at_3 : AT K "rod" ["TooGreat"]) (xt_4 : XT K mg "TooGreat" [("TooGreat", true)]) : FX P w K mg base 7 "_law_right" ["_law_frame", "_law_standing", "_law_number", "_law_price", "_law_due_here"] f__law_right x__law_right := by
  replace h_cheapest_of := h_cheapest_of.mono (show 6 ≤ 6 by decide)
  exact F.ok sc__law_right rfl rfl (g := g__law_right) (k := 6) fun cdv A outer s H E hr => (qs_cons (q_set (i := 5) sc__law_right.nd rfl (by first | exact Or.inl rfl | exact Or.inr rfl) px_non) (qs_cons (q_set (i := 6) sc__law_right.nd rfl (by first | exact Or.inl rfl | exact Or.inr rfl) px_non) (qs_cons (q_try sc__law_right.nd rfl rfl (fun E' pn' hp' => (qs_one (q_or (q_set (i := 6) sc__law_right.nd rfl (by first | exact Or.inl rfl | exact Or.inr rfl) (px_fx h_cheapest_of hr rfl (pxs_cons (px_rd (pv 0)) (pxs_cons (px_rd (pv 1)) (pxs_cons (px_rd (pv 2)) (pxs_cons (px_rd (pv 3)) pxs_nil)))))) (q_setX (i := 6) sc__law_right.nd rfl (by first | exact Or.inl rfl | exact Or.inr rfl) (rx_fx h_cheapest_of hr rfl (pxs_cons (px_rd (pv 0)) (pxs_cons (px_rd (pv 1)) (pxs_cons (px_rd (pv 2)) (pxs_cons (px_rd (pv 3)) pxs_nil))))))))) (.as xt_4 rfl (by decide) (fun _ => (qs_one (q_set (i := 5) sc__law_right.nd rfl (by first | exact Or.inl rfl | exact Or.inr rfl) (px_rd (pv 7))))) rfl rfl .nil)) (qs_cons (q_if (ptx_cmp ox_isX (px_rd (pv 4)) px_non (nomark _)) (qs_one (q_ret (px_and (px_cmp ox_isnotX (px_rd (pv 5)) px_non (nomark _)) (px_one (px_cmp (ox_eq hr.units) (px_at at_3 (px_rd (pv 5))) (px_op ox_sub (px_callB cx_len rfl z_len PySem.boot_len (pxs_cons (px_rd (pv 0)) pxs_nil)) px_int) (nomark _)))))) qs_nil) (qs_one (q_ret (px_and (px_cmp ox_isX (px_rd (pv 5)) px_non (nomark _)) (px_and (px_isi (px_rd (pv 6)) rfl z_isinstance rfl z_list PyProof.Rows.boot_list) (px_one (px_cmp (ox_eq hr.units) (px_rd (pv 6)) (px_ix (xx_any (hu_of hr)) (px_rd (pv 4)) px_int) (nomark _)))))))))))
set_option maxHeartbeats 4000000 in
private theorem fx__law_rod_price (F : FD K mg "_law_rod_price" s__law_rod_price ["_law_way", "_law_one", "_law_other"]) (z_max : mg "max" = none) (z_min : mg "min" = none) (z_int : mg "int" = none) : FX P w K mg base 1 "_law_rod_price" ["_law_way", "_law_one", "_law_other"] f__law_rod_price x__law_rod_price := by
  exact F.ok sc__law_rod_price rfl rfl (g := g__law_rod_price) (k := 0) fun cdv A outer s H E hr => (qs_cons (q_if (ptx_cmp (ox_eq hr.units) (px_rd (pv 0)) px_int (nomark _)) (qs_one (q_ret (px_op ox_addI (px_callTy cx_int rfl z_int PyProof.Rows.boot_int (pxs_cons (px_cmp (ox_ne hr.units) (px_ix (xx_any (hu_of hr)) (px_rd (pv 1)) px_int) (px_ix (xx_any (hu_of hr)) (px_rd (pv 2)) px_int) (nomark _)) pxs_nil)) (px_callTy cx_int rfl z_int PyProof.Rows.boot_int (pxs_cons (px_cmp (ox_ne hr.units) (px_ix (xx_any (hu_of hr)) (px_rd (pv 1)) px_int) (px_ix (xx_any (hu_of hr)) (px_rd (pv 2)) px_int) (nomark _)) pxs_nil))))) qs_nil) (qs_cons (q_if (ptx_cmp (ox_eq hr.units) (px_rd (pv 0)) px_int (nomark _)) (qs_one (q_ret (px_callTy cx_int rfl z_int PyProof.Rows.boot_int (pxs_cons (px_or (px_cmp (ox_ne hr.units) (px_ix (xx_any (hu_of hr)) (px_rd (pv 1)) px_int) (px_ix (xx_any (hu_of hr)) (px_rd (pv 2)) px_int) (nomark _)) (px_one (px_cmp (ox_ne hr.units) (px_ix (xx_any (hu_of hr)) (px_rd (pv 1)) px_int) (px_ix (xx_any (hu_of hr)) (px_rd (pv 2)) px_int) (nomark _)))) pxs_nil)))) qs_nil) (qs_cons (q_set (i := 3) sc__law_rod_price.nd rfl (by first | exact Or.inl rfl | exact Or.inr rfl) (px_op ox_sub (px_callB (cx_max rfl) rfl z_max boot_max (pxs_cons (px_ix (xx_any (hu_of hr)) (px_rd (pv 1)) px_int) (pxs_cons (px_ix (xx_any (hu_of hr)) (px_rd (pv 2)) px_int) pxs_nil))) (px_callB (cx_min rfl) rfl z_min boot_min (pxs_cons (px_ix (xx_any (hu_of hr)) (px_rd (pv 1)) px_int) (pxs_cons (px_ix (xx_any (hu_of hr)) (px_rd (pv 2)) px_int) pxs_nil))))) (qs_one (q_ret (px_op ox_sub (px_op ox_addI (px_rd (pv 3)) (px_callB (cx_max rfl) rfl z_max boot_max (pxs_cons (px_ix (xx_any (hu_of hr)) (px_rd (pv 1)) px_int) (pxs_cons (px_ix (xx_any (hu_of hr)) (px_rd (pv 2)) px_int) pxs_nil)))) (px_callB (cx_min rfl) rfl z_min boot_min (pxs_cons (px_ix (xx_any (hu_of hr)) (px_rd (pv 1)) px_int) (pxs_cons (px_ix (xx_any (hu_of hr)) (px_rd (pv 2)) px_int) pxs_nil)))))))))
set_option maxHeartbeats 4000000 in
private theorem fx__law_due (F : FD K mg "_law_due" s__law_due ["_law_standing", "_law_some", "_law_way"]) (h__law_rod_price : FX P w K mg base 1 "_law_rod_price" ["_law_way", "_law_one", "_law_other"] f__law_rod_price x__law_rod_price) (z_zip : mg "zip" = none) : FX P w K mg base 2 "_law_due" ["_law_standing", "_law_some", "_law_way"] f__law_due x__law_due := by
  replace h__law_rod_price := h__law_rod_price.mono (show 1 ≤ 1 by decide)
  exact F.ok sc__law_due rfl rfl (g := g__law_due) (k := 1) fun cdv A outer s H E hr => (qs_cons (q_set (i := 3) sc__law_due.nd rfl (by first | exact Or.inl rfl | exact Or.inr rfl) px_non) (qs_cons (q_for pown rfl (pix_seq (px_rd (pv 1))) (pgx_name (i := 4) sc__law_due.nd rfl (by first | exact Or.inl rfl | exact Or.inr rfl)) (qs_cons (q_set (i := 5) sc__law_due.nd rfl (by first | exact Or.inl rfl | exact Or.inr rfl) px_int) (qs_cons (q_for pown rfl (pix_zip rfl z_zip (by decide +kernel) (pxs_cons (px_rd (pv 0)) (pxs_cons (px_rd (pv 4)) pxs_nil))) (pgx_tup rfl (pgxs_cons (pgx_name (i := 6) sc__law_due.nd rfl (by first | exact Or.inl rfl | exact Or.inr rfl)) (pgxs_cons (pgx_name (i := 7) sc__law_due.nd rfl (by first | exact Or.inl rfl | exact Or.inr rfl)) pgxs_nil))) (qs_one (q_frz (q_set (i := 5) sc__law_due.nd rfl (by first | exact Or.inl rfl | exact Or.inr rfl) (px_op ox_addI (px_rd (pv 5)) (px_fx h__law_rod_price hr rfl (pxs_cons (px_rd (pv 2)) (pxs_cons (px_rd (pv 6)) (pxs_cons (px_rd (pv 7)) pxs_nil))))))))) (qs_one (q_if (PW.pt (pwx_or (ptx_cmp ox_isX (px_rd (pv 3)) px_non (nomark _)) (pwx_or1 (ptx_cmp ox_lt (px_rd (pv 5)) (px_ix (xx_any (hu_of hr)) (px_rd (pv 3)) px_int) (nomark _))))) (qs_one (q_frz (q_set (i := 3) sc__law_due.nd rfl (by first | exact Or.inl rfl | exact Or.inr rfl) (px_tup (pxs_cons (px_rd (pv 5)) (pxs_cons (px_rd (pv 4)) pxs_nil)))))) qs_nil))))) (qs_one (q_retV (pv 3)))))
set_option maxHeartbeats 4000000 in
private theorem fx__law_borne (F : FD K mg "_law_borne" s__law_borne ["_law_frame", "_law_standing"]) (z_zip : mg "zip" = none) : FX P w K mg base 1 "_law_borne" ["_law_frame", "_law_standing"] f__law_borne x__law_borne := by
  exact F.ok sc__law_borne rfl rfl (g := g__law_borne) (k := 0) fun cdv A outer s H E hr => (qs_cons (q_set (i := 2) sc__law_borne.nd rfl (by first | exact Or.inl rfl | exact Or.inr rfl) px_int) (qs_cons (q_set (i := 3) sc__law_borne.nd rfl (by first | exact Or.inl rfl | exact Or.inr rfl) px_int) (qs_cons (q_for pown rfl (pix_zip rfl z_zip (by decide +kernel) (pxs_cons (px_rd (pv 0)) (pxs_cons (px_rd (pv 1)) pxs_nil))) (pgx_tup rfl (pgxs_cons (pgx_name (i := 4) sc__law_borne.nd rfl (by first | exact Or.inl rfl | exact Or.inr rfl)) (pgxs_cons (pgx_name (i := 5) sc__law_borne.nd rfl (by first | exact Or.inl rfl | exact Or.inr rfl)) pgxs_nil))) (qs_cons (q_frz (q_frz (q_set (i := 2) sc__law_borne.nd rfl (by first | exact Or.inl rfl | exact Or.inr rfl) (px_op ox_addI (px_rd (pv 2)) (px_op ox_mul (px_op ox_addI (px_op ox_mul (px_ix (xx_any (hu_of hr)) (px_rd (pv 5)) px_int) (px_ix (xx_any (hu_of hr)) (px_rd (pv 4)) px_int)) (px_ix (xx_any (hu_of hr)) (px_rd (pv 5)) px_int)) (px_rd (pv 3))))))) (qs_one (q_frz (q_set (i := 3) sc__law_borne.nd rfl (by first | exact Or.inl rfl | exact Or.inr rfl) (px_op ox_mul (px_rd (pv 3)) (px_ix (xx_any (hu_of hr)) (px_rd (pv 4)) px_int))))))) (qs_one (q_retV (pv 2))))))
set_option maxHeartbeats 4000000 in
private theorem fx__law_rods (F : FD K mg "_law_rods" s__law_rods ["_law_layout_here"]) (z_range : mg "range" = none) : FX P w K mg base 1 "_law_rods" ["_law_layout_here"] f__law_rods x__law_rods := by
  exact F.ok sc__law_rods rfl rfl (g := g__law_rods) (k := 0) fun cdv A outer s H E hr => (qs_cons (q_set (i := 1) sc__law_rods.nd rfl (by first | exact Or.inl rfl | exact Or.inr rfl) (px_lst pxs_nil)) (qs_cons (q_for pown rfl (pix_range1 rfl z_range (pxs_cons (px_op ox_addI (px_ix (xx_any (hu_of hr)) (px_rd (pv 0)) px_int) px_int) pxs_nil)) (pgx_name (i := 2) sc__law_rods.nd rfl (by first | exact Or.inl rfl | exact Or.inr rfl)) (qs_one (q_for pown rfl (pix_range1 rfl z_range (pxs_cons (px_op ox_addI (px_ix (xx_any (hu_of hr)) (px_rd (pv 0)) px_int) px_int) pxs_nil)) (pgx_name (i := 3) sc__law_rods.nd rfl (by first | exact Or.inl rfl | exact Or.inr rfl)) (qs_one (q_append (pv 1) (px_tup (pxs_cons (px_rd (pv 2)) (pxs_cons (px_rd (pv 3)) pxs_nil)))))))) (qs_one (q_retV (pv 1)))))
set_option maxHeartbeats 4000000 in
private theorem fx__law_all (F : FD K mg "_law_all" s__law_all ["_law_frame"]) (h__law_rods : FX P w K mg base 1 "_law_rods" ["_law_layout_here"] f__law_rods x__law_rods) : FX P w K mg base 2 "_law_all" ["_law_frame"] f__law_all x__law_all := by
  replace h__law_rods := h__law_rods.mono (show 1 ≤ 1 by decide)
  exact F.ok sc__law_all rfl rfl (g := g__law_all) (k := 1) fun cdv A outer s H E hr => (qs_cons (q_set (i := 1) sc__law_all.nd rfl (by first | exact Or.inl rfl | exact Or.inr rfl) (px_lst (pxs_cons (px_lst pxs_nil) pxs_nil))) (qs_cons (q_for pown rfl (pix_seq (px_rd (pv 0))) (pgx_name (i := 2) sc__law_all.nd rfl (by first | exact Or.inl rfl | exact Or.inr rfl)) (qs_cons (q_set (i := 3) sc__law_all.nd rfl (by first | exact Or.inl rfl | exact Or.inr rfl) (px_lst pxs_nil)) (qs_cons (q_frz (q_for pown rfl (pix_seq (px_rd (pv 1))) (pgx_name (i := 4) sc__law_all.nd rfl (by first | exact Or.inl rfl | exact Or.inr rfl)) (qs_one (q_frz (q_set (i := 3) sc__law_all.nd rfl (by first | exact Or.inl rfl | exact Or.inr rfl) (px_op ox_addL (px_rd (pv 3)) (px_lc rfl (compOk_at (sc := defScope s__law_all) (N := ["_law_frame", "_law_found", "_law_layout_here", "_law_longer", "_law_some"]) (N' := ["_law_rod", "_law_some"]) (fr := [none, some 4]) rfl rfl rfl (by decide +kernel) (by decide +kernel) (by decide +kernel) cells_def (by decide +kernel)) (pix_seq (px_fx h__law_rods hr rfl (pxs_cons (px_rd (pv 2)) pxs_nil))) (fun _ _ _ _ => (pgx_name (i := 0) nd__law_all_1 rfl (by first | exact Or.inl rfl | exact Or.inr rfl))) (fun _ _ _ _ => pxl_nil) (fun _ _ _ _ => (px_op ox_addL (px_rd (pv 1)) (px_lst (pxs_cons (px_rd (pv 0)) pxs_nil))))))))))) (qs_one (q_frz (q_set (i := 1) sc__law_all.nd rfl (by first | exact Or.inl rfl | exact Or.inr rfl) (px_rd (pv 3)))))))) (qs_one (q_retV (pv 1)))))
set_option maxHeartbeats 4000000 in
private theorem fx__law_layout (F : FD K mg "_law_layout" s__law_layout ["_law_number"]) (z_max : mg "max" = none) : FX P w K mg base 1 "_law_layout" ["_law_number"] f__law_layout x__law_layout := by
  exact F.ok sc__law_layout rfl rfl (g := g__law_layout) (k := 0) fun cdv A outer s H E hr => (qs_cons (q_set (i := 1) sc__law_layout.nd rfl (by first | exact Or.inl rfl | exact Or.inr rfl) (px_op ox_addI px_int (px_op ox_mod (px_rd (pv 0)) px_int))) (qs_cons (q_set (i := 2) sc__law_layout.nd rfl (by first | exact Or.inl rfl | exact Or.inr rfl) (px_op ox_mod (px_op ox_fdiv (px_rd (pv 0)) px_int) px_int)) (qs_cons (q_set (i := 3) sc__law_layout.nd rfl (by first | exact Or.inl rfl | exact Or.inr rfl) px_int) (qs_cons (q_frz (q_set (i := 4) sc__law_layout.nd rfl (by first | exact Or.inl rfl | exact Or.inr rfl) (px_op ox_sub (px_rd (pv 1)) px_int))) (qs_cons (q_if (ptx_cmp ox_gt (px_rd (pv 2)) px_int (nomark _)) (qs_cons (q_set (i := 3) sc__law_layout.nd rfl (by first | exact Or.inl rfl | exact Or.inr rfl) (px_op ox_addI px_int (px_op ox_mod (px_op ox_fdiv (px_rd (pv 0)) px_int) px_int))) (qs_one (q_frz (q_frz (q_set (i := 4) sc__law_layout.nd rfl (by first | exact Or.inl rfl | exact Or.inr rfl) (px_callB (cx_max rfl) rfl z_max boot_max (pxs_cons (px_op ox_sub (px_rd (pv 3)) px_int) (pxs_cons (px_op ox_sub (px_op ox_sub (px_rd (pv 1)) px_int) (px_rd (pv 3))) pxs_nil)))))))) qs_nil) (qs_one (q_ret (px_tup (pxs_cons (px_rd (pv 2)) (pxs_cons (px_rd (pv 3)) (pxs_cons (px_op ox_addI (px_rd (pv 4)) (px_op ox_mod (px_op ox_fdiv (px_rd (pv 0)) px_int) px_int)) (pxs_cons (px_rd (pv 1)) pxs_nil))))))))))))
set_option maxHeartbeats 4000000 in
private theorem fx_law {f : Addr} {fd : FuncData} (F : Fun K "law" "law" s_law f fd) (h__law_mixed : FX P w K mg base 1 "_law_mixed" ["_law_script", "_law_k"] f__law_mixed x__law_mixed) (h__law_right : FX P w K mg base 7 "_law_right" ["_law_frame", "_law_standing", "_law_number", "_law_price", "_law_due_here"] f__law_right x__law_right) (h__law_due : FX P w K mg base 2 "_law_due" ["_law_standing", "_law_some", "_law_way"] f__law_due x__law_due) (h__law_borne : FX P w K mg base 1 "_law_borne" ["_law_frame", "_law_standing"] f__law_borne x__law_borne) (h__law_all : FX P w K mg base 2 "_law_all" ["_law_frame"] f__law_all x__law_all) (h__law_layout : FX P w K mg base 1 "_law_layout" ["_law_number"] f__law_layout x__law_layout) (z_range : mg "range" = none) (z_list : mg "list" = none) (z_len : mg "len" = none) (z_max : mg "max" = none) (on_0 : ON K mg "ByBeads") (on_1 : ON K mg "ByGrips") (on_2 : ON K mg "ByMoves") : FnOk P w K mg base CX0 8 f fd ["_law_script"] (spX K f_law) := by
  replace h__law_mixed := h__law_mixed.mono (show 1 ≤ 7 by decide)
  replace h__law_right := h__law_right.mono (show 7 ≤ 7 by decide)
  replace h__law_due := h__law_due.mono (show 2 ≤ 7 by decide)
  replace h__law_borne := h__law_borne.mono (show 1 ≤ 7 by decide)
  replace h__law_all := h__law_all.mono (show 2 ≤ 7 by decide)
  replace h__law_layout := h__law_layout.mono (show 1 ≤ 7 by decide)
  exact FnOk.quiet (h := f_law) (hx := x_law) (fn_ok F sc_law rfl rfl (g := g_law) (k := 7) fun cdv A outer s H E hr => (qs_cons (q_set (i := 1) sc_law.nd rfl (by first | exact Or.inl rfl | exact Or.inr rfl) (px_lc rfl (compOk_at (sc := defScope s_law) (N := ["_law_script", "_law_frame", "_law_some", "_law_standing", "_law_most", "_law_drawn", "_law_number", "_law_good", "_law_prices", "_law_way", "_law_handed", "_law_due_here"]) (N' := ["_law_k", "_law_script"]) (fr := [none, some 0]) rfl rfl rfl (by decide +kernel) (by decide +kernel) (by decide +kernel) cells_def (by decide +kernel)) (pix_range1 rfl z_range (pxs_cons (px_op ox_addI px_int (px_op ox_mod (px_fx h__law_mixed hr rfl (pxs_cons (px_rd (pv 0)) (pxs_cons px_int pxs_nil))) px_int)) pxs_nil)) (fun _ _ _ _ => (pgx_name (i := 0) nd_law_3 rfl (by first | exact Or.inl rfl | exact Or.inr rfl))) (fun _ _ _ _ => pxl_nil) (fun _ _ _ _ => (px_fx h__law_layout hr rfl (pxs_cons (px_fx h__law_mixed hr rfl (pxs_cons (px_rd (pv 1)) (pxs_cons (px_op ox_addI px_int (px_rd (pv 0))) pxs_nil))) pxs_nil))))) (qs_cons (q_frz (q_set (i := 2) sc_law.nd rfl (by first | exact Or.inl rfl | exact Or.inr rfl) (px_fx h__law_all hr rfl (pxs_cons (px_rd (pv 1)) pxs_nil)))) (qs_cons (q_frz (q_set (i := 3) sc_law.nd rfl (by first | exact Or.inl rfl | exact Or.inr rfl) (px_ix (xx_any (hu_of hr)) (px_rd (pv 2)) (px_op ox_mod (px_fx h__law_mixed hr rfl (pxs_cons (px_rd (pv 0)) (pxs_cons px_int pxs_nil))) (px_callB cx_len rfl z_len PySem.boot_len (pxs_cons (px_rd (pv 2)) pxs_nil)))))) (qs_cons (q_frz (q_frz (q_set (i := 4) sc_law.nd rfl (by first | exact Or.inl rfl | exact Or.inr rfl) (px_callB (cx_maxL rfl) rfl z_max boot_max (pxs_cons (px_lc rfl (compOk_at (sc := defScope s_law) (N := ["_law_script", "_law_frame", "_law_some", "_law_standing", "_law_most", "_law_drawn", "_law_number", "_law_good", "_law_prices", "_law_way", "_law_handed", "_law_due_here"]) (N' := ["_law_one", "_law_frame"]) (fr := [none, some 1]) rfl rfl rfl (by decide +kernel) (by decide +kernel) (by decide +kernel) cells_def (by decide +kernel)) (pix_seq (px_rd (pv 2))) (fun _ _ _ _ => (pgx_name (i := 0) nd_law_2 rfl (by first | exact Or.inl rfl | exact Or.inr rfl))) (fun _ _ _ _ => pxl_nil) (fun _ _ _ _ => (px_fx h__law_borne hr rfl (pxs_cons (px_rd (pv 1)) (pxs_cons (px_rd (pv 0)) pxs_nil))))) pxs_nil))))) (qs_cons (q_frz (q_frz (q_set (i := 5) sc_law.nd rfl (by first | exact Or.inl rfl | exact Or.inr rfl) (px_fx h__law_borne hr rfl (pxs_cons (px_rd (pv 1)) (pxs_cons (px_ix (xx_any (hu_of hr)) (px_rd (pv 2)) (px_op ox_mod (px_fx h__law_mixed hr rfl (pxs_cons (px_rd (pv 0)) (pxs_cons px_int pxs_nil))) (px_callB cx_len rfl z_len PySem.boot_len (pxs_cons (px_rd (pv 2)) pxs_nil)))) pxs_nil)))))) (qs_cons (q_frz (q_frz (q_for pown rfl (pix_seq (px_lst (pxs_cons (px_rd (pv 5)) (pxs_cons (px_ix (xx_any (hu_of hr)) (px_lst (pxs_cons (px_rd (pv 4)) (pxs_cons (px_op ox_addI (px_rd (pv 4)) px_int) (pxs_cons (px_op ox_fdiv (px_rd (pv 5)) px_int) pxs_nil)))) (px_op ox_mod (px_fx h__law_mixed hr rfl (pxs_cons (px_rd (pv 0)) (pxs_cons px_int pxs_nil))) px_int)) pxs_nil)))) (pgx_name (i := 6) sc_law.nd rfl (by first | exact Or.inl rfl | exact Or.inr rfl)) (qs_cons (q_frz (q_frz (q_setLc (i := 7) rfl (compOk_at (sc := defScope s_law) (N := ["_law_script", "_law_frame", "_law_some", "_law_standing", "_law_most", "_law_drawn", "_law_number", "_law_good", "_law_prices", "_law_way", "_law_handed", "_law_due_here"]) (N' := ["_law_one", "_law_number", "_law_frame"]) (fr := [none, some 6, some 1]) rfl rfl rfl (by decide +kernel) (by decide +kernel) (by decide +kernel) cells_def (by decide +kernel)) (pix_seq (px_rd (pv 2))) (fun _ _ _ _ => (pgx_name (i := 0) nd_law_1 rfl (by first | exact Or.inl rfl | exact Or.inr rfl))) (fun _ _ _ _ => (pxl_one (ptx_cmp (ox_eq hr.units) (px_fx h__law_borne hr rfl (pxs_cons (px_rd (pv 2)) (pxs_cons (px_rd (pv 0)) pxs_nil))) (px_rd (pv 1)) (nomark _)))) (fun _ _ _ _ => (px_rd (pv 0))) sc_law.nd rfl rfl))) (qs_cons (q_set (i := 8) sc_law.nd rfl (by first | exact Or.inl rfl | exact Or.inr rfl) (px_lst (pxs_cons (px_makeN on_2 rfl) (pxs_cons (px_makeN on_1 rfl) (pxs_cons (px_makeN on_0 rfl) pxs_nil))))) (qs_one (q_for pown rfl (pix_range1 rfl z_range (pxs_cons px_int pxs_nil)) (pgx_name (i := 9) sc_law.nd rfl (by first | exact Or.inl rfl | exact Or.inr rfl)) (qs_cons (q_frz (q_set (i := 10) sc_law.nd rfl (by first | exact Or.inl rfl | exact Or.inr rfl) (px_lst (pxs_cons (px_callTy cx_list rfl z_list PyProof.Rows.boot_list (pxs_cons (px_rd (pv 1)) pxs_nil)) (pxs_cons (px_callTy cx_list rfl z_list PyProof.Rows.boot_list (pxs_cons (px_rd (pv 3)) pxs_nil)) pxs_nil))))) (qs_cons (q_frz (q_set (i := 11) sc_law.nd rfl (by first | exact Or.inl rfl | exact Or.inr rfl) (px_fx h__law_due hr rfl (pxs_cons (px_rd (pv 3)) (pxs_cons (px_rd (pv 7)) (pxs_cons (px_rd (pv 9)) pxs_nil)))))) (qs_cons (q_if (ptx_not (ptx_tru (px_fx h__law_right hr rfl (pxs_cons (px_ix (xx_any (hu_of hr)) (px_rd (pv 10)) px_int) (pxs_cons (px_ix (xx_any (hu_of hr)) (px_rd (pv 10)) px_int) (pxs_cons (px_rd (pv 6)) (pxs_cons (px_ix (xx_any (hu_of hr)) (px_rd (pv 8)) (px_rd (pv 9))) (pxs_cons (px_rd (pv 11)) pxs_nil)))))))) (qs_one (q_ret px_bl)) qs_nil) (qs_one (q_if (ptx_cmp (ox_ne hr.units) (px_rd (pv 10)) (px_lst (pxs_cons (px_rd (pv 1)) (pxs_cons (px_rd (pv 3)) pxs_nil))) (nomark _)) (qs_one (q_ret px_bl)) qs_nil)))))))))))) (qs_one (q_ret px_bl)))))))))
end
set_option maxHeartbeats 4000000 in
private theorem all_mk {l : PySem.W.OpenLaw} {w : World} {K : PySem.W.Frag} {h : Heap} {mg : Str → Option Value} {fa : Addr} (X : K.In h) (G : h.Ns mainGlobals mg) (hfa : mg "law" = some (.ref fa))
    {f0 : Addr} {od0 an0 : Option Addr} {sl0 : Array (Option Value)} {oc0 kV0 dc0 pm0 cd0 ct0 : Value}
    {f1 : Addr} {od1 an1 : Option Addr} {sl1 : Array (Option Value)} {oc1 kV1 dc1 pm1 cd1 ct1 : Value}
    {f2 : Addr} {od2 an2 : Option Addr} {sl2 : Array (Option Value)} {oc2 kV2 dc2 pm2 cd2 ct2 : Value}
    {f3 : Addr} {od3 an3 : Option Addr} {sl3 : Array (Option Value)} {oc3 kV3 dc3 pm3 cd3 ct3 : Value}
    {f4 : Addr} {od4 an4 : Option Addr} {sl4 : Array (Option Value)} {oc4 kV4 dc4 pm4 cd4 ct4 : Value}
    {f5 : Addr} {od5 an5 : Option Addr} {sl5 : Array (Option Value)} {oc5 kV5 dc5 pm5 cd5 ct5 : Value}
    {f6 : Addr} {od6 an6 : Option Addr} {sl6 : Array (Option Value)} {oc6 kV6 dc6 pm6 cd6 ct6 : Value}
    {C_ByMoves : Addr}
    {f7 : Addr} {od7 an7 : Option Addr} {sl7 : Array (Option Value)} {oc7 kV7 dc7 pm7 cd7 ct7 : Value}
    {C_ByGrips : Addr}
    {f8 : Addr} {od8 an8 : Option Addr} {sl8 : Array (Option Value)} {oc8 kV8 dc8 pm8 cd8 ct8 : Value}
    {C_ByBeads : Addr}
    {f9 : Addr} {od9 an9 : Option Addr} {sl9 : Array (Option Value)} {oc9 kV9 dc9 pm9 cd9 ct9 : Value}
    {f10 : Addr} {od10 an10 : Option Addr} {sl10 : Array (Option Value)} {oc10 kV10 dc10 pm10 cd10 ct10 : Value}
    {f11 : Addr} {od11 an11 : Option Addr} {sl11 : Array (Option Value)} {oc11 kV11 dc11 pm11 cd11 ct11 : Value}
    {f12 : Addr} {od12 an12 : Option Addr} {sl12 : Array (Option Value)} {oc12 kV12 dc12 pm12 cd12 ct12 : Value}
    {f13 : Addr} {od13 an13 : Option Addr} {sl13 : Array (Option Value)} {oc13 kV13 dc13 pm13 cd13 ct13 : Value}
    {f14 : Addr} {od14 an14 : Option Addr} {sl14 : Array (Option Value)} {oc14 kV14 dc14 pm14 cd14 ct14 : Value}
    {f15 : Addr} {od15 an15 : Option Addr} {sl15 : Array (Option Value)} {oc15 kV15 dc15 pm15 cd15 ct15 : Value}
    {f16 : Addr} {od16 an16 : Option Addr} {sl16 : Array (Option Value)} {oc16 kV16 dc16 pm16 cd16 ct16 : Value}
    {f17 : Addr} {od17 an17 : Option Addr} {sl17 : Array (Option Value)} {oc17 kV17 dc17 pm17 cd17 ct17 : Value}
    {f18 : Addr} {od18 an18 : Option Addr} {sl18 : Array (Option Value)} {oc18 kV18 dc18 pm18 cd18 ct18 : Value}
    {f19 : Addr} {od19 an19 : Option Addr} {sl19 : Array (Option Value)} {oc19 kV19 dc19 pm19 cd19 ct19 : Value}
    {f20 : Addr} {od20 an20 : Option Addr} {sl20 : Array (Option Value)} {oc20 kV20 dc20 pm20 cd20 ct20 : Value}
    {f21 : Addr} {od21 an21 : Option Addr} {sl21 : Array (Option Value)} {oc21 kV21 dc21 pm21 cd21 ct21 : Value}
    {f22 : Addr} {od22 an22 : Option Addr} {sl22 : Array (Option Value)} {oc22 kV22 dc22 pm22 cd22 ct22 : Value}
    {f23 : Addr} {od23 an23 : Option Addr} {sl23 : Array (Option Value)} {oc23 kV23 dc23 pm23 cd23 ct23 : Value}
    {f24 : Addr} {od24 an24 : Option Addr} {sl24 : Array (Option Value)} {oc24 kV24 dc24 pm24 cd24 ct24 : Value}
    {f25 : Addr} {od25 an25 : Option Addr} {sl25 : Array (Option Value)} {oc25 kV25 dc25 pm25 cd25 ct25 : Value}
    {t_BASE : Tok}
    {t_HIGH : Tok}
    {t_WORTH : Tok}
    {t_LOW : Tok}
    {t_UPPER : Tok}
    {t_LOWER : Tok}
    {C_TooGreat fI_TooGreat : Addr} {od_TooGreat an_TooGreat : Option Addr} {sl_TooGreat : Array (Option Value)} {oc_TooGreat kV_TooGreat dc_TooGreat pm_TooGreat cd_TooGreat ct_TooGreat : Value}
    (a0 : PySem.W.nsIn K mainGlobals "_law_mixed" = some (some (.ref f0))) (l0 : K.lookup f0 = some ⟨oc0, od0, .func (PySem.W.fnOf "_law_mixed" "_law_mixed" (defArgs s__law_mixed) (defBody s__law_mixed) (defScope s__law_mixed) .none kV0 dc0 pm0 an0 cd0 ct0), sl0⟩) (c0 : PySem.W.codeIn K cd0 "_law_mixed" = true) (k0 : PySem.W.keepIn K (.ref f0) = true)
    (a1 : PySem.W.nsIn K mainGlobals "left_behind" = some (some (.ref f1))) (l1 : K.lookup f1 = some ⟨oc1, od1, .func (PySem.W.fnOf "left_behind" "left_behind" (defArgs s_left_behind) (defBody s_left_behind) (defScope s_left_behind) .none kV1 dc1 pm1 an1 cd1 ct1), sl1⟩) (c1 : PySem.W.codeIn K cd1 "left_behind" = true) (k1 : PySem.W.keepIn K (.ref f1) = true)
    (a2 : PySem.W.nsIn K mainGlobals "count_of" = some (some (.ref f2))) (l2 : K.lookup f2 = some ⟨oc2, od2, .func (PySem.W.fnOf "count_of" "count_of" (defArgs s_count_of) (defBody s_count_of) (defScope s_count_of) .none kV2 dc2 pm2 an2 cd2 ct2), sl2⟩) (c2 : PySem.W.codeIn K cd2 "count_of" = true) (k2 : PySem.W.keepIn K (.ref f2) = true)
    (a3 : PySem.W.nsIn K mainGlobals "rod_standings" = some (some (.ref f3))) (l3 : K.lookup f3 = some ⟨oc3, od3, .func (PySem.W.fnOf "rod_standings" "rod_standings" (defArgs s_rod_standings) (defBody s_rod_standings) (defScope s_rod_standings) .none kV3 dc3 pm3 an3 cd3 ct3), sl3⟩) (c3 : PySem.W.codeIn K cd3 "rod_standings" = true) (k3 : PySem.W.keepIn K (.ref f3) = true)
    (a4 : PySem.W.nsIn K mainGlobals "full_worth" = some (some (.ref f4))) (l4 : K.lookup f4 = some ⟨oc4, od4, .func (PySem.W.fnOf "full_worth" "full_worth" (defArgs s_full_worth) (defBody s_full_worth) (defScope s_full_worth) .none kV4 dc4 pm4 an4 cd4 ct4), sl4⟩) (c4 : PySem.W.codeIn K cd4 "full_worth" = true) (k4 : PySem.W.keepIn K (.ref f4) = true)
    (a5 : PySem.W.nsIn K mainGlobals "fitting_counts" = some (some (.ref f5))) (l5 : K.lookup f5 = some ⟨oc5, od5, .func (PySem.W.fnOf "fitting_counts" "fitting_counts" (defArgs s_fitting_counts) (defBody s_fitting_counts) (defScope s_fitting_counts) .none kV5 dc5 pm5 an5 cd5 ct5), sl5⟩) (c5 : PySem.W.codeIn K cd5 "fitting_counts" = true) (k5 : PySem.W.keepIn K (.ref f5) = true)
    (a_ByMoves : PySem.W.nsIn K mainGlobals "ByMoves" = some (some (.ref C_ByMoves)))
    (a6 : PySem.W.findIn K (.ref C_ByMoves) "rod_price" = some (some (.ref f6))) (l6 : K.lookup f6 = some ⟨oc6, od6, .func (PySem.W.fnOf "rod_price" "ByMoves.rod_price" (defArgs s_ByMoves_rod_price) (defBody s_ByMoves_rod_price) (defScope s_ByMoves_rod_price) .none kV6 dc6 pm6 an6 cd6 ct6), sl6⟩) (c6 : PySem.W.codeIn K cd6 "ByMoves.rod_price" = true) (k6 : PySem.W.keepIn K (.ref f6) = true)
    (a_ByGrips : PySem.W.nsIn K mainGlobals "ByGrips" = some (some (.ref C_ByGrips)))
    (a7 : PySem.W.findIn K (.ref C_ByGrips) "rod_price" = some (some (.ref f7))) (l7 : K.lookup f7 = some ⟨oc7, od7, .func (PySem.W.fnOf "rod_price" "ByGrips.rod_price" (defArgs s_ByGrips_rod_price) (defBody s_ByGrips_rod_price) (defScope s_ByGrips_rod_price) .none kV7 dc7 pm7 an7 cd7 ct7), sl7⟩) (c7 : PySem.W.codeIn K cd7 "ByGrips.rod_price" = true) (k7 : PySem.W.keepIn K (.ref f7) = true)
    (a_ByBeads : PySem.W.nsIn K mainGlobals "ByBeads" = some (some (.ref C_ByBeads)))
    (a8 : PySem.W.findIn K (.ref C_ByBeads) "rod_price" = some (some (.ref f8))) (l8 : K.lookup f8 = some ⟨oc8, od8, .func (PySem.W.fnOf "rod_price" "ByBeads.rod_price" (defArgs s_ByBeads_rod_price) (defBody s_ByBeads_rod_price) (defScope s_ByBeads_rod_price) .none kV8 dc8 pm8 an8 cd8 ct8), sl8⟩) (c8 : PySem.W.codeIn K cd8 "ByBeads.rod_price" = true) (k8 : PySem.W.keepIn K (.ref f8) = true)
    (a9 : PySem.W.nsIn K mainGlobals "least_offer" = some (some (.ref f9))) (l9 : K.lookup f9 = some ⟨oc9, od9, .func (PySem.W.fnOf "least_offer" "least_offer" (defArgs s_least_offer) (defBody s_least_offer) (defScope s_least_offer) .none kV9 dc9 pm9 an9 cd9 ct9), sl9⟩) (c9 : PySem.W.codeIn K cd9 "least_offer" = true) (k9 : PySem.W.keepIn K (.ref f9) = true)
    (a10 : PySem.W.nsIn K mainGlobals "least_value" = some (some (.ref f10))) (l10 : K.lookup f10 = some ⟨oc10, od10, .func (PySem.W.fnOf "least_value" "least_value" (defArgs s_least_value) (defBody s_least_value) (defScope s_least_value) .none kV10 dc10 pm10 an10 cd10 ct10), sl10⟩) (c10 : PySem.W.codeIn K cd10 "least_value" = true) (k10 : PySem.W.keepIn K (.ref f10) = true)
    (a11 : PySem.W.nsIn K mainGlobals "values_at" = some (some (.ref f11))) (l11 : K.lookup f11 = some ⟨oc11, od11, .func (PySem.W.fnOf "values_at" "values_at" (defArgs s_values_at) (defBody s_values_at) (defScope s_values_at) .none kV11 dc11 pm11 an11 cd11 ct11), sl11⟩) (c11 : PySem.W.codeIn K cd11 "values_at" = true) (k11 : PySem.W.keepIn K (.ref f11) = true)
    (a12 : PySem.W.nsIn K mainGlobals "count_costs" = some (some (.ref f12))) (l12 : K.lookup f12 = some ⟨oc12, od12, .func (PySem.W.fnOf "count_costs" "count_costs" (defArgs s_count_costs) (defBody s_count_costs) (defScope s_count_costs) .none kV12 dc12 pm12 an12 cd12 ct12), sl12⟩) (c12 : PySem.W.codeIn K cd12 "count_costs" = true) (k12 : PySem.W.keepIn K (.ref f12) = true)
    (a13 : PySem.W.nsIn K mainGlobals "values_behind" = some (some (.ref f13))) (l13 : K.lookup f13 = some ⟨oc13, od13, .func (PySem.W.fnOf "values_behind" "values_behind" (defArgs s_values_behind) (defBody s_values_behind) (defScope s_values_behind) .none kV13 dc13 pm13 an13 cd13 ct13), sl13⟩) (c13 : PySem.W.codeIn K cd13 "values_behind" = true) (k13 : PySem.W.keepIn K (.ref f13) = true)
    (a14 : PySem.W.nsIn K mainGlobals "keys_behind" = some (some (.ref f14))) (l14 : K.lookup f14 = some ⟨oc14, od14, .func (PySem.W.fnOf "keys_behind" "keys_behind" (defArgs s_keys_behind) (defBody s_keys_behind) (defScope s_keys_behind) .none kV14 dc14 pm14 an14 cd14 ct14), sl14⟩) (c14 : PySem.W.codeIn K cd14 "keys_behind" = true) (k14 : PySem.W.keepIn K (.ref f14) = true)
    (a15 : PySem.W.nsIn K mainGlobals "keys_of" = some (some (.ref f15))) (l15 : K.lookup f15 = some ⟨oc15, od15, .func (PySem.W.fnOf "keys_of" "keys_of" (defArgs s_keys_of) (defBody s_keys_of) (defScope s_keys_of) .none kV15 dc15 pm15 an15 cd15 ct15), sl15⟩) (c15 : PySem.W.codeIn K cd15 "keys_of" = true) (k15 : PySem.W.keepIn K (.ref f15) = true)
    (a16 : PySem.W.nsIn K mainGlobals "table_of" = some (some (.ref f16))) (l16 : K.lookup f16 = some ⟨oc16, od16, .func (PySem.W.fnOf "table_of" "table_of" (defArgs s_table_of) (defBody s_table_of) (defScope s_table_of) .none kV16 dc16 pm16 an16 cd16 ct16), sl16⟩) (c16 : PySem.W.codeIn K cd16 "table_of" = true) (k16 : PySem.W.keepIn K (.ref f16) = true)
    (a17 : PySem.W.nsIn K mainGlobals "cheapest_of" = some (some (.ref f17))) (l17 : K.lookup f17 = some ⟨oc17, od17, .func (PySem.W.fnOf "cheapest_of" "cheapest_of" (defArgs s_cheapest_of) (defBody s_cheapest_of) (defScope s_cheapest_of) .none kV17 dc17 pm17 an17 cd17 ct17), sl17⟩) (c17 : PySem.W.codeIn K cd17 "cheapest_of" = true) (k17 : PySem.W.keepIn K (.ref f17) = true)
    (a18 : PySem.W.nsIn K mainGlobals "_law_right" = some (some (.ref f18))) (l18 : K.lookup f18 = some ⟨oc18, od18, .func (PySem.W.fnOf "_law_right" "_law_right" (defArgs s__law_right) (defBody s__law_right) (defScope s__law_right) .none kV18 dc18 pm18 an18 cd18 ct18), sl18⟩) (c18 : PySem.W.codeIn K cd18 "_law_right" = true) (k18 : PySem.W.keepIn K (.ref f18) = true)
    (a19 : PySem.W.nsIn K mainGlobals "_law_rod_price" = some (some (.ref f19))) (l19 : K.lookup f19 = some ⟨oc19, od19, .func (PySem.W.fnOf "_law_rod_price" "_law_rod_price" (defArgs s__law_rod_price) (defBody s__law_rod_price) (defScope s__law_rod_price) .none kV19 dc19 pm19 an19 cd19 ct19), sl19⟩) (c19 : PySem.W.codeIn K cd19 "_law_rod_price" = true) (k19 : PySem.W.keepIn K (.ref f19) = true)
    (a20 : PySem.W.nsIn K mainGlobals "_law_due" = some (some (.ref f20))) (l20 : K.lookup f20 = some ⟨oc20, od20, .func (PySem.W.fnOf "_law_due" "_law_due" (defArgs s__law_due) (defBody s__law_due) (defScope s__law_due) .none kV20 dc20 pm20 an20 cd20 ct20), sl20⟩) (c20 : PySem.W.codeIn K cd20 "_law_due" = true) (k20 : PySem.W.keepIn K (.ref f20) = true)
    (a21 : PySem.W.nsIn K mainGlobals "_law_borne" = some (some (.ref f21))) (l21 : K.lookup f21 = some ⟨oc21, od21, .func (PySem.W.fnOf "_law_borne" "_law_borne" (defArgs s__law_borne) (defBody s__law_borne) (defScope s__law_borne) .none kV21 dc21 pm21 an21 cd21 ct21), sl21⟩) (c21 : PySem.W.codeIn K cd21 "_law_borne" = true) (k21 : PySem.W.keepIn K (.ref f21) = true)
    (a22 : PySem.W.nsIn K mainGlobals "_law_rods" = some (some (.ref f22))) (l22 : K.lookup f22 = some ⟨oc22, od22, .func (PySem.W.fnOf "_law_rods" "_law_rods" (defArgs s__law_rods) (defBody s__law_rods) (defScope s__law_rods) .none kV22 dc22 pm22 an22 cd22 ct22), sl22⟩) (c22 : PySem.W.codeIn K cd22 "_law_rods" = true) (k22 : PySem.W.keepIn K (.ref f22) = true)
    (a23 : PySem.W.nsIn K mainGlobals "_law_all" = some (some (.ref f23))) (l23 : K.lookup f23 = some ⟨oc23, od23, .func (PySem.W.fnOf "_law_all" "_law_all" (defArgs s__law_all) (defBody s__law_all) (defScope s__law_all) .none kV23 dc23 pm23 an23 cd23 ct23), sl23⟩) (c23 : PySem.W.codeIn K cd23 "_law_all" = true) (k23 : PySem.W.keepIn K (.ref f23) = true)
    (a24 : PySem.W.nsIn K mainGlobals "_law_layout" = some (some (.ref f24))) (l24 : K.lookup f24 = some ⟨oc24, od24, .func (PySem.W.fnOf "_law_layout" "_law_layout" (defArgs s__law_layout) (defBody s__law_layout) (defScope s__law_layout) .none kV24 dc24 pm24 an24 cd24 ct24), sl24⟩) (c24 : PySem.W.codeIn K cd24 "_law_layout" = true) (k24 : PySem.W.keepIn K (.ref f24) = true)
    (a25 : PySem.W.nsIn K mainGlobals "law" = some (some (.ref f25))) (l25 : K.lookup f25 = some ⟨oc25, od25, .func (PySem.W.fnOf "law" "law" (defArgs s_law) (defBody s_law) (defScope s_law) .none kV25 dc25 pm25 an25 cd25 ct25), sl25⟩) (c25 : PySem.W.codeIn K cd25 "law" = true) (k25 : PySem.W.keepIn K (.ref f25) = true)
    (z_len : PySem.W.nsIn K mainGlobals "len" = some none)
    (z_range : PySem.W.nsIn K mainGlobals "range" = some none)
    (z_list : PySem.W.nsIn K mainGlobals "list" = some none)
    (z_min : PySem.W.nsIn K mainGlobals "min" = some none)
    (z_int : PySem.W.nsIn K mainGlobals "int" = some none)
    (z_abs : PySem.W.nsIn K mainGlobals "abs" = some none)
    (z_sorted : PySem.W.nsIn K mainGlobals "sorted" = some none)
    (z_reversed : PySem.W.nsIn K mainGlobals "reversed" = some none)
    (z_enumerate : PySem.W.nsIn K mainGlobals "enumerate" = some none)
    (z_isinstance : PySem.W.nsIn K mainGlobals "isinstance" = some none)
    (z_max : PySem.W.nsIn K mainGlobals "max" = some none)
    (z_zip : PySem.W.nsIn K mainGlobals "zip" = some none)
    (u_BASE : PySem.W.nsIn K mainGlobals "BASE" = some (some (.int 3 t_BASE)))
    (u_HIGH : PySem.W.nsIn K mainGlobals "HIGH" = some (some (.int 0 t_HIGH)))
    (u_WORTH : PySem.W.nsIn K mainGlobals "WORTH" = some (some (.int 1 t_WORTH)))
    (u_LOW : PySem.W.nsIn K mainGlobals "LOW" = some (some (.int 1 t_LOW)))
    (u_UPPER : PySem.W.nsIn K mainGlobals "UPPER" = some (some (.int 0 t_UPPER)))
    (u_LOWER : PySem.W.nsIn K mainGlobals "LOWER" = some (some (.int 2 t_LOWER)))
    (y_ByMoves_rod_price : mcB K "ByMoves" "rod_price" f6 = true)
    (y_ByGrips_rod_price : mcB K "ByGrips" "rod_price" f7 = true)
    (y_ByBeads_rod_price : mcB K "ByBeads" "rod_price" f8 = true)
    (y_on_0 : onB K "ByBeads" = true)
    (y_on_1 : onB K "ByGrips" = true)
    (y_on_2 : onB K "ByMoves" = true)
    (y_at_3 : atB K "rod" ["TooGreat"] = true)
    (y_xt_4 : xtB K "TooGreat" [("TooGreat", true)] = true)
    (a_TooGreat : PySem.W.nsIn K mainGlobals "TooGreat" = some (some (.ref C_TooGreat))) (i_TooGreat : PySem.W.findIn K (.ref C_TooGreat) "__init__" = some (some (.ref fI_TooGreat))) (l_TooGreat : K.lookup fI_TooGreat = some ⟨oc_TooGreat, od_TooGreat, .func (PySem.W.fnOf "__init__" "TooGreat.__init__" (defArgs si_TooGreat) (defBody si_TooGreat) (defScope si_TooGreat) .none kV_TooGreat dc_TooGreat pm_TooGreat an_TooGreat cd_TooGreat ct_TooGreat), sl_TooGreat⟩) (c_TooGreat : PySem.W.codeIn K cd_TooGreat "TooGreat.__init__" = true) (k_TooGreat : PySem.W.keepIn K (.ref fI_TooGreat) = true) (b_TooGreat : xiB K C_TooGreat fI_TooGreat ["rod"] = true) :
    ∃ fd : FuncData, (∀ (s : Shared) (v : Value), BindsTo s fd ⟨[v], []⟩ [("_law_script", v)]) ∧ ∀ base : Heap, K.In base → base.Ns mainGlobals mg → FnOk l.prog w K mg base CX0 8 fa fd ["_law_script"] (spX K f_law) := by
  have e := hfa.symm.trans (PySem.W.mg_of X G a25)
  cases e
  have F0 := fun_mk (st := s__law_mixed) l0 c0 k0
  have b0 := F0.binds (ps := ["_law_script", "_law_k"]) fun _ _ _ _ _ _ us (hl : us.length = 2) => by obtain ⟨_, _, rfl⟩ := len2 hl; rfl
  have D0 : FD K mg "_law_mixed" s__law_mixed ["_law_script", "_law_k"] := ⟨_, _, F0, b0, PySem.W.mg_of X G a0⟩
  have F1 := fun_mk (st := s_left_behind) l1 c1 k1
  have b1 := F1.binds (ps := ["layout", "number", "count"]) fun _ _ _ _ _ _ us (hl : us.length = 3) => by obtain ⟨_, _, _, rfl⟩ := len3 hl; rfl
  have D1 : FD K mg "left_behind" s_left_behind ["layout", "number", "count"] := ⟨_, _, F1, b1, PySem.W.mg_of X G a1⟩
  have F2 := fun_mk (st := s_count_of) l2 c2 k2
  have b2 := F2.binds (ps := ["layout", "rod_standing"]) fun _ _ _ _ _ _ us (hl : us.length = 2) => by obtain ⟨_, _, rfl⟩ := len2 hl; rfl
  have D2 : FD K mg "count_of" s_count_of ["layout", "rod_standing"] := ⟨_, _, F2, b2, PySem.W.mg_of X G a2⟩
  have F3 := fun_mk (st := s_rod_standings) l3 c3 k3
  have b3 := F3.binds (ps := ["layout"]) fun _ _ _ _ _ _ us (hl : us.length = 1) => by obtain ⟨_, rfl⟩ := len1 hl; rfl
  have D3 : FD K mg "rod_standings" s_rod_standings ["layout"] := ⟨_, _, F3, b3, PySem.W.mg_of X G a3⟩
  have F4 := fun_mk (st := s_full_worth) l4 c4 k4
  have b4 := F4.binds (ps := ["layout"]) fun _ _ _ _ _ _ us (hl : us.length = 1) => by obtain ⟨_, rfl⟩ := len1 hl; rfl
  have D4 : FD K mg "full_worth" s_full_worth ["layout"] := ⟨_, _, F4, b4, PySem.W.mg_of X G a4⟩
  have F5 := fun_mk (st := s_fitting_counts) l5 c5 k5
  have b5 := F5.binds (ps := ["layout", "number"]) fun _ _ _ _ _ _ us (hl : us.length = 2) => by obtain ⟨_, _, rfl⟩ := len2 hl; rfl
  have D5 : FD K mg "fitting_counts" s_fitting_counts ["layout", "number"] := ⟨_, _, F5, b5, PySem.W.mg_of X G a5⟩
  have F6 := fun_mk (st := s_ByMoves_rod_price) l6 c6 k6
  have b6 := F6.binds (ps := ["self", "one", "other"]) fun _ _ _ _ _ _ us (hl : us.length = 3) => by obtain ⟨_, _, _, rfl⟩ := len3 hl; rfl
  have F7 := fun_mk (st := s_ByGrips_rod_price) l7 c7 k7
  have b7 := F7.binds (ps := ["self", "one", "other"]) fun _ _ _ _ _ _ us (hl : us.length = 3) => by obtain ⟨_, _, _, rfl⟩ := len3 hl; rfl
  have F8 := fun_mk (st := s_ByBeads_rod_price) l8 c8 k8
  have b8 := F8.binds (ps := ["self", "one", "other"]) fun _ _ _ _ _ _ us (hl : us.length = 3) => by obtain ⟨_, _, _, rfl⟩ := len3 hl; rfl
  have F9 := fun_mk (st := s_least_offer) l9 c9 k9
  have b9 := F9.binds (ps := ["layout", "rod_standing", "price", "left", "behind"]) fun _ _ _ _ _ _ us (hl : us.length = 5) => by obtain ⟨_, _, _, _, _, rfl⟩ := len5 hl; rfl
  have D9 : FD K mg "least_offer" s_least_offer ["layout", "rod_standing", "price", "left", "behind"] := ⟨_, _, F9, b9, PySem.W.mg_of X G a9⟩
  have F10 := fun_mk (st := s_least_value) l10 c10 k10
  have b10 := F10.binds (ps := ["layout", "key", "costs", "behind"]) fun _ _ _ _ _ _ us (hl : us.length = 4) => by obtain ⟨_, _, _, _, rfl⟩ := len4 hl; rfl
  have D10 : FD K mg "least_value" s_least_value ["layout", "key", "costs", "behind"] := ⟨_, _, F10, b10, PySem.W.mg_of X G a10⟩
  have F11 := fun_mk (st := s_values_at) l11 c11 k11
  have b11 := F11.binds (ps := ["layout", "keys", "costs", "behind"]) fun _ _ _ _ _ _ us (hl : us.length = 4) => by obtain ⟨_, _, _, _, rfl⟩ := len4 hl; rfl
  have D11 : FD K mg "values_at" s_values_at ["layout", "keys", "costs", "behind"] := ⟨_, _, F11, b11, PySem.W.mg_of X G a11⟩
  have F12 := fun_mk (st := s_count_costs) l12 c12 k12
  have b12 := F12.binds (ps := ["layout", "rod_standing", "price"]) fun _ _ _ _ _ _ us (hl : us.length = 3) => by obtain ⟨_, _, _, rfl⟩ := len3 hl; rfl
  have D12 : FD K mg "count_costs" s_count_costs ["layout", "rod_standing", "price"] := ⟨_, _, F12, b12, PySem.W.mg_of X G a12⟩
  have F13 := fun_mk (st := s_values_behind) l13 c13 k13
  have b13 := F13.binds (ps := ["keys"]) fun _ _ _ _ _ _ us (hl : us.length = 1) => by obtain ⟨_, rfl⟩ := len1 hl; rfl
  have D13 : FD K mg "values_behind" s_values_behind ["keys"] := ⟨_, _, F13, b13, PySem.W.mg_of X G a13⟩
  have F14 := fun_mk (st := s_keys_behind) l14 c14 k14
  have b14 := F14.binds (ps := ["layout", "keys"]) fun _ _ _ _ _ _ us (hl : us.length = 2) => by obtain ⟨_, _, rfl⟩ := len2 hl; rfl
  have D14 : FD K mg "keys_behind" s_keys_behind ["layout", "keys"] := ⟨_, _, F14, b14, PySem.W.mg_of X G a14⟩
  have F15 := fun_mk (st := s_keys_of) l15 c15 k15
  have b15 := F15.binds (ps := ["frame", "number"]) fun _ _ _ _ _ _ us (hl : us.length = 2) => by obtain ⟨_, _, rfl⟩ := len2 hl; rfl
  have D15 : FD K mg "keys_of" s_keys_of ["frame", "number"] := ⟨_, _, F15, b15, PySem.W.mg_of X G a15⟩
  have F16 := fun_mk (st := s_table_of) l16 c16 k16
  have b16 := F16.binds (ps := ["frame", "standing", "number", "price"]) fun _ _ _ _ _ _ us (hl : us.length = 4) => by obtain ⟨_, _, _, _, rfl⟩ := len4 hl; rfl
  have D16 : FD K mg "table_of" s_table_of ["frame", "standing", "number", "price"] := ⟨_, _, F16, b16, PySem.W.mg_of X G a16⟩
  have F17 := fun_mk (st := s_cheapest_of) l17 c17 k17
  have b17 := F17.binds (ps := ["frame", "standing", "number", "price"]) fun _ _ _ _ _ _ us (hl : us.length = 4) => by obtain ⟨_, _, _, _, rfl⟩ := len4 hl; rfl
  have D17 : FD K mg "cheapest_of" s_cheapest_of ["frame", "standing", "number", "price"] := ⟨_, _, F17, b17, PySem.W.mg_of X G a17⟩
  have F18 := fun_mk (st := s__law_right) l18 c18 k18
  have b18 := F18.binds (ps := ["_law_frame", "_law_standing", "_law_number", "_law_price", "_law_due_here"]) fun _ _ _ _ _ _ us (hl : us.length = 5) => by obtain ⟨_, _, _, _, _, rfl⟩ := len5 hl; rfl
  have D18 : FD K mg "_law_right" s__law_right ["_law_frame", "_law_standing", "_law_number", "_law_price", "_law_due_here"] := ⟨_, _, F18, b18, PySem.W.mg_of X G a18⟩
  have F19 := fun_mk (st := s__law_rod_price) l19 c19 k19
  have b19 := F19.binds (ps := ["_law_way", "_law_one", "_law_other"]) fun _ _ _ _ _ _ us (hl : us.length = 3) => by obtain ⟨_, _, _, rfl⟩ := len3 hl; rfl
  have D19 : FD K mg "_law_rod_price" s__law_rod_price ["_law_way", "_law_one", "_law_other"] := ⟨_, _, F19, b19, PySem.W.mg_of X G a19⟩
  have F20 := fun_mk (st := s__law_due) l20 c20 k20
  have b20 := F20.binds (ps := ["_law_standing", "_law_some", "_law_way"]) fun _ _ _ _ _ _ us (hl : us.length = 3) => by obtain ⟨_, _, _, rfl⟩ := len3 hl; rfl
  have D20 : FD K mg "_law_due" s__law_due ["_law_standing", "_law_some", "_law_way"] := ⟨_, _, F20, b20, PySem.W.mg_of X G a20⟩
  have F21 := fun_mk (st := s__law_borne) l21 c21 k21
  have b21 := F21.binds (ps := ["_law_frame", "_law_standing"]) fun _ _ _ _ _ _ us (hl : us.length = 2) => by obtain ⟨_, _, rfl⟩ := len2 hl; rfl
  have D21 : FD K mg "_law_borne" s__law_borne ["_law_frame", "_law_standing"] := ⟨_, _, F21, b21, PySem.W.mg_of X G a21⟩
  have F22 := fun_mk (st := s__law_rods) l22 c22 k22
  have b22 := F22.binds (ps := ["_law_layout_here"]) fun _ _ _ _ _ _ us (hl : us.length = 1) => by obtain ⟨_, rfl⟩ := len1 hl; rfl
  have D22 : FD K mg "_law_rods" s__law_rods ["_law_layout_here"] := ⟨_, _, F22, b22, PySem.W.mg_of X G a22⟩
  have F23 := fun_mk (st := s__law_all) l23 c23 k23
  have b23 := F23.binds (ps := ["_law_frame"]) fun _ _ _ _ _ _ us (hl : us.length = 1) => by obtain ⟨_, rfl⟩ := len1 hl; rfl
  have D23 : FD K mg "_law_all" s__law_all ["_law_frame"] := ⟨_, _, F23, b23, PySem.W.mg_of X G a23⟩
  have F24 := fun_mk (st := s__law_layout) l24 c24 k24
  have b24 := F24.binds (ps := ["_law_number"]) fun _ _ _ _ _ _ us (hl : us.length = 1) => by obtain ⟨_, rfl⟩ := len1 hl; rfl
  have D24 : FD K mg "_law_layout" s__law_layout ["_law_number"] := ⟨_, _, F24, b24, PySem.W.mg_of X G a24⟩
  have F25 := fun_mk (st := s_law) l25 c25 k25
  have b25 := F25.binds (ps := ["_law_script"]) fun _ _ _ _ _ _ us (hl : us.length = 1) => by obtain ⟨_, rfl⟩ := len1 hl; rfl
  replace z_len := PySem.W.mg_none_of X G z_len
  replace z_range := PySem.W.mg_none_of X G z_range
  replace z_list := PySem.W.mg_none_of X G z_list
  replace z_min := PySem.W.mg_none_of X G z_min
  replace z_int := PySem.W.mg_none_of X G z_int
  replace z_abs := PySem.W.mg_none_of X G z_abs
  replace z_sorted := PySem.W.mg_none_of X G z_sorted
  replace z_reversed := PySem.W.mg_none_of X G z_reversed
  replace z_enumerate := PySem.W.mg_none_of X G z_enumerate
  replace z_isinstance := PySem.W.mg_none_of X G z_isinstance
  replace z_max := PySem.W.mg_none_of X G z_max
  replace z_zip := PySem.W.mg_none_of X G z_zip
  have h_BASE : CI K mg "BASE" c_BASE := ⟨_, .int 3, PySem.W.mg_of X G u_BASE, ⟨_, rfl⟩, fun _ => rfl⟩
  have h_HIGH : CI K mg "HIGH" c_HIGH := ⟨_, .int 0, PySem.W.mg_of X G u_HIGH, ⟨_, rfl⟩, fun _ => rfl⟩
  have h_WORTH : CI K mg "WORTH" c_WORTH := ⟨_, .int 1, PySem.W.mg_of X G u_WORTH, ⟨_, rfl⟩, fun _ => rfl⟩
  have h_LOW : CI K mg "LOW" c_LOW := ⟨_, .int 1, PySem.W.mg_of X G u_LOW, ⟨_, rfl⟩, fun _ => rfl⟩
  have h_UPPER : CI K mg "UPPER" c_UPPER := ⟨_, .int 0, PySem.W.mg_of X G u_UPPER, ⟨_, rfl⟩, fun _ => rfl⟩
  have h_LOWER : CI K mg "LOWER" c_LOWER := ⟨_, .int 2, PySem.W.mg_of X G u_LOWER, ⟨_, rfl⟩, fun _ => rfl⟩
  have on_0 := on_of X G y_on_0
  have on_1 := on_of X G y_on_1
  have on_2 := on_of X G y_on_2
  have at_3 := at_of y_at_3
  have xt_4 := xt_of X G y_xt_4
  have F_TooGreat := fun_mk (st := si_TooGreat) l_TooGreat c_TooGreat k_TooGreat
  have B_TooGreat := F_TooGreat.binds (ps := ["self", "rod"]) fun _ _ _ _ _ _ us (hl : us.length = 2) => by obtain ⟨_, _, rfl⟩ := len2 hl; rfl
  refine ⟨PySem.W.fnOf "law" "law" (defArgs s_law) (defBody s_law) (defScope s_law) .none kV25 dc25 pm25 an25 cd25 ct25, fun s v => .of_eq rfl, fun base _ _ => ?_⟩
  have xi_TooGreat := xi_of (P := l.prog) (w := w) (base := base) X G a_TooGreat i_TooGreat b_TooGreat (fun xc na => init1 F_TooGreat sci_TooGreat xc (na _ (by decide)) rfl (.inl rfl) (.inl rfl)) B_TooGreat
  have h__law_mixed := fx__law_mixed (P := l.prog) (w := w) (base := base) D0 z_len
  have h_left_behind := fx_left_behind (P := l.prog) (w := w) (base := base) D1 h_BASE
  have h_count_of := fx_count_of (P := l.prog) (w := w) (base := base) D2 h_HIGH h_WORTH h_LOW
  have h_rod_standings := fx_rod_standings (P := l.prog) (w := w) (base := base) D3 h_UPPER h_LOWER z_range
  have h_full_worth := fx_full_worth (P := l.prog) (w := w) (base := base) D4 h_UPPER h_WORTH h_LOWER
  have h_fitting_counts := fx_fitting_counts (P := l.prog) (w := w) (base := base) D5 h_full_worth h_BASE z_list z_range z_min
  have h_ByMoves_rod_price := fx_ByMoves_rod_price (P := l.prog) (w := w) (mg := mg) (base := base) F6 b6 h_HIGH h_LOW z_int
  have h_ByGrips_rod_price := fx_ByGrips_rod_price (P := l.prog) (w := w) (mg := mg) (base := base) F7 b7 z_int
  have h_ByBeads_rod_price := fx_ByBeads_rod_price (P := l.prog) (w := w) (mg := mg) (base := base) F8 b8 h_HIGH h_LOW z_abs
  have t_rod_price : MT l.prog w K mg base 1 "rod_price" tb_rod_price := (MT.cons (mc_of y_ByMoves_rod_price) (h_ByMoves_rod_price.mono (show 1 ≤ 1 by decide)) (MT.cons (mc_of y_ByGrips_rod_price) (h_ByGrips_rod_price.mono (show 1 ≤ 1 by decide)) (MT.cons (mc_of y_ByBeads_rod_price) (h_ByBeads_rod_price.mono (show 1 ≤ 1 by decide)) MT.nil)))
  have h_least_offer := fx_least_offer (P := l.prog) (w := w) (base := base) D9 h_rod_standings h_left_behind h_count_of h_fitting_counts t_rod_price z_min
  have h_least_value := fx_least_value (P := l.prog) (w := w) (base := base) D10 h_fitting_counts h_left_behind
  have h_values_at := fx_values_at (P := l.prog) (w := w) (base := base) D11 h_least_value
  have h_count_costs := fx_count_costs (P := l.prog) (w := w) (base := base) D12 h_rod_standings h_count_of t_rod_price z_min
  have h_values_behind := fx_values_behind (P := l.prog) (w := w) (base := base) D13 
  have h_keys_behind := fx_keys_behind (P := l.prog) (w := w) (base := base) D14 h_fitting_counts h_left_behind z_sorted
  have h_keys_of := fx_keys_of (P := l.prog) (w := w) (base := base) D15 h_keys_behind
  have h_table_of := fx_table_of (P := l.prog) (w := w) (base := base) D16 h_values_at h_count_costs h_values_behind h_keys_of z_list z_reversed z_range z_len
  have h_cheapest_of := fx_cheapest_of (P := l.prog) (w := w) (base := base) D17 h_left_behind h_count_of h_least_offer h_table_of z_enumerate z_len xi_TooGreat
  have h__law_right := fx__law_right (P := l.prog) (w := w) (base := base) D18 h_cheapest_of z_isinstance z_list z_len at_3 xt_4
  have h__law_rod_price := fx__law_rod_price (P := l.prog) (w := w) (base := base) D19 z_max z_min z_int
  have h__law_due := fx__law_due (P := l.prog) (w := w) (base := base) D20 h__law_rod_price z_zip
  have h__law_borne := fx__law_borne (P := l.prog) (w := w) (base := base) D21 z_zip
  have h__law_rods := fx__law_rods (P := l.prog) (w := w) (base := base) D22 z_range
  have h__law_all := fx__law_all (P := l.prog) (w := w) (base := base) D23 h__law_rods
  have h__law_layout := fx__law_layout (P := l.prog) (w := w) (base := base) D24 z_max
  exact fx_law (P := l.prog) (w := w) (base := base) F25 h__law_mixed h__law_right h__law_due h__law_borne h__law_all h__law_layout z_range z_list z_len z_max on_0 on_1 on_2
private theorem walk {l : PySem.W.OpenLaw} {q : Program} {loose : List Str} {XP : (Str → Option Value) → Heap → Prop} {YP : World → Heap → Prop} {d : DefRec} {K : Params → PySem.W.Frag} (hn : l.most = some 63) (hdf : d.params.defaults = [])
    (hY : ∀ (w : World) (h : Heap), YP w h → (K w.params).In h)
    (F : ∀ (w : World) (mg : Str → Option Value) (fa : Addr) (h : Heap), (K w.params).In h → h.Ns mainGlobals mg → mg d.name = some (.ref fa) →
      ∃ fd : FuncData, (∀ (s : Shared) (u : Value), BindsTo s fd ⟨[u], []⟩ [("_law_script", u)]) ∧ ∀ base : Heap, (K w.params).In base → base.Ns mainGlobals mg → FnOk l.prog w (K w.params) mg base CX0 8 fa fd ["_law_script"] (spX (K w.params) f_law)) :
    PySem.W.WalkO q loose XP YP l.row.toRowW d [] (fun f vs => PySem.call f vs) :=
  L2.walk_of (n := 63) (k := 8) (x := "_law_script") (CX := fun _ => CX0) (sp := fun w => spX (K w.params) f_law) hn (by decide) hdf ⟨rfl, by decide, by decide⟩ hY F (fun _ _ a ns hl _ hS => law_sp hS (law_true ns hl)) fun _ _ _ _ _ z => z
end Gen
open PySem PySem.W PyProof.Rows
set_option maxRecDepth 100000 in
set_option maxHeartbeats 0 in
theorem PySem.Challenge.cw_beadframe_k33_small_frames_by_all_standi_holds : PySem.Challenge.rw_beadframe_k33_small_frames_by_all_standi.Holds := by
  w_on; o_law; k_head; (case hw => w_witness2)
  k_fill
  refine Gen.walk (l := PySem.Challenge.rw_beadframe_k33_small_frames_by_all_standi) rfl rfl (fun w h Y => PySem.W.kIn_of Y) ?F
  case F =>
    intro w mg fa h KX G hmg
    refine' Gen.all_mk KX G hmg ?a0 ?l0 ?c0 ?k0 ?a1 ?l1 ?c1 ?k1 ?a2 ?l2 ?c2 ?k2 ?a3 ?l3 ?c3 ?k3 ?a4 ?l4 ?c4 ?k4 ?a5 ?l5 ?c5 ?k5 ?a_ByMoves ?a6 ?l6 ?c6 ?k6 ?a_ByGrips ?a7 ?l7 ?c7 ?k7 ?a_ByBeads ?a8 ?l8 ?c8 ?k8 ?a9 ?l9 ?c9 ?k9 ?a10 ?l10 ?c10 ?k10 ?a11 ?l11 ?c11 ?k11 ?a12 ?l12 ?c12 ?k12 ?a13 ?l13 ?c13 ?k13 ?a14 ?l14 ?c14 ?k14 ?a15 ?l15 ?c15 ?k15 ?a16 ?l16 ?c16 ?k16 ?a17 ?l17 ?c17 ?k17 ?a18 ?l18 ?c18 ?k18 ?a19 ?l19 ?c19 ?k19 ?a20 ?l20 ?c20 ?k20 ?a21 ?l21 ?c21 ?k21 ?a22 ?l22 ?c22 ?k22 ?a23 ?l23 ?c23 ?k23 ?a24 ?l24 ?c24 ?k24 ?a25 ?l25 ?c25 ?k25 ?z_len ?z_range ?z_list ?z_min ?z_int ?z_abs ?z_sorted ?z_reversed ?z_enumerate ?z_isinstance ?z_max ?z_zip ?u_BASE ?u_HIGH ?u_WORTH ?u_LOW ?u_UPPER ?u_LOWER ?y_ByMoves_rod_price ?y_ByGrips_rod_price ?y_ByBeads_rod_price ?y_on_0 ?y_on_1 ?y_on_2 ?y_at_3 ?y_xt_4 ?a_TooGreat ?i_TooGreat ?l_TooGreat ?c_TooGreat ?k_TooGreat ?b_TooGreat
    (case a0 => k_is)
    (case l0 => k_is)
    (case c0 => k_is)
    (case k0 => k_is)
    (case a1 => k_is)
    (case l1 => k_is)
    (case c1 => k_is)
    (case k1 => k_is)
    (case a2 => k_is)
    (case l2 => k_is)
    (case c2 => k_is)
    (case k2 => k_is)
    (case a3 => k_is)
    (case l3 => k_is)
    (case c3 => k_is)
    (case k3 => k_is)
    (case a4 => k_is)
    (case l4 => k_is)
    (case c4 => k_is)
    (case k4 => k_is)
    (case a5 => k_is)
    (case l5 => k_is)
    (case c5 => k_is)
    (case k5 => k_is)
    (case a_ByMoves => k_is)
    (case a6 => k_is)
    (case l6 => k_is)
    (case c6 => k_is)
    (case k6 => k_is)
    (case a_ByGrips => k_is)
    (case a7 => k_is)
    (case l7 => k_is)
    (case c7 => k_is)
    (case k7 => k_is)
    (case a_ByBeads => k_is)
    (case a8 => k_is)
    (case l8 => k_is)
    (case c8 => k_is)
    (case k8 => k_is)
    (case a9 => k_is)
    (case l9 => k_is)
    (case c9 => k_is)
    (case k9 => k_is)
    (case a10 => k_is)
    (case l10 => k_is)
    (case c10 => k_is)
    (case k10 => k_is)
    (case a11 => k_is)
    (case l11 => k_is)
    (case c11 => k_is)
    (case k11 => k_is)
    (case a12 => k_is)
    (case l12 => k_is)
    (case c12 => k_is)
    (case k12 => k_is)
    (case a13 => k_is)
    (case l13 => k_is)
    (case c13 => k_is)
    (case k13 => k_is)
    (case a14 => k_is)
    (case l14 => k_is)
    (case c14 => k_is)
    (case k14 => k_is)
    (case a15 => k_is)
    (case l15 => k_is)
    (case c15 => k_is)
    (case k15 => k_is)
    (case a16 => k_is)
    (case l16 => k_is)
    (case c16 => k_is)
    (case k16 => k_is)
    (case a17 => k_is)
    (case l17 => k_is)
    (case c17 => k_is)
    (case k17 => k_is)
    (case a18 => k_is)
    (case l18 => k_is)
    (case c18 => k_is)
    (case k18 => k_is)
    (case a19 => k_is)
    (case l19 => k_is)
    (case c19 => k_is)
    (case k19 => k_is)
    (case a20 => k_is)
    (case l20 => k_is)
    (case c20 => k_is)
    (case k20 => k_is)
    (case a21 => k_is)
    (case l21 => k_is)
    (case c21 => k_is)
    (case k21 => k_is)
    (case a22 => k_is)
    (case l22 => k_is)
    (case c22 => k_is)
    (case k22 => k_is)
    (case a23 => k_is)
    (case l23 => k_is)
    (case c23 => k_is)
    (case k23 => k_is)
    (case a24 => k_is)
    (case l24 => k_is)
    (case c24 => k_is)
    (case k24 => k_is)
    (case a25 => k_is)
    (case l25 => k_is)
    (case c25 => k_is)
    (case k25 => k_is)
    (case z_len => k_is)
    (case z_range => k_is)
    (case z_list => k_is)
    (case z_min => k_is)
    (case z_int => k_is)
    (case z_abs => k_is)
    (case z_sorted => k_is)
    (case z_reversed => k_is)
    (case z_enumerate => k_is)
    (case z_isinstance => k_is)
    (case z_max => k_is)
    (case z_zip => k_is)
    (case u_BASE => k_is)
    (case u_HIGH => k_is)
    (case u_WORTH => k_is)
    (case u_LOW => k_is)
    (case u_UPPER => k_is)
    (case u_LOWER => k_is)
    (case y_ByMoves_rod_price => kernel_rfl)
    (case y_ByGrips_rod_price => kernel_rfl)
    (case y_ByBeads_rod_price => kernel_rfl)
    (case y_on_0 => kernel_rfl)
    (case y_on_1 => kernel_rfl)
    (case y_on_2 => kernel_rfl)
    (case y_at_3 => kernel_rfl)
    (case y_xt_4 => kernel_rfl)
    (case a_TooGreat => k_is)
    (case i_TooGreat => k_is)
    (case l_TooGreat => k_is)
    (case c_TooGreat => k_is)
    (case k_TooGreat => k_is)
    (case b_TooGreat => kernel_rfl)
