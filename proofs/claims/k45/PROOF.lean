import PyProof.Rows.All
import Wide.All
import OpenK.AllK
import Wide.FinOn
import Lean
import PyProof.EqAt
import PyProof.EqKinds
import PyProof.TupleCall
import KE.KRevIter
import KE.KRevSl
import KE.KDictSum
import PyProof.Rows.SortWalk
import PySem.Challenge.RW_agegrade_k45_bands_of_sons
set_option Elab.async false
set_option linter.all false
set_option maxRecDepth 100000

namespace L2
open PySem PySem.Spec PyProof.Rows
abbrev Key := Sum Int Str
def keyIs : Key → Value → Bool
  | .inl k, v => Value.isInt k v
  | .inr x, v => Value.isStrOf x v
def keyH (w : World) : Key → Int
  | .inl k => hashInt k
  | .inr x => hashStr w x
theorem keyIs_shape : ∀ {k : Key} {v : Value}, keyIs k v = true → (∃ i t, k = Sum.inl i ∧ v = Value.int i t) ∨ (∃ x t, k = Sum.inr x ∧ v = Value.str x t)
  | .inl i, v, h => by
    obtain ⟨t, e⟩ := Value.isInt_shape (k := i) (v := v) h
    exact .inl ⟨i, t, rfl, e⟩
  | .inr x, v, h => by
    obtain ⟨t, e⟩ := Value.isStrOf_shape (x := x) (v := v) h
    exact .inr ⟨x, t, rfl, e⟩
theorem keyIs_int (i : Int) (t : Tok) : keyIs (.inl i) (.int i t) = true := by simp [keyIs, Value.isInt]
theorem keyIs_str (x : Str) (t : Tok) : keyIs (.inr x) (.str x t) = true := by simp [keyIs, Value.isStrOf]
theorem key_ll (a b : Int) : decide ((Sum.inl a : Key) = Sum.inl b) = (a == b) := by
  by_cases e : a = b
  · subst e; simp
  · have h : ¬ (Sum.inl a : Key) = Sum.inl b := fun q => e (Sum.inl.inj q)
    rw [decide_eq_false h]
    exact (beq_eq_false_iff_ne.mpr e).symm
theorem key_rr (a b : Str) : decide ((Sum.inr a : Key) = Sum.inr b) = decide (a = b) := by
  by_cases e : a = b
  · subst e; simp
  · have h : ¬ (Sum.inr a : Key) = Sum.inr b := fun q => e (Sum.inr.inj q)
    rw [decide_eq_false h, decide_eq_false e]
theorem key_lr (a : Int) (b : Str) : decide ((Sum.inl a : Key) = Sum.inr b) = false := decide_eq_false (fun q => nomatch q)
theorem key_rl (a : Str) (b : Int) : decide ((Sum.inr a : Key) = Sum.inl b) = false := decide_eq_false (fun q => nomatch q)
def mixKind (prog : Program) (w : World) : PySem.KeyKind prog w Key where
  is := keyIs
  hash := keyH w
  inj := fun v a b ha hb => by
    rcases keyIs_shape ha with ⟨i, t, rfl, rfl⟩ | ⟨x, t, rfl, rfl⟩
    · rcases keyIs_shape hb with ⟨j, u, rfl, e⟩ | ⟨y, u, rfl, e⟩
      · injection e with e1 _; rw [e1]
      · exact nomatch e
    · rcases keyIs_shape hb with ⟨j, u, rfl, e⟩ | ⟨y, u, rfl, e⟩
      · exact nomatch e
      · injection e with e1 _; rw [e1]
  byValue := fun k v h => by
    rcases keyIs_shape h with ⟨i, t, rfl, rfl⟩ | ⟨x, t, rfl, rfl⟩ <;> rfl
  pyHash := fun hv h => by
    rcases keyIs_shape hv with ⟨i, t, rfl, rfl⟩ | ⟨x, t, rfl, rfl⟩
    · exact wpAny_pyHash_int h
    · exact wpAny_pyHash_str h
  eqBool := fun hu hv h => by
    rcases keyIs_shape hu with ⟨i, t, rfl, rfl⟩ | ⟨x, t, rfl, rfl⟩
    · rcases keyIs_shape hv with ⟨j, u, rfl, rfl⟩ | ⟨y, u, rfl, rfl⟩
      · rw [key_ll] at h; exact wpAny_eqBool_int h
      · rw [key_lr] at h; exact SeqAt.EqAt.int_str i t y u _ _ _ _ h
    · rcases keyIs_shape hv with ⟨j, u, rfl, rfl⟩ | ⟨y, u, rfl, rfl⟩
      · rw [key_rl] at h; exact SeqAt.EqAt.str_int x t j u _ _ _ _ h
      · rw [key_rr] at h; exact wpAny_eqBool_str h
  «strs» := fun k x t v h => by
    rcases keyIs_shape h with ⟨i, u, rfl, e⟩ | ⟨y, u, rfl, e⟩
    · exact nomatch e
    · injection e with e1 _
      subst e1
      cases v <;> rfl
theorem mixKind_int (prog : Program) (w : World) (i : Int) (t : Tok) : (mixKind prog w).is (.inl i) (.int i t) = true := keyIs_int i t
theorem mixKind_str (prog : Program) (w : World) (x : Str) (t : Tok) : (mixKind prog w).is (.inr x) (.str x t) = true := keyIs_str x t
end L2
namespace L2
open PySem PySem.Spec PyProof.Rows
inductive V where
  | non | bl (b : Bool) | int (i : Int) | str (x : Str) | byt (b : Array UInt8) | flt (b : UInt64) | ref (a : Addr) | ty (n : String)
  deriving DecidableEq
def RelV : V → Value → Prop
  | .non, u => u = Value.none
  | .bl b, u => u = Value.bool b
  | .int i, u => ∃ t, u = Value.int i t
  | .str x, u => ∃ t, u = Value.str x t
  | .byt b, u => ∃ t, u = Value.bytes b t
  | .flt b, u => ∃ t, u = Value.float b t
  | .ref a, u => u = Value.ref a
  | .ty n, u => u = Value.type n
abbrev Vals : List V → List Value → Prop := Paired RelV
theorem Vals.length {xs : List V} {us : List Value} (r : Vals xs us) : xs.length = us.length := Paired.length r
theorem Vals.get : ∀ {xs : List V} {us : List Value} {i : Nat} {x : V}, Vals xs us → xs[i]? = some x → ∃ u, us[i]? = some u ∧ RelV x u
  | _, _, _, _, .nil, e => by simp at e
  | _, _, 0, _, .cons r _, e => by simp at e; subst e; exact ⟨_, rfl, r⟩
  | _, _, i + 1, x, .cons _ t, e => by
    obtain ⟨u, h1, h2⟩ := Vals.get (i := i) (x := x) t (by simpa using e)
    exact ⟨u, by simpa using h1, h2⟩
theorem Vals.set {x : V} {u : Value} (r : RelV x u) : ∀ {xs : List V} {us : List Value} (i : Nat), Vals xs us → Vals (xs.set i x) (us.set i u)
  | _, _, _, .nil => .nil
  | _, _, 0, .cons _ t => .cons r t
  | _, _, i + 1, .cons q t => .cons q (Vals.set r i t)
theorem Vals.append : ∀ {xs ys : List V} {us ws : List Value}, Vals xs us → Vals ys ws → Vals (xs ++ ys) (us ++ ws)
  | _, _, _, _, .nil, s => s
  | _, _, _, _, .cons r t, s => .cons r (Vals.append t s)
theorem Vals.take : ∀ {xs : List V} {us : List Value} (n : Nat), Vals xs us → Vals (xs.take n) (us.take n)
  | _, _, 0, _ => .nil
  | _, _, _ + 1, .nil => .nil
  | _, _, n + 1, .cons r t => .cons r (Vals.take n t)
theorem Vals.drop : ∀ {xs : List V} {us : List Value} (n : Nat), Vals xs us → Vals (xs.drop n) (us.drop n)
  | _, _, 0, r => r
  | _, _, _ + 1, .nil => .nil
  | _, _, n + 1, .cons _ t => Vals.drop n t
theorem Vals.none_of : ∀ {xs : List V} {us : List Value} {i : Nat}, Vals xs us → xs[i]? = none → us[i]? = none := fun {xs us i} r e => by
  have h1 := r.length
  have h2 : xs.length ≤ i := List.getElem?_eq_none_iff.mp e
  exact List.getElem?_eq_none_iff.mpr (by omega)
def RelO : Option V → Option Value → Prop
  | some v, some u => RelV v u
  | none, none => True
  | _, _ => False
def KV {κ : Type} : List (κ × V) → List (κ × Value) → Prop := Paired fun (p : κ × V) (q : κ × Value) => p.1 = q.1 ∧ RelV p.2 q.2
def kV : Key → V
  | .inl i => .int i
  | .inr x => .str x
inductive HO where
  | lst (xs : List V)
  | tup (xs : List V)
  | dK (kvs : List (Key × V)) | dT (kvs : List (List Key × V))
  | set (S : Int → Bool) (n : Nat)
  | ins (C dx : Addr) (fs : List (Str × V))
  | own (x : Addr)
  | xd (fs : List (Str × V))
  | met (f x : Addr)
  | rng (lo hi : Int)
  | frz (o : Obj) (u : HO)
  | tbl (ps : Array Value)
  | ext (φ : Heap → Prop)
abbrev Hp := Addr → Option HO
def upd (H : Hp) (a : Addr) (o : HO) : Hp := fun b => if b = a then some o else H b
theorem upd_same {H : Hp} {a : Addr} {o : HO} : upd H a o a = some o := by unfold upd; rw [if_pos rfl]
theorem upd_ne {H : Hp} {a b : Addr} {o : HO} (h : b ≠ a) : upd H a o b = H b := by unfold upd; rw [if_neg h]
theorem upd_upd {H : Hp} {a : Addr} {o u : HO} : upd (upd H a o) a u = upd H a u := by
  funext b; unfold upd; split <;> rfl
theorem ne_of {H : Hp} {a b : Addr} {o u : HO} (h : H a = some o) (h' : H b = some u) (d : o ≠ u) : a ≠ b := by
  intro e; subst e; rw [h] at h'; exact d (Option.some.inj h')
theorem ne_of_none {H : Hp} {a b : Addr} {o : HO} (h : H a = some o) (h' : H b = none) : a ≠ b := by
  intro e; subst e; rw [h] at h'; cases h'
section
variable (P : Program) (w : World)
def ObjOk (H : Hp) (h : Heap) (a : Addr) : HO → Prop
  | .lst xs => xs.length ≤ sizeLine ∧ ∃ (its : List Value) (n : Nat), Vals xs its ∧ h.get? a = some { cls := .type "list", data := .seq its.toArray n }
  | .tup xs => xs.length ≤ sizeLine ∧ ∃ its : List Value, Vals xs its ∧ IsTup h a its.toArray
  | .dK kvs => kvs.length ≤ sizeLine ∧ (a == sysModules) = false ∧ ∃ vs, KV kvs vs ∧ h.DictOf (mixKind P w) a vs
  | .dT kvs => kvs.length ≤ sizeLine ∧ (a == sysModules) = false ∧ ∃ xs : List (List Key × Addr × Value),
      Paired (fun (p : List Key × V) (q : List Key × Addr × Value) => p.1 = q.1 ∧ H q.2.1 = some (.tup (p.1.map kV)) ∧ RelV p.2 q.2.2) kvs xs ∧
      ∃ o es ep, h.get? a = some o ∧ o.ExactDict ∧ o.data = .dict es ep ∧ es.toList = xs.map (entryOfKey (tupleKind (mixKind P w))) ∧ (xs.map (·.1)).Nodup
  | .set S n => h.SetOf (intKind P w) a S n
  | .ins C dx fs => H dx = some (.own a) ∧ fs.length ≤ 1000 ∧ dx ≠ a ∧ h.get? a = some (PySem.W.instObj C dx) ∧
      ∃ mA, h.Ns1 dx mA ∧ (∀ f, RelO (fs.lookup f) (mA f)) ∧ PySem.Within mA (fs.map (·.1))
  | .own _ => ∃ o, h.get? a = some o
  | .xd fs => ∃ mA, h.Ns1 a mA ∧ ∀ f, RelO (fs.lookup f) (mA f)
  | .rng lo hi => ∃ t u v, h.get? a = some { cls := .type "range", data := .fields #[.int lo t, .int hi u, .int 1 v] }
  | .frz o u => h.get? a = some o ∧ ObjOk H h a u
  | .tbl ps => h.get? a = some { cls := .none, data := .fields ps }
  | .met f x => h.get? a = some (PySem.W.methodObj (.ref f) (.ref x))
  | .ext φ => φ h ∧ (∃ o, h.get? a = some o) ∧ ∀ h1 h2 : Heap, φ h1 → (∀ o, h1.get? a = some o → h2.get? a = some o) → φ h2
def HOk (H : Hp) (h : Heap) : Prop := ∀ a o, H a = some o → ObjOk P w H h a o
end
section
variable {P : Program} {w : World} {H H' : Hp} {h h' : Heap} {a : Addr} {o : HO}
theorem ObjOk.lt (x : ObjOk P w H h a o) : a < h.objs.size := by
  cases o with
  | lst xs => obtain ⟨_, _, _, _, e⟩ := x; exact Heap.lt_size e
  | tup xs => obtain ⟨_, _, _, p⟩ := x; exact p.lt
  | dK kvs => obtain ⟨_, _, _, _, o, _, _, e, _⟩ := x; exact Heap.lt_size e
  | dT kvs => obtain ⟨_, _, _, _, o, _, _, e, _⟩ := x; exact Heap.lt_size e
  | set S n => obtain ⟨o, _, _, _, e, _⟩ := x; exact Heap.lt_size e
  | ins C dx fs => obtain ⟨_, _, _, e, _⟩ := x; exact Heap.lt_size e
  | own y => obtain ⟨_, e⟩ := x; exact Heap.lt_size e
  | xd fs => obtain ⟨_, ⟨_, _, _, e, _⟩, _⟩ := x; exact Heap.lt_size e
  | rng lo hi => obtain ⟨_, _, _, e⟩ := x; exact Heap.lt_size e
  | frz ob u => obtain ⟨e, _⟩ := x; exact Heap.lt_size e
  | tbl ps => exact Heap.lt_size (show h.get? a = some _ from x)
  | met f y => exact Heap.lt_size (show h.get? a = some _ from x)
  | ext φ => obtain ⟨_, ⟨_, e⟩, _⟩ := x; exact Heap.lt_size e
theorem Paired.mapP {α β : Type} {F G : α → β → Prop} : ∀ {l₁ : List α} {l₂ : List β}, Paired F l₁ l₂ → (∀ a b, F a b → G a b) → Paired G l₁ l₂
  | _, _, .nil, _ => .nil
  | _, _, .cons r t, f => .cons (f _ _ r) (Paired.mapP t f)
theorem ObjOk.stay (x : ObjOk P w H h a o) (k : ∀ b u, (b = a ∨ H b = some (.own a)) → h.get? b = some u → h'.get? b = some u)
    (ho : ∀ b, H b = some (.own a) → H' b = some (.own a)) (ht : ∀ b xs, H b = some (.tup xs) → H' b = some (.tup xs)) : ObjOk P w H' h' a o := by
  induction o with
  | lst xs => obtain ⟨z, its, n, r, e⟩ := x; exact ⟨z, its, n, r, k _ _ (.inl rfl) e⟩
  | tup xs => obtain ⟨z, its, r, ob, e, c⟩ := x; exact ⟨z, its, r, ob, k _ _ (.inl rfl) e, c⟩
  | dK kvs => obtain ⟨z, y, vs, r, ob, es, ep, e, c⟩ := x; exact ⟨z, y, vs, r, ob, es, ep, k _ _ (.inl rfl) e, c⟩
  | dT kvs =>
    obtain ⟨z, y, xs, r, ob, es, ep, e, c⟩ := x
    exact ⟨z, y, xs, Paired.mapP r fun p q z => ⟨z.1, ht _ _ z.2.1, z.2.2⟩, ob, es, ep, k _ _ (.inl rfl) e, c⟩
  | set S n => obtain ⟨ob, es, ep, t, e, c⟩ := x; exact ⟨ob, es, ep, t, k _ _ (.inl rfl) e, c⟩
  | ins C dx fs =>
    obtain ⟨d, z, ne, e, mA, ⟨od, es, ep, e2, c⟩, r⟩ := x
    exact ⟨ho _ d, z, ne, k _ _ (.inl rfl) e, mA, ⟨od, es, ep, k _ _ (.inr d) e2, c⟩, r⟩
  | own y => obtain ⟨ob, e⟩ := x; exact ⟨ob, k _ _ (.inl rfl) e⟩
  | xd fs => obtain ⟨mA, ⟨od, es, ep, e, c⟩, r⟩ := x; exact ⟨mA, ⟨od, es, ep, k _ _ (.inl rfl) e, c⟩, r⟩
  | rng lo hi => obtain ⟨t, u, v, e⟩ := x; exact ⟨t, u, v, k _ _ (.inl rfl) e⟩
  | frz ob u ih => obtain ⟨e, q⟩ := x; exact ⟨k _ _ (.inl rfl) e, ih q⟩
  | tbl ps =>
    have e : h.get? a = some { cls := .none, data := .fields ps } := x
    show h'.get? a = some { cls := .none, data := .fields ps }
    exact k a _ (.inl rfl) e
  | met f y =>
    have e : h.get? a = some (PySem.W.methodObj (.ref f) (.ref y)) := x
    show h'.get? a = some (PySem.W.methodObj (.ref f) (.ref y))
    exact k a _ (.inl rfl) e
  | ext φ => obtain ⟨p, ⟨o, e⟩, st⟩ := x; exact ⟨st _ _ p fun o q => k _ _ (.inl rfl) q, ⟨o, k _ _ (.inl rfl) e⟩, st⟩
theorem HOk.lt (x : HOk P w H h) (e : H a = some o) : a < h.objs.size := (x a o e).lt
theorem HOk.fresh (x : HOk P w H h) (e : h.objs.size ≤ a) : H a = none := by
  cases q : H a with
  | none => rfl
  | some u => exact absurd (Nat.lt_of_lt_of_le (x.lt q) e) (Nat.lt_irrefl _)
theorem HOk.kept (x : HOk P w H h) (k : ∀ b u, h.get? b = some u → h'.get? b = some u) : HOk P w H h' := fun a o e =>
  (x a o e).stay (fun b u _ q => k b u q) (fun _ q => q) fun _ _ q => q
theorem HOk.laid (x : HOk P w H h) (k : ∀ b u, h.get? b = some u → h'.get? b = some u) (hp : h.objs.size ≤ a) (new : ObjOk P w (upd H a o) h' a o) : HOk P w (upd H a o) h' := fun b u e => by
  have hn := x.fresh hp
  by_cases hb : b = a
  · subst hb; rw [upd_same] at e; cases e; exact new
  · rw [upd_ne hb] at e
    exact (x b u e).stay (fun c v _ q => k c v q) (fun c q => by rw [upd_ne (ne_of_none q hn)]; exact q) fun c xs q => by rw [upd_ne (ne_of_none q hn)]; exact q
end
def Rd (H : Hp) (a : Addr) (u : HO) : Prop := H a = some u ∨ ∃ o, H a = some (.frz o u)
theorem Rd.of {H : Hp} {a : Addr} {u : HO} (h : H a = some u) : Rd H a u := .inl h
theorem Rd.ok {P : Program} {w : World} {H : Hp} {h : Heap} {a : Addr} {u : HO} (r : Rd H a u) (x : HOk P w H h) : ObjOk P w H h a u := by
  rcases r with r | ⟨o, r⟩
  · exact x a u r
  · obtain ⟨_, q⟩ := x a _ r
    exact q
def Mut : Option HO → Prop
  | some (.lst _) => True
  | some (.dK _) => True
  | some (.dT _) => True
  | some (.set _ _) => True
  | some (.ins _ _ _) => True
  | some (.ext _) => True
  | _ => False
section
variable {P : Program} {w : World} {H : Hp} {h h' : Heap} {x e : Addr} {o' : HO}
theorem HOk.write (ok : HOk P w H h) (mu : Mut (H x)) (he : e = x ∨ H e = some (.own x)) (k : ∀ b u, b ≠ e → h.get? b = some u → h'.get? b = some u) (heo : ∃ u, h'.get? e = some u)
    (new : ObjOk P w (upd H x o') h' x o') : HOk P w (upd H x o') h' := fun b u q => by
  have nown : ∀ c y, H c = some (.own y) → c ≠ x := fun c y r z => by subst z; rw [r] at mu; exact mu
  have ntup : ∀ c xs, H c = some (.tup xs) → c ≠ x := fun c xs r z => by subst z; rw [r] at mu; exact mu
  by_cases hb : b = x
  · subst hb; rw [upd_same] at q; cases q; exact new
  · rw [upd_ne hb] at q
    by_cases hbe : b = e
    · have q' : H b = some (.own x) := by
        rcases he with z | z
        · exact absurd (hbe.trans z) hb
        · rw [hbe]; exact z
      rw [q] at q'; cases q'
      obtain ⟨v, hv⟩ := heo
      exact ⟨v, by rw [hbe]; exact hv⟩
    · refine (ok b u q).stay (fun c v hc r => k c v ?_ r) (fun c r => by rw [upd_ne (nown c b r)]; exact r) fun c xs r => by rw [upd_ne (ntup c xs r)]; exact r
      rcases hc with rfl | hc
      · exact hbe
      · rintro rfl
        rcases he with z | z
        · exact nown c b hc z
        · rw [hc] at z; cases z; exact hb rfl
end
structure Un (fs ex : List Addr) (H H' : Hp) (h h' : Heap) : Prop where
  keep : ∀ b o, h.get? b = some o → H b = none → b ∉ fs → b ∉ ex → h'.get? b = some o
  slot : ∀ b o, h.get? b = some o → H b = none → b ∈ fs → b ∉ ex → ∃ sl, h'.get? b = some { o with slots := sl }
  free : ∀ b o, h.get? b = some o → H b = none → b ∉ ex → H' b = none
  there : ∀ b o, h.get? b = some o → b ∉ ex → ∃ o', h'.get? b = some o'
  tups : ∀ b xs, H b = some (.tup xs) → H' b = some (.tup xs)
  frzs : ∀ b o u, H b = some (.frz o u) → H' b = some (.frz o u)
  tbls : ∀ b ps, H b = some (.tbl ps) → ∃ more, H' b = some (.tbl (ps ++ more))
section
variable {fs fs' ex ex' : List Addr} {H H1 H2 : Hp} {h h1 h2 h' : Heap} {a x e : Addr} {o : HO}
theorem Un.any (u : Un fs ex H H1 h h1) {b : Addr} {ob : Obj} (q : h.get? b = some ob) (n : H b = none) (hx : b ∉ ex) : ∃ sl, h1.get? b = some { ob with slots := sl } := by
  by_cases hb : b ∈ fs
  · exact u.slot b ob q n hb hx
  · exact ⟨ob.slots, u.keep b ob q n hb hx⟩
theorem Un.trans (a : Un fs ex H H1 h h1) (b : Un fs ex H1 H2 h1 h2) : Un fs ex H H2 h h2 where
  keep := fun c ob q n hc hx => b.keep c ob (a.keep c ob q n hc hx) (a.free c ob q n hx) hc hx
  slot := fun c ob q n hc hx => by
    obtain ⟨sl, e1⟩ := a.slot c ob q n hc hx
    obtain ⟨sl', e2⟩ := b.slot c _ e1 (a.free c ob q n hx) hc hx
    exact ⟨sl', e2⟩
  free := fun c ob q n hx => by
    obtain ⟨o', e1⟩ := a.there c ob q hx
    exact b.free c o' e1 (a.free c ob q n hx) hx
  there := fun c ob q hx => by
    obtain ⟨o', e1⟩ := a.there c ob q hx
    exact b.there c o' e1 hx
  tups := fun c xs q => b.tups c xs (a.tups c xs q)
  frzs := fun c ob xs q => b.frzs c ob xs (a.frzs c ob xs q)
  tbls := fun c ps q => by
    obtain ⟨m1, e1⟩ := a.tbls c ps q
    obtain ⟨m2, e2⟩ := b.tbls c _ e1
    exact ⟨m1 ++ m2, by rw [e2, Array.append_assoc]⟩
theorem Un.kept (k : ∀ b u, h.get? b = some u → h'.get? b = some u) : Un fs ex H H h h' :=
  ⟨fun b ob q _ _ _ => k b ob q, fun b ob q _ _ _ => ⟨ob.slots, k b ob q⟩, fun _ _ _ n _ => n, fun b ob q _ => ⟨ob, k b ob q⟩, fun _ _ q => q, fun _ _ _ q => q, fun _ ps q => ⟨#[], by rw [q]; simp⟩⟩
theorem Un.refl : Un fs ex H H h h := Un.kept fun _ _ q => q
theorem Un.laid (k : ∀ b u, h.get? b = some u → h'.get? b = some u) (hp : h.objs.size ≤ a) (hn : H a = none) : Un fs ex H (upd H a o) h h' where
  keep := fun b u q _ _ _ => k b u q
  slot := fun b u q _ _ _ => ⟨u.slots, k b u q⟩
  free := fun b u q n _ => by rw [upd_ne (Nat.ne_of_lt (Nat.lt_of_lt_of_le (Heap.lt_size q) hp))]; exact n
  there := fun b u q _ => ⟨u, k b u q⟩
  tups := fun b xs q => by rw [upd_ne (ne_of_none q hn)]; exact q
  frzs := fun b u xs q => by rw [upd_ne (ne_of_none q hn)]; exact q
  tbls := fun b ps q => ⟨#[], by rw [upd_ne (ne_of_none q hn), q]; simp⟩
theorem Un.write (mu : Mut (H x)) (he : e = x ∨ H e = some (.own x)) (k : ∀ b u, b ≠ e → h.get? b = some u → h'.get? b = some u) (heo : ∃ u, h'.get? e = some u) : Un fs ex H (upd H x o) h h' := by
  have hx : ∀ b, H b = none → b ≠ x := fun b n z => by subst z; rw [n] at mu; exact mu
  have hb : ∀ b, H b = none → b ≠ e := fun b n z => by
    subst z
    rcases he with r | r
    · exact hx b n r
    · rw [n] at r; cases r
  have hm : ∀ b u, H b = some u → ¬ Mut (some u) → b ≠ x := fun b u q nm z => by subst z; rw [q] at mu; exact nm mu
  refine ⟨fun b u q n _ _ => k b u (hb b n) q, fun b u q n _ _ => ⟨u.slots, k b u (hb b n) q⟩, fun b u q n _ => by rw [upd_ne (hx b n)]; exact n, fun b u q _ => ?_,
    fun b xs q => by rw [upd_ne (hm b _ q fun z => z)]; exact q, fun b u xs q => by rw [upd_ne (hm b _ q fun z => z)]; exact q, fun b ps q => ⟨#[], by rw [upd_ne (hm b _ q fun z => z), q]; simp⟩⟩
  by_cases hbe : b = e
  · subst hbe; exact heo
  · exact ⟨u, k b u hbe q⟩
theorem Un.mono (u : Un fs ex H H1 h h1) (hs : ∀ b ∈ fs, b ∈ fs') (hx : ∀ b ∈ ex, b ∈ ex') : Un fs' ex' H H1 h h1 :=
  ⟨fun b ob q n hb he => u.keep b ob q n (fun z => hb (hs b z)) fun z => he (hx b z), fun _ _ q n _ he => u.any q n fun z => he (hx _ z), fun b ob q n he => u.free b ob q n fun z => he (hx b z), fun b ob q he => u.there b ob q fun z => he (hx b z), u.tups, u.frzs, u.tbls⟩
end
def trk (h : Heap) (H : Hp) : List Addr := (List.range h.objs.size).filter fun a => (H a).isSome
def hidT (h : Heap) (H : Hp) : Heap := PySem.W.hideAll h (trk h H)
theorem hidT_size (h : Heap) (H : Hp) : (hidT h H).objs.size = h.objs.size := PySem.W.hideAll_size _ _
theorem hidT_get {h : Heap} {H : Hp} {b : Addr} {o : Obj} (e : h.get? b = some o) (n : H b = none) : (hidT h H).get? b = some o :=
  PySem.W.hideAll_get _ e fun hm => by
    have q : (H b).isSome = true := (List.mem_filter.mp hm).2
    rw [n] at q; simp at q
theorem of_hidT {h : Heap} {H : Hp} {b : Addr} {o : Obj} (e : (hidT h H).get? b = some o) : h.get? b = some o ∧ H b = none := by
  have e' : h.get? b = some o := PySem.W.of_hideAll (trk h H) e
  refine ⟨e', ?_⟩
  cases q : H b with
  | none => rfl
  | some x =>
    have hm : b ∈ trk h H := List.mem_filter.mpr ⟨List.mem_range.mpr (Heap.lt_size e'), by simp [q]⟩
    have z : (hidT h H).get? b = none := PySem.W.hideAll_none (trk h H) hm
    rw [z] at e; cases e
def allNews (g h : Heap) (L : Addr) : List (Addr × Obj) := (List.range h.objs.size).filterMap fun a => if a = L ∨ (g.get? a).isSome = true then none else (h.get? a).map fun o => (a, o)
def rest (g h : Heap) (L d : Addr) : List (Addr × Obj) := (allNews g h L).filter fun p => decide (p.1 ≠ d)
end L2
namespace L2
open PySem PySem.Spec PyProof.Rows
structure Mod (K : PySem.W.Frag) (mg : Str → Option Value) (base : Heap) : Prop where
  kin : K.In base
  glob : base.Ns mainGlobals mg
  blt : ∃ mb, base.Ns builtinsNs mb ∧ ∀ x : Str, x ≠ "__name__" → mb x = bootBuiltins x
  nolimit : base.NoLimit
structure Cx where
  prog : Program
  w : World
  K : PySem.W.Frag
  mg : Str → Option Value
  base : Heap
  A : Around
  N : List Str
  s₀ : Shared
  H₀ : Hp
  env : Env
  outer : List Env
  stack : List Env
  ex : List Addr
  fn : Str → Bool
  calm : Bool
  pn : List (Addr × Obj)
  xe : Value → Shared → Prop
def frs (l : List Env) : List Addr := l.filterMap (·.frame)
abbrev Cx.fs (X : Cx) : List Addr := frs X.outer
def Vis (sc : Scope) (x : Str) : Prop := sc.names.lookup x = some .local ∨ sc.names.lookup x = some .cell ∨ sc.names.lookup x = some .free
def Loc (sc : Scope) (x : Str) : Prop := sc.names.lookup x = some .local ∨ sc.names.lookup x = some .cell
def Look (env : Env) (h : Heap) (m : Str → Option Value) (x : Str) (u : Value) : Prop :=
  (env.kindOf x = some .local ∧ m x = some u) ∨ ((env.kindOf x = some .cell ∨ env.kindOf x = some .free) ∧ ∃ c, env.cells.lookup x = some c ∧ h.IsCell c (some u))
structure Cx.Ok (X : Cx) : Prop where
  mod : Mod X.K X.mg X.base
  kind : X.env.scope.kind = .function
  glob : X.env.globals = mainGlobals
  blt : X.env.builtins = builtinsNs
  above : X.s₀.heap.objs.size ≤ X.env.locals
  inj : ∀ x y c, X.env.cells.lookup x = some c → X.env.cells.lookup y = some c → x = y
  has : ∀ x, (X.env.kindOf x = some .cell ∨ X.env.kindOf x = some .free) → ∃ c, X.env.cells.lookup x = some c
  cab : ∀ x c, X.fn x = true → X.env.cells.lookup x = some c → X.s₀.heap.objs.size ≤ c
  hd : X.calm = true → X.A.handled = none
  frames : X.A.frames = some X.stack
  stk : X.stack = X.outer ∨ (X.stack = X.env :: X.outer ∧ X.env.frame = some X.env.locals)
  exf : ∀ b ∈ X.ex, b ≠ X.env.locals ∧ ∀ x c, X.env.cells.lookup x = some c → c ≠ b
  bs : ∀ b o, X.base.get? b = some o → X.s₀.heap.get? b = some o ∧ X.H₀ b = none
  bsz : X.base.objs.size ≤ X.s₀.heap.objs.size
  noex : ∀ b o, X.base.get? b = some o → b ∉ X.ex
  exfs : ∀ b ∈ X.ex, b ∉ X.fs
  funs : X.s₀.heap.FunFrames X.base X.outer
  frf : ∀ b ∈ X.fs, X.H₀ b = none
structure Inv (X : Cx) (pins : List (Addr × Obj)) (σ : List (Option V)) (H : Hp) (s : Shared) : Prop where
  ok : X.Ok
  os : s.os = X.s₀.os
  bare : AllBare s.gens
  base : Un X.fs X.ex X.H₀ H X.s₀.heap s.heap
  loc : ∃ m, s.heap.Ns X.env.locals m ∧ ∀ (i : Nat) (x : Str) (v : V), X.N[i]? = some x → σ[i]? = some (some v) → Vis X.env.scope x → ∃ u, RelV v u ∧ Look X.env s.heap m x u
  cell : ∀ x c, X.env.cells.lookup x = some c → ∃ v, s.heap.IsCell c v
  free : H X.env.locals = none
  freeC : ∀ x c, X.env.cells.lookup x = some c → H c = none
  pin : ∀ p ∈ X.pn ++ pins, s.heap.get? p.1 = some p.2 ∧ H p.1 = none ∧ p.1 ≠ X.env.locals ∧ p.1 ∉ X.fs ∧ ∀ v, p.2.data ≠ .cell v
  hok : HOk X.prog X.w H s.heap
  len : σ.length = X.N.length
section
variable {X : Cx} {pins : List (Addr × Obj)} {σ : List (Option V)} {H H' : Hp} {s : Shared} {h' : Heap}
theorem Cx.Ok.nofr (ok : X.Ok) {b : Addr} {o : Obj} (e : X.base.get? b = some o) : b ∉ X.fs := fun hb => by
  have := (ok.funs.mem hb).1
  rw [e] at this; cases this
theorem Inv.bs (I : Inv X pins σ H s) : ∀ b o, X.base.get? b = some o → s.heap.get? b = some o ∧ H b = none := fun b o e =>
  ⟨I.base.keep b o (I.ok.bs b o e).1 (I.ok.bs b o e).2 (I.ok.nofr e) (I.ok.noex b o e), I.base.free b o (I.ok.bs b o e).1 (I.ok.bs b o e).2 (I.ok.noex b o e)⟩
theorem Inv.bk (I : Inv X pins σ H s) : ∀ b o, X.base.get? b = some o → s.heap.get? b = some o := fun b o e => (I.bs b o e).1
theorem Inv.mod (I : Inv X pins σ H s) : Mod X.K X.mg X.base := I.ok.mod
theorem Inv.kIn (I : Inv X pins σ H s) : X.K.In s.heap := I.ok.mod.kin.keeps I.bk
theorem Inv.nolimit (I : Inv X pins σ H s) : s.heap.NoLimit := I.ok.mod.nolimit.keeps I.bk
theorem Inv.lt (I : Inv X pins σ H s) : X.env.locals < s.heap.objs.size := let ⟨_, hn, _⟩ := I.loc; hn.lt
theorem Inv.sz (I : Inv X pins σ H s) : X.s₀.heap.objs.size ≤ s.heap.objs.size := Nat.le_trans I.ok.above (Nat.le_of_lt I.lt)
theorem Inv.nofs (I : Inv X pins σ H s) {a : Addr} (h : s.heap.objs.size ≤ a) : a ∉ X.fs := fun hb => by
  obtain ⟨_, o, ho, _⟩ := I.ok.funs.mem hb
  exact absurd (Nat.lt_of_lt_of_le (Heap.lt_size ho) (Nat.le_trans I.sz h)) (Nat.lt_irrefl _)
theorem Inv.cne (I : Inv X pins σ H s) : ∀ x c, X.env.cells.lookup x = some c → c ≠ X.env.locals := fun x c e z => by
  obtain ⟨v, o, ho, hd⟩ := I.cell x c e
  obtain ⟨m, ⟨o', es, ep, ho', hd', _⟩, _⟩ := I.loc
  rw [z, ho'] at ho; cases ho; rw [hd'] at hd; cases hd
theorem Inv.funs (I : Inv X pins σ H s) : s.heap.FunFrames X.base X.outer := by
  have all : ∀ (l : List Env), (∀ b ∈ frs l, b ∈ X.fs) → X.s₀.heap.FunFrames X.base l → s.heap.FunFrames X.base l := by
    intro l
    induction l with
    | nil => intro _ _; trivial
    | cons env r ih =>
      intro hs hl
      obtain ⟨hk, ⟨L, o, hf, hn, ho, hd⟩, hr⟩ := hl
      have hL : L ∈ X.fs := hs L (by unfold frs; rw [List.filterMap_cons, hf]; exact List.mem_cons_self)
      obtain ⟨sl, e⟩ := I.base.slot L o ho (I.ok.frf L hL) hL fun z => I.ok.exfs L z hL
      exact ⟨hk, ⟨L, _, hf, hn, e, hd⟩, ih (fun b hb => hs b (by unfold frs; rw [List.filterMap_cons, hf]; exact List.mem_cons_of_mem _ hb)) hr⟩
  exact all X.outer (fun _ hb => hb) I.ok.funs
theorem Inv.stack (I : Inv X pins σ H s) : s.heap.FunFrames X.base X.stack := by
  rcases I.ok.stk with e | ⟨e, hf⟩
  · rw [e]; exact I.funs
  · rw [e]
    obtain ⟨m, hn, _⟩ := I.loc
    refine .cons (by rw [I.ok.kind]; decide) hf hn ?_ I.funs
    exact Heap.get?_none_of_le (Nat.le_trans I.ok.bsz I.ok.above)
theorem Inv.stkSub (I : Inv X pins σ H s) : ∀ b ∈ frs X.stack, b ∈ X.env.locals :: X.fs := fun b hb => by
  rcases I.ok.stk with e | ⟨e, hf⟩
  · rw [e] at hb; exact List.mem_cons_of_mem _ hb
  · rw [e] at hb
    unfold frs at hb
    rw [List.filterMap_cons, hf] at hb
    exact hb
theorem Inv.stkFree (I : Inv X pins σ H s) : ∀ b ∈ frs X.stack, H b = none := fun b hb => by
  rcases List.mem_cons.mp (I.stkSub b hb) with e | hb
  · rw [e]; exact I.free
  · obtain ⟨_, o, ho, _⟩ := I.ok.funs.mem hb
    exact I.base.free b o ho (I.ok.frf b hb) fun z => I.ok.exfs b z hb
theorem Inv.step {g' : Array GenState} {t' : Nat} {d' : Drawn} {ch : List Addr} (I : Inv X pins σ H s)
    (hch : ∀ b ∈ ch, (b ∈ X.ex ∨ X.s₀.heap.objs.size ≤ b) ∧ b ≠ X.env.locals ∧ (∀ x c, X.env.cells.lookup x = some c → c ≠ b) ∧ ∀ p ∈ X.pn ++ pins, p.1 ≠ b)
    (keep : ∀ b o, b ≠ X.env.locals → b ∉ X.fs → b ∉ ch → s.heap.get? b = some o → H b = none → h'.get? b = some o)
    (slot : ∀ b o, b ≠ X.env.locals → b ∈ X.fs → b ∉ ch → s.heap.get? b = some o → H b = none → ∃ sl, h'.get? b = some { o with slots := sl }) (free : ∀ b o, b ∉ ch → s.heap.get? b = some o → H b = none → H' b = none)
    (there : ∀ b o, b ∉ ch → s.heap.get? b = some o → ∃ o', h'.get? b = some o')
    (tups : ∀ b xs, H b = some (.tup xs) → H' b = some (.tup xs)) (frzs : ∀ b o u, H b = some (.frz o u) → H' b = some (.frz o u)) (tbls : ∀ b ps, H b = some (.tbl ps) → ∃ more, H' b = some (.tbl (ps ++ more)))
    (ns : ∀ m, s.heap.Ns X.env.locals m → h'.Ns X.env.locals m) (hok : HOk X.prog X.w H' h') (hg : AllBare g') :
    Inv X pins σ H' { s with heap := h', gens := g', drawn := d', toks := t' } := by
  have neL : ∀ b o, X.s₀.heap.get? b = some o → b ≠ X.env.locals := fun b o e => Nat.ne_of_lt (Nat.lt_of_lt_of_le (Heap.lt_size e) I.ok.above)
  have neC : ∀ b o, X.s₀.heap.get? b = some o → b ∉ X.ex → b ∉ ch := fun b o e hx hb => by
    rcases (hch b hb).1 with z | z
    · exact hx z
    · exact absurd (Nat.lt_of_lt_of_le (Heap.lt_size e) z) (Nat.lt_irrefl _)
  have cellK : ∀ x c, X.env.cells.lookup x = some c → ∀ v, s.heap.IsCell c v → h'.IsCell c v := fun x c e v ⟨o, ho, hd⟩ => by
    have nch : c ∉ ch := fun z => (hch c z).2.2.1 x c e rfl
    by_cases hc : c ∈ X.fs
    · obtain ⟨sl, q⟩ := slot c o (I.cne x c e) hc nch ho (I.freeC x c e)
      exact ⟨_, q, hd⟩
    · exact ⟨o, keep c o (I.cne x c e) hc nch ho (I.freeC x c e), hd⟩
  refine ⟨I.ok, I.os, hg, ⟨fun b o e n hb hx => ?_, fun b o e n hb hx => ?_, fun b o e n hx => ?_, fun b o e hx => ?_, fun b xs e => tups b xs (I.base.tups b xs e), fun b o xs e => frzs b o xs (I.base.frzs b o xs e), fun b ps e => ?_⟩, ?_, fun x c e => ?_, ?_, fun x c e => ?_, fun p hp => ?_, hok, I.len⟩
  · exact keep b o (neL b o e) hb (neC b o e hx) (I.base.keep b o e n hb hx) (I.base.free b o e n hx)
  · obtain ⟨sl, e1⟩ := I.base.slot b o e n hb hx
    obtain ⟨sl', e2⟩ := slot b _ (neL b o e) hb (neC b o e hx) e1 (I.base.free b o e n hx)
    exact ⟨sl', e2⟩
  · obtain ⟨o', e1⟩ := I.base.there b o e hx
    exact free b o' (neC b o e hx) e1 (I.base.free b o e n hx)
  · obtain ⟨o', e1⟩ := I.base.there b o e hx
    exact there b o' (neC b o e hx) e1
  · obtain ⟨m1, e1⟩ := I.base.tbls b ps e
    obtain ⟨m2, e2⟩ := tbls b _ e1
    exact ⟨m1 ++ m2, by rw [e2, Array.append_assoc]⟩
  · obtain ⟨m, hn, hl⟩ := I.loc
    refine ⟨m, ns m hn, fun i x v e1 e2 e3 => ?_⟩
    obtain ⟨u, r, l⟩ := hl i x v e1 e2 e3
    refine ⟨u, r, ?_⟩
    rcases l with l | ⟨k, c, e, z⟩
    · exact .inl l
    · exact .inr ⟨k, c, e, cellK x c e _ z⟩
  · obtain ⟨v, z⟩ := I.cell x c e
    exact ⟨v, cellK x c e v z⟩
  · obtain ⟨m, ⟨o, _, _, ho, _⟩, _⟩ := I.loc
    exact free _ o (fun z => (hch _ z).2.1 rfl) ho I.free
  · obtain ⟨v, o, ho, hd⟩ := I.cell x c e
    exact free c o (fun z => (hch c z).2.2.1 x c e rfl) ho (I.freeC x c e)
  · obtain ⟨e, n, ne, nf, d⟩ := I.pin p hp
    have nch : p.1 ∉ ch := fun z => (hch p.1 z).2.2.2 p hp rfl
    exact ⟨keep p.1 p.2 ne nf nch e n, free p.1 p.2 nch e n, ne, nf, d⟩
theorem Inv.un {t' : Nat} (I : Inv X pins σ H s) (u : Un X.fs [] H H' s.heap h') (hok : HOk X.prog X.w H' h') : Inv X pins σ H' { s with heap := h', toks := t' } := by
  obtain ⟨m, ⟨o, es, ep, ho, r⟩, _⟩ := id I.loc
  obtain ⟨sl, hL⟩ := u.any ho I.free (by simp)
  exact I.step (g' := s.gens) (d' := s.drawn) (ch := []) (fun _ z => nomatch z) (fun b o _ hb _ e n => u.keep b o e n hb (by simp)) (fun b o _ hb _ e n => u.slot b o e n hb (by simp)) (fun b o _ e n => u.free b o e n (by simp)) (fun b o _ e => u.there b o e (by simp)) u.tups u.frzs u.tbls (fun m' hm => by
    obtain ⟨o', es', ep', ho', r'⟩ := hm
    rw [ho] at ho'; cases ho'
    exact ⟨_, es', ep', hL, r'⟩) hok I.bare
theorem Inv.call {g' : Array GenState} {t' : Nat} {d' : Drawn} {ch : List Addr} (I : Inv X pins σ H s) (u : Un (frs X.stack) ch H H' s.heap h') (hok : HOk X.prog X.w H' h') (hg : AllBare g')
    (hch : ∀ b ∈ ch, (b ∈ X.ex ∨ X.s₀.heap.objs.size ≤ b) ∧ b ≠ X.env.locals ∧ (∀ x c, X.env.cells.lookup x = some c → c ≠ b) ∧ ∀ p ∈ X.pn ++ pins, p.1 ≠ b) :
    Inv X pins σ H' { s with heap := h', gens := g', drawn := d', toks := t' } := by
  obtain ⟨m, ⟨o, es, ep, ho, r⟩, _⟩ := id I.loc
  obtain ⟨sl, hL⟩ := u.any ho I.free fun z => (hch _ z).2.1 rfl
  exact I.step (ch := ch) hch (fun b o hL hb hc e n => u.keep b o e n (fun z => (List.mem_cons.mp (I.stkSub b z)).elim hL hb) hc) (fun b o _ _ hc e n => u.any e n hc) (fun b o hc e n => u.free b o e n hc) (fun b o hc e => u.there b o e hc) u.tups u.frzs u.tbls (fun m' hm => by
    obtain ⟨o', es', ep', ho', r'⟩ := hm
    rw [ho] at ho'; cases ho'
    exact ⟨_, es', ep', hL, r'⟩) hok hg
theorem Inv.turned {t' : Nat} {it : Addr} (I : Inv X pins σ H s) (k : ∀ b o, b ≠ it → s.heap.get? b = some o → h'.get? b = some o) (hn : H it = none) (hL : it ≠ X.env.locals)
    (h1 : it ∈ X.ex ∨ X.s₀.heap.objs.size ≤ it) (h2 : ∀ x c, X.env.cells.lookup x = some c → c ≠ it) (h3 : ∀ p ∈ X.pn ++ pins, p.1 ≠ it) : Inv X pins σ H { s with heap := h', toks := t' } := by
  have nit : ∀ b u, H b = some u → b ≠ it := fun b u e z => by rw [z, hn] at e; cases e
  refine I.step (g' := s.gens) (d' := s.drawn) (ch := [it]) (fun b hb => ?_) (fun b o _ _ hc e _ => k b o (fun z => hc (by simp [z])) e) (fun b o _ _ hc e _ => ⟨o.slots, k b o (fun z => hc (by simp [z])) e⟩) (fun _ _ _ _ n => n)
    (fun b o hc e => ⟨o, k b o (fun z => hc (by simp [z])) e⟩) (fun _ _ e => e) (fun _ _ _ e => e) (fun b ps e => ⟨#[], by rw [e]; simp⟩) (fun m hm => ?_) (fun b u e => ?_) I.bare
  · have e : b = it := by simpa using hb
    subst e
    exact ⟨h1, hL, h2, h3⟩
  · obtain ⟨o, es, ep, ho, r⟩ := hm
    exact ⟨o, es, ep, k _ o (Ne.symm hL) ho, r⟩
  · refine (I.hok b u e).stay (fun c v hc q => k c v ?_ q) (fun _ q => q) fun _ _ q => q
    rcases hc with z | z
    · rw [z]; exact nit b u e
    · exact nit c _ z
theorem Inv.tok (I : Inv X pins σ H s) (t : Nat) : Inv X pins σ H { s with toks := t } := I.un (h' := s.heap) (t' := t) Un.refl I.hok
theorem Inv.kept {t' : Nat} (I : Inv X pins σ H s) (k : ∀ b u, s.heap.get? b = some u → h'.get? b = some u) : Inv X pins σ H { s with heap := h', toks := t' } := I.un (Un.kept k) (I.hok.kept k)
theorem Inv.laid {a : Addr} {o : HO} {t' : Nat} (I : Inv X pins σ H s) (k : ∀ b u, s.heap.get? b = some u → h'.get? b = some u) (hp : s.heap.objs.size ≤ a) (new : ObjOk X.prog X.w (upd H a o) h' a o) :
    Inv X pins σ (upd H a o) { s with heap := h', toks := t' } := I.un (Un.laid k hp (I.hok.fresh hp)) (I.hok.laid k hp new)
theorem Inv.write {x e : Addr} {o : HO} {t' : Nat} (I : Inv X pins σ H s) (mu : Mut (H x)) (he : e = x ∨ H e = some (.own x)) (k : ∀ b u, b ≠ e → s.heap.get? b = some u → h'.get? b = some u) (heo : ∃ u, h'.get? e = some u)
    (new : ObjOk X.prog X.w (upd H x o) h' x o) : Inv X pins σ (upd H x o) { s with heap := h', toks := t' } := I.un (Un.write mu he k heo) (I.hok.write mu he k heo new)
theorem Inv.pins_of {pins' : List (Addr × Obj)} (I : Inv X pins σ H s) (h : ∀ p ∈ pins', s.heap.get? p.1 = some p.2 ∧ H p.1 = none ∧ p.1 ≠ X.env.locals ∧ p.1 ∉ X.fs ∧ ∀ v, p.2.data ≠ .cell v) : Inv X pins' σ H s :=
  ⟨I.ok, I.os, I.bare, I.base, I.loc, I.cell, I.free, I.freeC, fun p hp => (List.mem_append.mp hp).elim (fun z => I.pin p (List.mem_append_left _ z)) (h p), I.hok, I.len⟩
theorem nodup_ix {N : List Str} (hN : N.Nodup) {i j : Nat} {x : Str} (a : N[i]? = some x) (b : N[j]? = some x) : i = j := by
  obtain ⟨h1, e1⟩ := List.getElem?_eq_some_iff.mp a
  obtain ⟨h2, e2⟩ := List.getElem?_eq_some_iff.mp b
  exact (List.getElem_inj hN).mp (e1.trans e2.symm)
theorem store_ok2 {M : Model} {A : Around} {E : Value → Shared → Prop} {i : Nat} {x : Str} {v : V} {u : Value} {Q : Unit → Shared → Prop} (I : Inv X pins σ H s) (hN : X.N.Nodup) (hi : X.N[i]? = some x) (hx : Loc X.env.scope x) (r : RelV v u)
    (h : ∀ s', Inv X pins (σ.set i (some v)) H s' → (∃ a, Heap.SameBut a s.heap s'.heap ∧ (a = X.env.locals ∨ X.env.cells.lookup x = some a)) → Q () s') (hf : X.fn x = true ∨ X.env.scope.names.lookup x = some .local := by first | exact .inl rfl | exact .inr rfl | assumption) : wpAny M A (storeName X.env x u) Q E s := by
  obtain ⟨m, hn, hl⟩ := id I.loc
  have hcls : (X.env.scope.kind == .class || (X.env.scope.kind == .module && X.env.locals != X.env.globals)) = false := by rw [I.ok.kind]; rfl
  have hiσ : i < σ.length := by rw [I.len]; exact (List.getElem?_eq_some_iff.mp hi).1
  have cne := I.cne
  have tracked : ∀ {a : Addr} {h' : Heap}, (∃ o, s.heap.get? a = some o ∧ H a = none) → Heap.SameBut a s.heap h' → HOk X.prog X.w H h' := fun {a h'} ha hs b ob e => by
    obtain ⟨_, _, hfree⟩ := ha
    refine (I.hok b ob e).stay (fun c w' hc q => (hs.2 c ?_).trans q) (fun _ q => q) fun _ _ q => q
    rintro rfl
    rcases hc with rfl | hc
    · rw [hfree] at e; cases e
    · rw [hfree] at hc; cases hc
  rcases hx with hk | hk
  · refine wpAny_storeName_local hk hn (fun h' hn' hs => ?_) hcls
    obtain ⟨oL, _, _, hoL, _⟩ := id hn
    refine h _ ⟨I.ok, I.os, I.bare, ⟨fun b o e n hb hx => ?_, fun b o e n hb hx => ?_, I.base.free, fun b o e hx => ?_, I.base.tups, I.base.frzs, I.base.tbls⟩, ⟨_, hn', fun j y v' e1 e2 e3 => ?_⟩, fun y c e => ?_, I.free, I.freeC, fun p hp => ?_, tracked ⟨oL, hoL, I.free⟩ hs, by simpa using I.len⟩ ⟨_, hs, .inl rfl⟩
    · exact (hs.2 b (Nat.ne_of_lt (Nat.lt_of_lt_of_le (Heap.lt_size e) I.ok.above))).trans (I.base.keep b o e n hb hx)
    · obtain ⟨sl, e1⟩ := I.base.slot b o e n hb hx
      exact ⟨sl, (hs.2 b (Nat.ne_of_lt (Nat.lt_of_lt_of_le (Heap.lt_size e) I.ok.above))).trans e1⟩
    · obtain ⟨o', e1⟩ := I.base.there b o e hx
      exact ⟨o', (hs.2 b (Nat.ne_of_lt (Nat.lt_of_lt_of_le (Heap.lt_size e) I.ok.above))).trans e1⟩
    · by_cases hj : j = i
      · subst hj
        rw [hi] at e1; cases e1
        rw [List.getElem?_set_self hiσ] at e2
        cases e2
        exact ⟨u, r, .inl ⟨hk, by simp⟩⟩
      · rw [List.getElem?_set_ne (Ne.symm hj)] at e2
        obtain ⟨u', r', q⟩ := hl j y v' e1 e2 e3
        refine ⟨u', r', ?_⟩
        rcases q with ⟨k, e⟩ | ⟨k, c, e, z⟩
        · refine .inl ⟨k, ?_⟩
          have : y ≠ x := fun e => hj (nodup_ix hN e1 (e ▸ hi))
          simp [this, e]
        · exact .inr ⟨k, c, e, z.sameBut hs (cne y c e)⟩
    · obtain ⟨w', z⟩ := I.cell y c e
      exact ⟨w', z.sameBut hs (cne y c e)⟩
    · obtain ⟨e, n, ne, nf, d⟩ := I.pin p hp
      exact ⟨(hs.2 p.1 ne).trans e, n, ne, nf, d⟩
  · have hfn : X.fn x = true := by
      rcases hf with z | z
      · exact z
      · rw [z] at hk; cases hk
    obtain ⟨c, hc⟩ := I.ok.has x (.inl hk)
    obtain ⟨w', z⟩ := I.cell x c hc
    refine wpAny_storeName_cell I.ok.kind hk hc z (fun h' hc' hs => ?_)
    obtain ⟨oc, hoc, hocd⟩ := id z
    refine h { s with heap := h' } ⟨I.ok, I.os, I.bare, ⟨fun b o e n hb hx => ?_, fun b o e n hb hx => ?_, I.base.free, fun b o e hx => ?_, I.base.tups, I.base.frzs, I.base.tbls⟩, ⟨m, hn.sameBut hs (Ne.symm (cne x c hc)), fun j y v' e1 e2 e3 => ?_⟩, fun y c' e => ?_, I.free, I.freeC, fun p hp => ?_, tracked ⟨oc, hoc, I.freeC x c hc⟩ hs, by simpa using I.len⟩ ⟨c, hs, .inr hc⟩
    · exact (hs.2 b (Nat.ne_of_lt (Nat.lt_of_lt_of_le (Heap.lt_size e) (I.ok.cab x c hfn hc)))).trans (I.base.keep b o e n hb hx)
    · obtain ⟨sl, e1⟩ := I.base.slot b o e n hb hx
      exact ⟨sl, (hs.2 b (Nat.ne_of_lt (Nat.lt_of_lt_of_le (Heap.lt_size e) (I.ok.cab x c hfn hc)))).trans e1⟩
    · obtain ⟨o', e1⟩ := I.base.there b o e hx
      exact ⟨o', (hs.2 b (Nat.ne_of_lt (Nat.lt_of_lt_of_le (Heap.lt_size e) (I.ok.cab x c hfn hc)))).trans e1⟩
    · by_cases hj : j = i
      · subst hj
        rw [hi] at e1; cases e1
        rw [List.getElem?_set_self hiσ] at e2
        cases e2
        exact ⟨u, r, .inr ⟨.inl hk, c, hc, hc'⟩⟩
      · rw [List.getElem?_set_ne (Ne.symm hj)] at e2
        obtain ⟨u', r', q⟩ := hl j y v' e1 e2 e3
        refine ⟨u', r', ?_⟩
        rcases q with q | ⟨k, c', e, z'⟩
        · exact .inl q
        · refine .inr ⟨k, c', e, z'.sameBut hs ?_⟩
          rintro rfl
          exact hj (nodup_ix hN e1 (I.ok.inj _ _ _ e hc ▸ hi))
    · by_cases hcc : c' = c
      · subst hcc; exact ⟨_, hc'⟩
      · obtain ⟨w2, z2⟩ := I.cell y c' e
        exact ⟨w2, z2.sameBut hs hcc⟩
    · obtain ⟨e, n, ne, nf, d⟩ := I.pin p hp
      refine ⟨(hs.2 p.1 ?_).trans e, n, ne, nf, d⟩
      intro q
      rw [q, hoc] at e
      have q' : oc = p.2 := Option.some.inj e
      exact d w' (by rw [← q']; exact hocd)
theorem store_ok {M : Model} {A : Around} {E : Value → Shared → Prop} {i : Nat} {x : Str} {v : V} {u : Value} {Q : Unit → Shared → Prop} (I : Inv X pins σ H s) (hN : X.N.Nodup) (hi : X.N[i]? = some x) (hx : Loc X.env.scope x) (r : RelV v u)
    (h : ∀ s', Inv X pins (σ.set i (some v)) H s' → Q () s') (hf : X.fn x = true ∨ X.env.scope.names.lookup x = some .local := by first | exact .inl rfl | exact .inr rfl | assumption) : wpAny M A (storeName X.env x u) Q E s :=
  store_ok2 I hN hi hx r (fun s' I' _ => h s' I') hf
theorem Inv.call' {s' : Shared} {ch : List Addr} (I : Inv X pins σ H s) (ho : s'.os = s.os) (u : Un (frs X.stack) ch H H' s.heap s'.heap) (hok : HOk X.prog X.w H' s'.heap) (hg : AllBare s'.gens)
    (hch : ∀ b ∈ ch, (b ∈ X.ex ∨ X.s₀.heap.objs.size ≤ b) ∧ b ≠ X.env.locals ∧ (∀ x c, X.env.cells.lookup x = some c → c ≠ b) ∧ ∀ p ∈ X.pn ++ pins, p.1 ≠ b) : Inv X pins σ H' s' := by
  obtain ⟨h', g', d', t', o'⟩ := s'
  have e : o' = s.os := ho
  subst e
  exact I.call (g' := g') (t' := t') (d' := d') u hok hg hch
end
abbrev XK := Value → Option Addr → Hp → Prop
abbrev St := List (Option V)
abbrev VK := V → Hp → Prop
abbrev TE := St → Hp → VK → Prop
abbrev TT := St → Hp → (Bool → Hp → Prop) → Prop
abbrev TA := St → Hp → (List V → Hp → Prop) → Prop
structure Ends where
  nx : St → Hp → Prop
  rt : VK
  bk : St → Hp → Prop := fun _ _ => False
  ct : St → Hp → Prop := fun _ _ => False
abbrev TS := Ends → St → Hp → Prop
def EP (X : Cx) (pins : List (Addr × Obj)) (σ : St) (Q : VK) (u : Value) (s' : Shared) : Prop := ∃ v H', Inv X pins σ H' s' ∧ RelV v u ∧ Q v H'
def TP (X : Cx) (pins : List (Addr × Obj)) (σ : St) (Q : Bool → Hp → Prop) (b : Bool) (s' : Shared) : Prop := ∃ H', Inv X pins σ H' s' ∧ Q b H'
def AP (X : Cx) (pins : List (Addr × Obj)) (σ : St) (Q : List V → Hp → Prop) (us : List Value) (s' : Shared) : Prop := ∃ vs H', Inv X pins σ H' s' ∧ Vals vs us ∧ Q vs H'
def SP (X : Cx) (pins : List (Addr × Obj)) (D : Ends) (f : Flow) (s' : Shared) : Prop :=
  match f with
  | .next => ∃ σ' H', Inv X pins σ' H' s' ∧ D.nx σ' H'
  | .brk => ∃ σ' H', Inv X pins σ' H' s' ∧ D.bk σ' H'
  | .cont => ∃ σ' H', Inv X pins σ' H' s' ∧ D.ct σ' H'
  | .ret u => ∃ v σ' H', Inv X pins σ' H' s' ∧ RelV v u ∧ D.rt v H'
def PE (X : Cx) (e : Expr) (t : TE) : Prop :=
  ∀ (pins : List (Addr × Obj)) (s : Shared) (σ : St) (H : Hp) (Q : VK), Inv X pins σ H s → t σ H Q → wpAny (model X.prog X.w) X.A (eval e X.env) (EP X pins σ Q) X.xe s
def PT (X : Cx) (e : Expr) (t : TT) : Prop :=
  ∀ (pins : List (Addr × Obj)) (s : Shared) (σ : St) (H : Hp) (Q : Bool → Hp → Prop), Inv X pins σ H s → t σ H Q → wpAny (model X.prog X.w) X.A (isTrue e X.env (eval e X.env)) (TP X pins σ Q) X.xe s
def PW (X : Cx) (e : Expr) (t : TT) : Prop :=
  ∀ (whole : Sem Value) (pins : List (Addr × Obj)) (s : Shared) (σ : St) (H : Hp) (Q : Bool → Hp → Prop), Inv X pins σ H s → t σ H Q → wpAny (model X.prog X.w) X.A (isTrue e X.env whole) (TP X pins σ Q) X.xe s
theorem PW.pt {X : Cx} {e : Expr} {t : TT} (h : PW X e t) : PT X e t := h _
def PA (X : Cx) (es : List Expr) (t : TA) : Prop :=
  ∀ (pos : Pos) (pins : List (Addr × Obj)) (s : Shared) (σ : St) (H : Hp) (Q : List V → Hp → Prop), Inv X pins σ H s → t σ H Q → wpAny (model X.prog X.w) X.A (spliced (backTo pos (starEach es X.env))) (AP X pins σ Q) X.xe s
def PS (X : Cx) (st : Stmt) (t : TS) : Prop :=
  ∀ (pins : List (Addr × Obj)) (s : Shared) (σ : St) (H : Hp) (D : Ends), Inv X pins σ H s → t D σ H → wpAny (model X.prog X.w) X.A (exec st X.env) (SP X pins D) X.xe s
def PSs (X : Cx) (st : List Stmt) (t : TS) : Prop :=
  ∀ (pins : List (Addr × Obj)) (s : Shared) (σ : St) (H : Hp) (D : Ends), Inv X pins σ H s → t D σ H → wpAny (model X.prog X.w) X.A (execs st X.env) (SP X pins D) X.xe s
theorem thn {α : Type} {t : Sem α} {Q Q' : α → Shared → Prop} {M : Model} {A : Around} {E : Value → Shared → Prop} {s : Shared} (h : wpAny M A t Q E s) (hQ : ∀ a s, Q a s → Q' a s) : wpAny M A t Q' E s := wpAny_mono h hQ fun _ _ x => x
end L2
namespace L2
open PySem PySem.Spec PyProof.Rows
section
variable {X : Cx}
theorem bin {a b : Expr} {ta tb : TE} (ha : PE X a ta) (hb : PE X b tb) {pins : List (Addr × Obj)} {s : Shared} {σ : St} {H : Hp} {R : V → V → Hp → Prop} (I : Inv X pins σ H s) (h : ta σ H fun x H1 => tb σ H1 fun y H2 => R x y H2)
    {α : Type} {Q : α → Shared → Prop} {f : Value → Value → Sem α}
    (hf : ∀ v u s2 x y H2, Inv X pins σ H2 s2 → RelV x v → RelV y u → R x y H2 → wpAny (model X.prog X.w) X.A (f v u) Q X.xe s2) :
    wpAny (model X.prog X.w) X.A (eval a X.env) (fun v s₁ => wpAny (model X.prog X.w) X.A (eval b X.env) (fun u s₂ => wpAny (model X.prog X.w) X.A (f v u) Q X.xe s₂) X.xe s₁) X.xe s := by
  refine thn (ha pins s σ H _ I h) fun v s1 ⟨x, H1, I1, r1, q1⟩ => ?_
  refine thn (hb pins s1 σ H1 _ I1 q1) fun u s2 ⟨y, H2, I2, r2, q2⟩ => ?_
  exact hf v u s2 x y H2 I2 r1 r2 q2
def tVar (i : Nat) : TE := fun σ H Q => ∃ v, σ[i]? = some (some v) ∧ Q v H
def tC (v : V) : TE := fun _ H Q => Q v H
theorem pe_var {i : Nat} {x : Str} {pos : Pos} (hN : X.N[i]? = some x) (hv : Vis X.env.scope x) (hd : (x == ("__debug__" : Str)) = false := by decide) (hcd : (x == ("__classdict__" : Str)) = false := by decide) : PE X (.Name x pos) (tVar i) := by
  intro pins s σ H Q I h
  obtain ⟨v, e, h⟩ := h
  obtain ⟨m, hn, hl⟩ := I.loc
  obtain ⟨u, r, l⟩ := hl i x v hN e hv
  have fin : EP X pins σ Q u s := ⟨v, H, I, r, h⟩
  rcases l with ⟨hk, hm⟩ | ⟨hk, c, hc, hcell⟩
  · exact wpAny_Name (wpAny_loadName_local I.ok.kind hk hn hm fin) hd
  · rcases hk with hk | hk
    · exact wpAny_Name (wpAny_loadName_cell I.ok.kind hk hc hcell fin) hd
    · exact wpAny_Name (wpAny_loadName_free I.ok.kind hk hc hcell fin hcd) hd
theorem pe_int {i j pos} : PE X (.Constant (.int i) j pos) (tC (.int i)) := fun _ _ _ H _ I h => wpAny_Constant_int ⟨.int i, H, I.tok _, ⟨_, rfl⟩, h⟩
theorem pe_bl {b j pos} : PE X (.Constant (.bool b) j pos) (tC (.bl b)) := fun _ _ _ H _ I h => Constant_bool ⟨.bl b, H, I, rfl, h⟩
theorem pe_non {j pos} : PE X (.Constant .none j pos) (tC .non) := fun _ _ _ H _ I h => Constant_none ⟨.non, H, I, rfl, h⟩
def Gl (X : Cx) (x : Str) : Prop := X.env.kindOf x = some .globalImplicit
theorem ld_glob {E : Value → Shared → Prop} {pins : List (Addr × Obj)} {s : Shared} {σ : St} {H : Hp} {x : Str} {u : Value} {pos : Pos} {Q : Value → Shared → Prop} (I : Inv X pins σ H s) (hg : Gl X x) (hm : X.mg x = some u) (h : Q u s)
    (hd : (x == ("__debug__" : Str)) = false := by decide) : wpAny (model X.prog X.w) X.A (eval (.Name x pos) X.env) Q E s :=
  Calls.Name_function_global I.ok.kind hg (Calls.loadGlobal_global (by rw [I.ok.glob]; exact I.mod.glob.keeps I.bk) hm h) hd
theorem ld_blt {E : Value → Shared → Prop} {pins : List (Addr × Obj)} {s : Shared} {σ : St} {H : Hp} {x : Str} {u : Value} {pos : Pos} {Q : Value → Shared → Prop} (I : Inv X pins σ H s) (hg : Gl X x) (hm : X.mg x = none) (hv : bootBuiltins x = some u) (h : Q u s)
    (hn : x ≠ "__name__" := by decide) (hd : (x == ("__debug__" : Str)) = false := by decide) : wpAny (model X.prog X.w) X.A (eval (.Name x pos) X.env) Q E s := by
  obtain ⟨mb, h1, h2⟩ := I.mod.blt
  exact Calls.Name_function_global I.ok.kind hg (Calls.loadGlobal_builtin (by rw [I.ok.glob]; exact I.mod.glob.keeps I.bk) hm (by rw [I.ok.blt]; exact h1.keeps I.bk) ((h2 x hn).trans hv) h) hd
theorem pe_glob {x : Str} {v : V} {u : Value} {pos : Pos} (hg : Gl X x) (hm : X.mg x = some u) (r : RelV v u) (hd : (x == ("__debug__" : Str)) = false := by decide) : PE X (.Name x pos) (tC v) :=
  fun _ _ _ H _ I h => ld_glob I hg hm ⟨v, H, I, r, h⟩ hd
theorem pe_bltn {x : Str} {v : V} {u : Value} {pos : Pos} (hg : Gl X x) (hm : X.mg x = none) (hv : bootBuiltins x = some u) (r : RelV v u) (hn : x ≠ "__name__" := by decide) (hd : (x == ("__debug__" : Str)) = false := by decide) : PE X (.Name x pos) (tC v) :=
  fun _ _ _ H _ I h => ld_blt I hg hm hv ⟨v, H, I, r, h⟩ hn hd
def t2I (ta tb : TE) (k : Int → Int → Hp → Prop) : St → Hp → Prop := fun σ H => ta σ H fun x H1 => tb σ H1 fun y H2 => ∃ i j, x = .int i ∧ y = .int j ∧ k i j H2
def tAdd (ta tb : TE) : TE := fun σ H Q => t2I ta tb (fun i j H2 => Q (.int (i + j)) H2) σ H
def tSub (ta tb : TE) : TE := fun σ H Q => t2I ta tb (fun i j H2 => Q (.int (i - j)) H2) σ H
def tMul (ta tb : TE) : TE := fun σ H Q => t2I ta tb (fun i j H2 => (-(2 ^ 64) < i ∧ i < 2 ^ 64) ∧ Q (.int (i * j)) H2) σ H
variable {a b : Expr} {ta tb : TE} {pos : Pos}
def PC (X : Cx) (op : CmpOp) (a b : Expr) (t : TE) : Prop :=
  ∀ (pins : List (Addr × Obj)) (s : Shared) (σ : St) (H : Hp) (Q : VK), Inv X pins σ H s → t σ H Q →
    wpAny (model X.prog X.w) X.A (eval a X.env) (fun v s₁ => wpAny (model X.prog X.w) X.A (eval b X.env) (fun u s₂ => wpAny (model X.prog X.w) X.A (compareOp op v u) (EP X pins σ Q) X.xe s₂) X.xe s₁) X.xe s
theorem nobehind (b : Expr) {op : CmpOp} (h : op ≠ .In) (h2 : op ≠ .NotIn) : behindInMarks op b = false := by
  have e1 : (op == CmpOp.In) = false := by cases op <;> first | rfl | exact absurd rfl h
  have e2 : (op == CmpOp.NotIn) = false := by cases op <;> first | rfl | exact absurd rfl h2
  cases b <;> simp [behindInMarks, e1, e2]
def tCmp (p : Int → Int → Bool) (ta tb : TE) : TE := fun σ H Q => t2I ta tb (fun i j H2 => Q (.bl (p i j)) H2) σ H
abbrev tLt : TE → TE → TE := tCmp fun i j => decide (i < j)
abbrev tLe : TE → TE → TE := tCmp fun i j => decide (i ≤ j)
abbrev tGt : TE → TE → TE := tCmp fun i j => decide (j < i)
abbrev tGe : TE → TE → TE := tCmp fun i j => decide (j ≤ i)
abbrev tEqI : TE → TE → TE := tCmp fun i j => decide (i = j)
abbrev tNeI : TE → TE → TE := tCmp fun i j => !decide (i = j)
def tIsN (ta : TE) : TE := fun σ H Q => ta σ H fun x H1 => Q (.bl (decide (x = .non))) H1
def tNotN (ta : TE) : TE := fun σ H Q => ta σ H fun x H1 => Q (.bl (!decide (x = .non))) H1
def tB (t : TE) : TT := fun σ H Q => t σ H fun x H1 => ∃ c, x = .bl c ∧ Q c H1
theorem pt_cmp {op : CmpOp} {t : TE} (h : PC X op a b t) (h1 : behindInMarks op b = false := by first | exact nobehind _ (by decide) (by decide) | rfl) : PT X (.Compare a [op] [b] pos) (tB t) := by
  intro pins s σ H Q I hw
  refine wpAny_isTrue_Compare1 (thn (h pins s σ H _ I hw) fun v s1 h1 => thn h1 fun u s2 h2 => thn h2 fun c s3 ⟨x, H1, I1, r1, q1⟩ => ?_) h1
  obtain ⟨d, rfl, q⟩ := q1
  cases r1
  exact wpAny_truthy_bool ⟨H1, I1, q⟩
theorem pt_val {e : Expr} {t : TE} (h : PE X e t) (he : ∀ whole, isTrue e X.env whole = (do let v ← whole; standAt e.pos; holding [v] (truthy v)) := by intro _; rfl) : PT X e (tB t) := by
  intro pins s σ H Q I hw
  refine isTrue_plain (thn (h pins s σ H _ I hw) fun v s1 ⟨x, H1, I1, r1, q1⟩ => ?_) (he _)
  obtain ⟨d, rfl, q⟩ := q1
  cases r1
  exact wpAny_truthy_bool ⟨H1, I1, q⟩
variable {tA tB' : TT} {rest : List Expr}
def tAnd (t u : TT) : TT := fun σ H Q => t σ H fun c H1 => if c = true then u σ H1 Q else Q false H1
def tOr (t u : TT) : TT := fun σ H Q => t σ H fun c H1 => if c = true then Q true H1 else u σ H1 Q
def tNot (t : TT) : TT := fun σ H Q => t σ H fun c H1 => Q (!c) H1
theorem pw_and1 (ha : PT X a tA) : PW X (.BoolOp .And [a] pos) tA := by
  intro wh pins s σ H Q I h
  refine isTrue_and (thn (ha pins s σ H Q I h) fun c s1 e => ?_)
  cases c with
  | true => exact isTrue_and_nil e
  | false => exact e
theorem pw_and (ha : PT X a tA) (hb : PW X (.BoolOp .And (b :: rest) pos) tB') : PW X (.BoolOp .And (a :: b :: rest) pos) (tAnd tA tB') := by
  intro wh pins s σ H Q I h
  refine isTrue_and (thn (ha pins s σ H _ I h) fun c s1 ⟨H1, I1, q1⟩ => ?_)
  cases c with
  | true => exact hb wh pins s1 σ H1 Q I1 q1
  | false => exact ⟨H1, I1, q1⟩
theorem pt_not (ha : PT X a tA) : PT X (.UnaryOp .Not a pos) (tNot tA) := by
  intro pins s σ H Q I h
  exact isTrue_not (ha pins s σ H (fun c H1 => Q (!c) H1) I h)
def tAndV (ta tb : TE) : TE := fun σ H Q => ta σ H fun x H1 => ∃ c, x = .bl c ∧ if c = true then tb σ H1 Q else Q (.bl false) H1
def tOrV (ta tb : TE) : TE := fun σ H Q => ta σ H fun x H1 => ∃ c, x = .bl c ∧ if c = true then Q (.bl true) H1 else tb σ H1 Q
def tNotV (ta : TE) : TE := fun σ H Q => ta σ H fun x H1 => ∃ c, x = .bl c ∧ Q (.bl (!c)) H1
theorem pe_one {op} {t : TE} (h : PE X a t) : PE X (.BoolOp op [a] pos) t := fun pins s σ H Q I hw => BoolOp_one (h pins s σ H Q I hw)
theorem pe_and (ha : PE X a ta) (hb : PE X (.BoolOp .And (b :: rest) pos) tb) : PE X (.BoolOp .And (a :: b :: rest) pos) (tAndV ta tb) := by
  intro pins s σ H Q I h
  refine BoolOp_and (thn (ha pins s σ H _ I h) fun v s1 ⟨x, H1, I1, r1, q1⟩ => ?_)
  obtain ⟨c, rfl, q1⟩ := q1
  cases r1
  refine wpAny_truthy_bool ?_
  cases c with
  | true => exact hb pins s1 σ H1 Q I1 q1
  | false => exact ⟨.bl false, H1, I1, rfl, q1⟩
def tIf (t : TT) (ta tb : TE) : TE := fun σ H Q => t σ H fun c H1 => if c = true then ta σ H1 Q else tb σ H1 Q
theorem pe_ifExp {c : Expr} (hc : PT X c tA) (ha : PE X a ta) (hb : PE X b tb) : PE X (.IfExp c a b pos) (tIf tA ta tb) := by
  intro pins s σ H Q I h
  refine wpAny_IfExp (thn (hc pins s σ H _ I h) fun d s1 ⟨H1, I1, q1⟩ => ?_)
  cases d with
  | true => exact ha pins s1 σ H1 Q I1 q1
  | false => exact hb pins s1 σ H1 Q I1 q1
end
end L2
namespace L2
open PySem PySem.Spec PyProof.Rows
def SqL (K : PySem.W.Frag) (H : Hp) (a : Addr) (xs : List V) : Prop :=
  Rd H a (.lst xs) ∨
    ∃ (o : Obj) (its : Array Value) (n : Nat), K.lookup a = some o ∧ o.cls = .type "list" ∧ o.dict = none ∧ o.data = .seq its n ∧ its.size ≤ sizeLine ∧ Vals xs its.toList
def SqT (K : PySem.W.Frag) (H : Hp) (a : Addr) (xs : List V) : Prop :=
  Rd H a (.tup xs) ∨
    ∃ (o : Obj) (its : Array Value) (n : Nat), K.lookup a = some o ∧ o.cls = .type "tuple" ∧ o.data = .seq its n ∧ its.size ≤ sizeLine ∧ Vals xs its.toList
def absV : Value → Option V
  | .none => some .non
  | .bool b => some (.bl b)
  | .int i _ => some (.int i)
  | .str x _ => some (.str x)
  | .bytes b _ => some (.byt b)
  | .float b _ => some (.flt b)
  | .ref a => some (.ref a)
  | .type n => some (.ty n)
  | _ => none
theorem RelV.abs {x : V} {u : Value} (r : RelV x u) : absV u = some x := by
  cases x with
  | non => cases r; rfl
  | bl _ => cases r; rfl
  | int _ => obtain ⟨t, rfl⟩ := r; rfl
  | str _ => obtain ⟨t, rfl⟩ := r; rfl
  | byt _ => obtain ⟨t, rfl⟩ := r; rfl
  | flt _ => obtain ⟨t, rfl⟩ := r; rfl
  | ref _ => cases r; rfl
  | ty _ => cases r; rfl
theorem RelV.inj {x y : V} {u : Value} (r : RelV x u) (q : RelV y u) : x = y := Option.some.inj (r.abs.symm.trans q.abs)
theorem Vals.inj : ∀ {xs ys : List V} {us : List Value}, Vals xs us → Vals ys us → xs = ys
  | _, _, _, .nil, .nil => rfl
  | _, _, _, .cons r t, .cons r' t' => by rw [r.inj r', Vals.inj t t']
section
variable {X : Cx} {pins : List (Addr × Obj)} {σ : St} {H : Hp} {s : Shared} {a : Addr} {xs ys : List V}
theorem SqL.of {K : PySem.W.Frag} (h : H a = some (.lst xs)) : SqL K H a xs := .inl (.inl h)
theorem SqT.of {K : PySem.W.Frag} (h : H a = some (.tup xs)) : SqT K H a xs := .inl (.inl h)
theorem Inv.list (I : Inv X pins σ H s) (h : SqL X.K H a xs) : ∃ its : List Value, Vals xs its ∧ PlainL s.heap a its.toArray ∧ xs.length ≤ sizeLine := by
  rcases h with h | ⟨o, its, n, hk, hc, hd, hs, hz, r⟩
  · obtain ⟨z, its, n, r, e⟩ := h.ok I.hok
    exact ⟨its, r, ⟨_, n, e, rfl, rfl, rfl⟩, z⟩
  · refine ⟨its.toList, r, ⟨o, n, I.kIn a o hk, hc, hd, by simpa using hs⟩, ?_⟩
    have e := r.length
    simp only [Array.length_toList] at e
    omega
theorem Inv.tuple (I : Inv X pins σ H s) (h : SqT X.K H a xs) : ∃ its : List Value, Vals xs its ∧ IsTup s.heap a its.toArray ∧ xs.length ≤ sizeLine := by
  rcases h with h | ⟨o, its, n, hk, hc, hs, hz, r⟩
  · obtain ⟨z, its, r, p⟩ := h.ok I.hok
    exact ⟨its, r, p, z⟩
  · refine ⟨its.toList, r, ⟨o, I.kIn a o hk, hc, n, by simpa using hs⟩, ?_⟩
    have e := r.length
    simp only [Array.length_toList] at e
    omega
theorem Inv.list_inj (I : Inv X pins σ H s) (h : SqL X.K H a xs) (h' : SqL X.K H a ys) : xs = ys := by
  obtain ⟨its, r, ⟨o, n, e, _, _, d⟩, _⟩ := I.list h
  obtain ⟨its', r', ⟨o', n', e', _, _, d'⟩, _⟩ := I.list h'
  rw [e] at e'; cases e'
  rw [d] at d'
  injection d' with d1 _
  have : its = its' := by simpa using congrArg Array.toList d1
  subst this
  exact r.inj r'
end
abbrev Cx.wish (X : Cx) (E : Value → Shared → Prop) : Cx := { X with xe := E }
abbrev Cx.nox (X : Cx) : Cx := X.wish fun _ _ => False
theorem Cx.Ok.wish {X : Cx} (ok : X.Ok) (E : Value → Shared → Prop) : (X.wish E).Ok :=
  ⟨ok.mod, ok.kind, ok.glob, ok.blt, ok.above, ok.inj, ok.has, ok.cab, ok.hd, ok.frames, ok.stk, ok.exf, ok.bs, ok.bsz, ok.noex, ok.exfs, ok.funs, ok.frf⟩
theorem Cx.Ok.unwish {X : Cx} {E : Value → Shared → Prop} (ok : (X.wish E).Ok) : X.Ok :=
  ⟨ok.mod, ok.kind, ok.glob, ok.blt, ok.above, ok.inj, ok.has, ok.cab, ok.hd, ok.frames, ok.stk, ok.exf, ok.bs, ok.bsz, ok.noex, ok.exfs, ok.funs, ok.frf⟩
section
variable {X : Cx} {pins : List (Addr × Obj)} {σ : St} {H : Hp} {s : Shared} {E : Value → Shared → Prop}
theorem Inv.wish (I : Inv X pins σ H s) (E : Value → Shared → Prop) : Inv (X.wish E) pins σ H s := ⟨I.ok.wish E, I.os, I.bare, I.base, I.loc, I.cell, I.free, I.freeC, I.pin, I.hok, I.len⟩
theorem Inv.unwish (I : Inv (X.wish E) pins σ H s) : Inv X pins σ H s := ⟨I.ok.unwish, I.os, I.bare, I.base, I.loc, I.cell, I.free, I.freeC, I.pin, I.hok, I.len⟩
theorem SP.unwish {D : Ends} {f : Flow} {s' : Shared} (h : SP (X.wish E) pins D f s') : SP X pins D f s' := by
  cases f with
  | next => obtain ⟨σ', H', I, q⟩ := h; exact ⟨σ', H', I.unwish, q⟩
  | brk => obtain ⟨σ', H', I, q⟩ := h; exact ⟨σ', H', I.unwish, q⟩
  | cont => obtain ⟨σ', H', I, q⟩ := h; exact ⟨σ', H', I.unwish, q⟩
  | ret u => obtain ⟨v, σ', H', I, r, q⟩ := h; exact ⟨v, σ', H', I.unwish, r, q⟩
theorem PE.nox {e : Expr} {t : TE} (h : PE X.nox e t) : PE X e t := fun pins s σ H Q I hw =>
  wpAny_mono (h pins s σ H Q (I.wish _) hw) (fun _ _ ⟨v, H', I', r, q⟩ => ⟨v, H', I'.unwish, r, q⟩) fun _ _ z => False.elim z
theorem PT.nox {e : Expr} {t : TT} (h : PT X.nox e t) : PT X e t := fun pins s σ H Q I hw =>
  wpAny_mono (h pins s σ H Q (I.wish _) hw) (fun _ _ ⟨H', I', q⟩ => ⟨H', I'.unwish, q⟩) fun _ _ z => False.elim z
theorem PSs.nox {st : List Stmt} {t : TS} (h : PSs X.nox st t) : PSs X st t := fun pins s σ H D I hw =>
  wpAny_mono (h pins s σ H D (I.wish _) hw) (fun _ _ q => q.unwish) fun _ _ z => False.elim z
end
section
variable {X : Cx} {st : Stmt} {rest : List Stmt} {t u : TS} {e : Expr} {te : TE} {pos : Pos}
def tNext : TS := fun D σ H => D.nx σ H
def tSeq (t u : TS) : TS := fun D σ H => t { D with nx := u D } σ H
theorem pss_nil : PSs X [] tNext := fun _ _ σ H _ I h => wpAny_execs_nil ⟨σ, H, I, h⟩
theorem pss_cons (h1 : PS X st t) (h2 : PSs X rest u) : PSs X (st :: rest) (tSeq t u) := by
  intro pins s σ H D I h
  refine wpAny_execs_cons (thn (h1 pins s σ H { D with nx := u D } I h) fun f s1 q => ?_)
  cases f with
  | next =>
    obtain ⟨σ', H', I', q⟩ := q
    exact h2 pins s1 σ' H' D I' q
  | ret v => exact q
  | brk => exact q
  | cont => exact q
theorem pss_one (h1 : PS X st t) : PSs X [st] t := by
  intro pins s σ H D I h
  refine wpAny_execs_cons (thn (h1 pins s σ H D I h) fun f s1 q => ?_)
  cases f with
  | next => exact wpAny_execs_nil q
  | ret v => exact q
  | brk => exact q
  | cont => exact q
def tBreak : TS := fun D σ H => D.bk σ H
def tCont : TS := fun D σ H => D.ct σ H
theorem Inv.quiet {pins : List (Addr × Obj)} {σ : St} {H : Hp} {s : Shared} (I : Inv X pins σ H s) : interactive X.env = false := by simp [interactive, I.ok.kind]
def tDrop (te : TE) : TS := fun D σ H => te σ H fun _ H1 => D.nx σ H1
theorem ps_expr (he : PE X e te) (hs : swapsWith e none pos.line X.env = pure false := by rfl) : PS X (.Expr e pos) (tDrop te) := by
  intro pins s σ H D I h
  exact wpAny_Expr_any (thn (he pins s σ H _ I h) fun v s1 ⟨x, H1, I1, r1, q1⟩ => ⟨σ, H1, I1, q1⟩) I.quiet hs
def tRet (te : TE) : TS := fun D σ H => te σ H D.rt
theorem ps_ret (he : PE X e te) : PS X (.Return (some e) pos) (tRet te) := by
  intro pins s σ H D I h
  exact wpAny_Return_some (thn (he pins s σ H _ I h) fun v s1 ⟨x, H1, I1, r1, q1⟩ => ⟨x, σ, H1, I1, r1, q1⟩)
def tRetN : TS := fun D _ H => D.rt .non H
def tIfS (c : TT) (t u : TS) : TS := fun D σ H => c σ H fun b H1 => if b = true then t D σ H1 else u D σ H1
theorem ps_if {c : Expr} {a b : List Stmt} {tc : TT} (hc : PT X c tc) (ha : PSs X a t) (hb : PSs X b u) : PS X (.If c a b pos) (tIfS tc t u) := by
  intro pins s σ H D I h
  refine wpAny_If (thn (hc pins s σ H _ I h) fun d s1 ⟨H1, I1, q1⟩ => ?_)
  cases d with
  | true => exact ha pins s1 σ H1 D I1 q1
  | false => exact hb pins s1 σ H1 D I1 q1
def tNever : TS := fun _ _ _ => False
theorem ps_never : PS X st tNever := fun _ _ _ _ _ _ h => h.elim
end
abbrev TG := V → St → Hp → (St → Hp → Prop) → Prop
abbrev TGs := List V → St → Hp → (St → Hp → Prop) → Prop
def PG (X : Cx) (target : Expr) (t : TG) : Prop :=
  ∀ (pins : List (Addr × Obj)) (s : Shared) (σ : St) (H : Hp) (v : V) (u : Value) (Q : St → Hp → Prop), Inv X pins σ H s → RelV v u → t v σ H Q →
    wpAny (model X.prog X.w) X.A (assign target X.env u) (fun _ s' => ∃ σ' H', Inv X pins σ' H' s' ∧ Q σ' H') X.xe s
def PGs (X : Cx) (ts : List Expr) (t : TGs) : Prop :=
  ∀ (pins : List (Addr × Obj)) (s : Shared) (σ : St) (H : Hp) (vs : List V) (us : List Value) (Q : St → Hp → Prop), Inv X pins σ H s → Vals vs us → t vs σ H Q →
    wpAny (model X.prog X.w) X.A (assignInOrder ((assignEach ts X.env).map (·.2)) us) (fun _ s' => ∃ σ' H', Inv X pins σ' H' s' ∧ Q σ' H') X.xe s
abbrev TSet := V → V → V → Hp → (Hp → Prop) → Prop
def PSet (X : Cx) (t : TSet) : Prop :=
  ∀ (pins : List (Addr × Obj)) (s : Shared) (σ : St) (H : Hp) (o i v : V) (ov iv u : Value) (Q : Hp → Prop), Inv X pins σ H s → RelV o ov → RelV i iv → RelV v u → t o i v H Q →
    wpAny (model X.prog X.w) X.A (setItem ov iv u) (fun _ s' => ∃ H', Inv X pins σ H' s' ∧ Q H') X.xe s
abbrev TIp := V → V → Hp → VK → Prop
def PIp (X : Cx) (op : Operator) (t : TIp) : Prop :=
  ∀ (pins : List (Addr × Obj)) (s : Shared) (σ : St) (H : Hp) (x y : V) (v u : Value) (Q : VK), Inv X pins σ H s → RelV x v → RelV y u → t x y H Q →
    wpAny (model X.prog X.w) X.A (inplaceOp op v u) (EP X pins σ Q) X.xe s
section
variable {X : Cx} {pos : Pos}
def gName (i : Nat) : TG := fun v σ H Q => Q (σ.set i (some v)) H
theorem pg_name {i : Nat} {x : Str} (hN : X.N.Nodup) (hi : X.N[i]? = some x) (hx : Loc X.env.scope x) (hf : X.fn x = true ∨ X.env.scope.names.lookup x = some .local := by first | exact .inl rfl | exact .inr rfl | assumption) : PG X (.Name x pos) (gName i) := by
  intro pins s σ H v u Q I r h
  exact wpAny_assign_Name (store_ok I hN hi hx r (fun s' I' => ⟨_, H, I', h⟩) hf)
def gNil : TGs := fun vs σ H Q => vs = [] ∧ Q σ H
def gCons (t : TG) (u : TGs) : TGs := fun vs σ H Q => ∃ v r, vs = v :: r ∧ t v σ H fun σ' H' => u r σ' H' Q
theorem pgs_nil : PGs X [] gNil := by
  intro pins s σ H vs us Q I r h
  obtain ⟨e, h⟩ := h
  subst e
  cases r
  exact assignInOrder_nil ⟨σ, H, I, h⟩
theorem pgs_cons {e : Expr} {es : List Expr} {t : TG} {u : TGs} (h1 : PG X e t) (h2 : PGs X es u)
    (hs : (assignEach (e :: es) X.env).map (·.2) = assign e X.env :: (assignEach es X.env).map (·.2) := by rfl) : PGs X (e :: es) (gCons t u) := by
  intro pins s σ H vs us Q I r h
  obtain ⟨v, vr, e1, h⟩ := h
  subst e1
  cases r with
  | cons r rr =>
    rw [hs]
    refine assignInOrder_cons (thn (h1 pins s σ H _ _ _ I r h) fun _ s1 ⟨σ1, H1, I1, q1⟩ => ?_)
    exact h2 pins s1 σ1 H1 _ _ Q I1 rr q1
def gTup (K : PySem.W.Frag) (n : Nat) (t : TGs) : TG := fun v σ H Q => ∃ a xs, v = .ref a ∧ SqT K H a xs ∧ xs.length = n ∧ t xs σ H Q
theorem pg_tup {es : List Expr} {k : Nat} {t : TGs} {n : Nat} (hc : X.calm = true) (h : PGs X es t)
    (hn : (assignEach es X.env).length = n := by rfl) (hst : (assignEach es X.env).findIdx? (·.1) = none := by rfl) : PG X (.Tuple es k pos) (gTup X.K n t) := by
  intro pins s σ H v u Q I r hw
  obtain ⟨a, xs, e1, hq, hl, hw⟩ := hw
  subst e1
  cases r
  obtain ⟨its, rv, ht, hz⟩ := I.tuple hq
  refine assign_Tuple_tuple (I.ok.hd hc) ht (by simp [hn, ← hl, rv.length]) hst fun h' hx => ?_
  have I1 : Inv X pins σ H { s with heap := h' } := I.kept (t' := s.toks) fun b o e => hx b o (Nat.ne_of_lt (Heap.lt_size e)) e
  exact h pins _ σ H xs _ Q I1 (by simpa using rv) hw
def gSub (to ti : TE) (t : TSet) : TG := fun v σ H Q => to σ H fun o H1 => ti σ H1 fun i H2 => t o i v H2 fun H3 => Q σ H3
def tAsg (te : TE) (g : TG) : TS := fun D σ H => te σ H fun x H1 => g x σ H1 D.nx
theorem ps_asg {tg e : Expr} {te : TE} {g : TG} (he : PE X e te) (hg : PG X tg g) (hs : swapsWithSole [tg] e pos.line X.env = pure false := by rfl) (hw : swappedStores [tg] e X.env = pure none := by rfl)
    (h1 : (assignEach [tg] X.env).map (·.2) = [assign tg X.env] := by rfl) : PS X (.Assign [tg] e pos) (tAsg te g) := by
  intro pins s σ H D I h
  refine wpAny_Assign_stores (thn (he pins s σ H _ I h) fun v s1 ⟨x, H1, I1, r1, q1⟩ => ?_) hs hw
  rw [h1]
  exact thn (hg pins s1 σ H1 x v _ I1 r1 q1) fun _ s2 q => q
theorem ps_set {i : Nat} {x : Str} {e : Expr} {te : TE} {pos' : Pos} (hN : X.N.Nodup) (hi : X.N[i]? = some x) (hx : Loc X.env.scope x) (he : PE X e te) (hs : swapsWith e (some (.Name x pos')) pos.line X.env = pure false := by rfl) (hf : X.fn x = true ∨ X.env.scope.names.lookup x = some .local := by first | exact .inl rfl | exact .inr rfl | assumption) :
    PS X (.Assign [.Name x pos'] e pos) (tAsg te (gName i)) := by
  intro pins s σ H D I h
  refine wpAny_Assign_Name (thn (he pins s σ H _ I h) fun v s1 ⟨y, H1, I1, r1, q1⟩ => ?_) hs
  exact store_ok I1 hN hi hx r1 (fun s2 I2 => ⟨_, H1, I2, q1⟩) hf
def tPar (i j : Nat) (ta : TA) : TS := fun D σ H => ta σ H fun vs H1 => ∃ v w, vs = [v, w] ∧ D.nx ((σ.set i (some v)).set j (some w)) H1
def tAug (i : Nat) (te : TE) (ti : TIp) : TS := fun D σ H => ∃ x, σ[i]? = some (some x) ∧ te σ H fun y H1 => ti x y H1 fun z H2 => D.nx (σ.set i (some z)) H2
def tAugS (to ti te : TE) (tget : V → V → Hp → VK → Prop) (tip : TIp) (tset : TSet) : TS := fun D σ H => to σ H fun o H1 => ti σ H1 fun i H2 => tget o i H2 fun x H3 => te σ H3 fun y H4 => tip x y H4 fun z H5 => tset o i z H5 fun H6 => D.nx σ H6
def PGet (X : Cx) (t : V → V → Hp → VK → Prop) : Prop :=
  ∀ (pins : List (Addr × Obj)) (s : Shared) (σ : St) (H : Hp) (o i : V) (ov iv : Value) (Q : VK), Inv X pins σ H s → RelV o ov → RelV i iv → t o i H Q →
    wpAny (model X.prog X.w) X.A (getItem ov iv) (EP X pins σ Q) X.xe s
def ipI (f : Int → Int → Int) : TIp := fun x y H Q => ∃ i j, x = .int i ∧ y = .int j ∧ Q (.int (f i j)) H
end
section
variable {X : Cx} {pos : Pos}
def tWhile (c : TT) (tb : TS) : TS := fun D σ H => ∃ W : Nat → St → Hp → Prop, (∃ m, W m σ H) ∧ ∀ m σ H, W m σ H →
  c σ H fun b H1 => if b = true then ∃ N : St → Hp → Prop, (∀ σ' H', N σ' H' → ∃ m', m' < m ∧ W m' σ' H') ∧ tb { D with nx := N, ct := N, bk := D.nx } σ H1 else D.nx σ H1
end
structure It where
  go : Nat → Hp → Prop
  yld : Nat → Hp → V → Hp → Prop
  stop : Nat → Hp → Prop
def FpOk (X : Cx) (pins : List (Addr × Obj)) (H : Hp) (b : Addr) : Prop :=
  H b = none ∧ b ≠ X.env.locals ∧ b ∉ X.fs ∧ (b ∈ X.ex ∨ X.s₀.heap.objs.size ≤ b) ∧ (∀ x c, X.env.cells.lookup x = some c → c ≠ b) ∧ ∀ p ∈ X.pn ++ pins, p.1 ≠ b
theorem Inv.fpOk {X : Cx} {pins : List (Addr × Obj)} {σ : St} {H H' : Hp} {s : Shared} {b : Addr} (I : Inv X pins σ H s) (hb : s.heap.objs.size ≤ b) (hn : H' b = none) : FpOk X pins H' b := by
  refine ⟨hn, Nat.ne_of_gt (Nat.lt_of_lt_of_le I.lt hb), I.nofs hb, .inr (Nat.le_trans I.sz hb), fun x c e z => ?_, fun p hp z => ?_⟩
  · obtain ⟨v, q⟩ := I.cell x c e
    exact absurd (Nat.lt_of_lt_of_le q.lt (by rw [z]; exact hb)) (Nat.lt_irrefl _)
  · exact absurd (Nat.lt_of_lt_of_le (Heap.lt_size (I.pin p hp).1) (by rw [z]; exact hb)) (Nat.lt_irrefl _)
structure Turn (P : Program) (w : World) (K : PySem.W.Frag) (tg : Expr) (J : It) (fp : List Addr) (it : Addr) (tn : Nat → Heap → Prop) : Prop where
  mem : it ∈ fp
  obj : ∀ i h, tn i h → ∀ b ∈ fp, ∃ o, h.get? b = some o ∧ ∀ v, o.data ≠ .cell v
  keep : ∀ i h h', tn i h → (∀ b ∈ fp, ∀ o, h.get? b = some o → h'.get? b = some o) → tn i h'
  item : ∀ (X : Cx), X.prog = P → X.w = w → X.K = K → X.calm = true → ∀ (i : Nat) (pins : List (Addr × Obj)) (s : Shared) (σ : St) (H : Hp) (E : Value → Shared → Prop), Inv X pins σ H s → (∀ b ∈ fp, FpOk X pins H b) → tn i s.heap → J.go i H →
    wpAny (model P w) X.A (pyNext (.ref it)) (fun r s1 => ∃ u, r = some u ∧
      wpAny (model P w) X.A (letOwnedTupleGo tg (.ref it) u) (fun _ s2 => ∃ x H', Inv X pins σ H' s2 ∧ RelV x u ∧ J.yld i H x H' ∧ tn (i + 1) s2.heap ∧ ∀ b ∈ fp, H' b = none) E s1) E s
  done : ∀ (X : Cx), X.prog = P → X.w = w → X.K = K → X.calm = true → ∀ (i : Nat) (pins : List (Addr × Obj)) (s : Shared) (σ : St) (H : Hp) (E : Value → Shared → Prop), Inv X pins σ H s → (∀ b ∈ fp, FpOk X pins H b) → tn i s.heap → J.stop i H →
    wpAny (model P w) X.A (pyNext (.ref it)) (fun r s1 => r = none ∧ Inv X pins σ H s1) E s
  self : ∀ (A : Around) (i : Nat) (s : Shared) (Q : Value → Shared → Prop) (E : Value → Shared → Prop), tn i s.heap → Q (.ref it) s → wpAny (model P w) A (pyIter (.ref it)) Q E s
abbrev TI := St → Hp → (It → Hp → Prop) → Prop
def PIE (X : Cx) (pins : List (Addr × Obj)) (σ : St) (tg : Expr) (R : It → Hp → Prop) (itv : Value) (s2 : Shared) : Prop :=
  ∃ (it : Addr) (fp : List Addr) (tn : Nat → Heap → Prop) (J : It) (H' : Hp), itv = .ref it ∧ Inv X pins σ H' s2 ∧ Turn X.prog X.w X.K tg J fp it tn ∧ tn 0 s2.heap ∧ (∀ b ∈ fp, FpOk X pins H' b) ∧ R J H'
def PI (X : Cx) (tg iter : Expr) (wi : TI) : Prop :=
  ∀ (pins : List (Addr × Obj)) (s : Shared) (σ : St) (H : Hp) (R : It → Hp → Prop), Inv X pins σ H s → wi σ H R →
    wpAny (model X.prog X.w) X.A (eval iter X.env) (fun v s1 => wpAny (model X.prog X.w) X.A (pyIter v) (PIE X pins σ tg R) X.xe s1) X.xe s
theorem go_of {M : Model} {A : Around} {E : Value → Shared → Prop} {s : Shared} {tg : Expr} {it : Addr} {u : Value} {o : Obj} {n : String} {vs : Array Value} {Q : Unit → Shared → Prop} (ho : s.heap.get? it = some o) (hc : o.cls = .type n) (hd : o.data = .fields vs)
    (hn : ["enumerate", "zip", "dict_itemiterator", "dict_reverseitemiterator", "odict_iterator", "itertools.zip_longest", "itertools.pairwise"].contains n = false) (hQ : Q () s) : wpAny M A (letOwnedTupleGo tg (.ref it) u) Q E s := by
  unfold letOwnedTupleGo
  cases tg <;> first
    | exact wpAny_pure hQ
    | (cases u <;> first
        | exact wpAny_pure hQ
        | (refine wpAny_bind (wpAny_load ho ?_)
           rw [hc, hd]
           show wpAny M A (if (["enumerate", "zip", "dict_itemiterator", "dict_reverseitemiterator", "odict_iterator", "itertools.zip_longest", "itertools.pairwise"].contains n && vs[0]? == some (rawInt _)) = true then _ else _) Q E s
           rw [if_neg (by intro h; rw [hn, Bool.false_and] at h; cases h)]
           exact wpAny_pure hQ))
def Itl (K : PySem.W.Frag) (a : Addr) : It :=
  ⟨fun i H => ∃ xs x, SqL K H a xs ∧ xs[i]? = some x, fun i H x H' => H' = H ∧ ∀ xs, SqL K H a xs → xs[i]? = some x, fun i H => ∃ xs, SqL K H a xs ∧ xs.length ≤ i⟩
def Itt (K : PySem.W.Frag) (a : Addr) : It :=
  ⟨fun i H => ∃ xs x, SqT K H a xs ∧ xs[i]? = some x, fun i H x H' => H' = H ∧ ∀ xs, SqT K H a xs → xs[i]? = some x, fun i H => ∃ xs, SqT K H a xs ∧ xs.length ≤ i⟩
def Itr (lo : Int) (n : Nat) : It := ⟨fun i _ => i < n, fun i H x H' => H' = H ∧ x = .int (lo + i), fun i _ => n ≤ i⟩
theorem turn_list {P : Program} {w : World} {K : PySem.W.Frag} {tg : Expr} (a it : Addr) : Turn P w K tg (Itl K a) [it] it (fun i h => h.IsListIter it a i) where
  mem := by simp
  obj := fun i h st b hb => by
    have e : b = it := by simpa using hb
    subst e
    obtain ⟨o, e, c, d⟩ := st
    exact ⟨o, e, fun v z => by rw [d] at z; cases z⟩
  keep := fun i h h' st k => st.at fun o e => k it (by simp) o e
  item := by
    intro X hP hw hK hc i pins s σ H E I hf st hg
    subst hP hw hK
    obtain ⟨xs, x, hq, hx⟩ := hg
    obtain ⟨its, rv, p, hz⟩ := I.list hq
    obtain ⟨u, hu, ru⟩ := rv.get hx
    obtain ⟨f0, f1, f2, f3, f4, f5⟩ := hf it (by simp)
    refine wpAny_pyNext_list_item st p.isList (x := u) (by simpa using hu) fun h' st' sb => ?_
    have I1 : Inv X pins σ H { s with heap := h' } := I.turned (t' := s.toks) (fun b o hb e => (sb.2 b hb).trans e) f0 f1 f3 f4 f5
    obtain ⟨o, e, c, d⟩ := id st'
    exact ⟨u, rfl, go_of (s := { s with heap := h' }) e c d (by decide) ⟨x, H, I1, ru, ⟨rfl, fun ys hy => by rw [I.list_inj hy hq]; exact hx⟩, st', fun b hb => (hf b hb).1⟩⟩
  done := by
    intro X hP hw hK hc i pins s σ H E I hf st hg
    subst hP hw hK
    obtain ⟨xs, hq, hx⟩ := hg
    obtain ⟨its, rv, p, hz⟩ := I.list hq
    obtain ⟨f0, f1, f2, f3, f4, f5⟩ := hf it (by simp)
    have hl := rv.length
    exact wpAny_pyNext_list_end (I.ok.hd hc) st p.isList (by simp; omega) fun h' eb => ⟨rfl, I.turned (t' := s.toks) (fun b o hb e => eb b o hb e) f0 f1 f3 f4 f5⟩
  self := fun _ _ _ _ _ st h => wpAny_pyIter_listiter st h
theorem turn_range {P : Program} {w : World} {K : PySem.W.Frag} {tg : Expr} (it : Addr) (lo : Int) (n : Nat) : Turn P w K tg (Itr lo n) [it] it (fun i h => IsRangeIter h it (lo + (i : Nat) * 1) ((n : Int) - (i : Nat)) 1) where
  mem := by simp
  obj := fun i h st b hb => by
    have e : b = it := by simpa using hb
    subst e
    exact ⟨_, st, fun v z => by
      have z' : Data.fields _ = Data.cell v := z
      cases z'⟩
  keep := fun i h h' st k => k it (by simp) _ st
  item := by
    intro X hP hw hK hc i pins s σ H E I hf st hg
    subst hP hw hK
    obtain ⟨f0, f1, f2, f3, f4, f5⟩ := hf it (by simp)
    have W := Walks.range (prog := X.prog) (w := X.w) (I.ok.hd hc) it lo 1 n
    refine W.item i s _ _ hg st fun v h' tk hv st' kk => ?_
    obtain ⟨t, rfl⟩ := hv
    have I1 : Inv X pins σ H { s with heap := h', toks := tk } := I.turned (fun b o hb e => kk b o (by simpa using hb) e) f0 f1 f3 f4 f5
    refine ⟨_, rfl, go_of (s := { s with heap := h', toks := tk }) (n := "range_iterator") st' rfl rfl (by decide) ⟨.int (lo + i), H, I1, ⟨t, ?_⟩, ⟨rfl, rfl⟩, st', fun b hb => (hf b hb).1⟩⟩
    rw [Int.mul_one]
  done := by
    intro X hP hw hK hc i pins s σ H E I hf st hg
    subst hP hw hK
    obtain ⟨f0, f1, f2, f3, f4, f5⟩ := hf it (by simp)
    exact wpAny_pyNext_range_end (I.ok.hd hc) st (by have : n ≤ i := hg; omega) fun h' eb => ⟨rfl, I.turned (t' := s.toks) (fun b o hb e => eb b o hb e) f0 f1 f3 f4 f5⟩
  self := fun _ _ _ _ _ st h => wpAny_pyIter_rangeiter st h
end L2
namespace L2
open PySem PySem.Spec PyProof.Rows
section
variable {X : Cx} {tg : Expr}
def iList (K : PySem.W.Frag) (tl : TE) : TI := fun σ H R => tl σ H fun x H1 => ∃ a, x = .ref a ∧ (∃ xs, SqL K H1 a xs) ∧ R (Itl K a) H1
def iTup (K : PySem.W.Frag) (tl : TE) : TI := fun σ H R => tl σ H fun x H1 => ∃ a, x = .ref a ∧ (∃ xs, SqT K H1 a xs) ∧ R (Itt K a) H1
theorem pi_list {l : Expr} {tl : TE} (hl : PE X l tl) : PI X tg l (iList X.K tl) := by
  intro pins s σ H R I h
  refine thn (hl pins s σ H _ I h) fun v s1 ⟨x, H1, I1, r1, q1⟩ => ?_
  obtain ⟨a, e, ⟨xs, hq⟩, q⟩ := q1
  subst e
  cases r1
  obtain ⟨its, rv, p, hz⟩ := I1.list hq
  refine wpAny_pyIter_list p.isList ?_
  refine ⟨s1.heap.objs.size, [s1.heap.objs.size], _, _, H1, rfl, I1.kept (t' := s1.toks) fun b o e => Heap.get?_push_of_some _ e, turn_list a _, ⟨_, Heap.get?_push_size _ rfl, rfl, rfl⟩, fun b hb => ?_, q⟩
  have e : b = s1.heap.objs.size := by simpa using hb
  subst e
  exact I1.fpOk (Nat.le_refl _) (I1.hok.fresh (Nat.le_refl _))
theorem range_it {pins : List (Addr × Obj)} {σ : St} {H : Hp} {s : Shared} {R : It → Hp → Prop} {E : Value → Shared → Prop} {lo hi : Int} {t u v : Tok} {tk : Nat} (I : Inv X pins σ H s) (h1 : -(2 ^ 62) ≤ lo) (h2 : lo < 2 ^ 62) (h3 : -(2 ^ 62) ≤ hi) (h4 : hi < 2 ^ 62)
    (q : R (Itr lo (hi - lo).toNat) H) : wpAny (model X.prog X.w) X.A (pyIter (.ref s.heap.objs.size)) (PIE X pins σ tg R) E { s with heap := s.heap.push { cls := .type "range", data := .fields #[.int lo t, .int hi u, .int 1 v] }, toks := tk } := by
  refine wpAny_pyIter_range (IsRange.new ..) (small_one h1 h2 h3 h4) ?_
  have I1 : Inv X pins σ H { s with heap := s.heap.push { cls := .type "range", data := .fields #[.int lo t, .int hi u, .int 1 v] }, toks := tk } := I.kept fun b o e => Heap.get?_push_of_some _ e
  refine ⟨(s.heap.push { cls := .type "range", data := .fields #[.int lo t, .int hi u, .int 1 v] }).objs.size, [(s.heap.push { cls := .type "range", data := .fields #[.int lo t, .int hi u, .int 1 v] }).objs.size], _, _, H, rfl,
    I1.kept (t' := tk) fun b o e => Heap.get?_push_of_some _ e, turn_range _ lo (hi - lo).toNat, ?_, fun b hb => ?_, q⟩
  · have e1 : lo + ((0 : Nat) : Int) * 1 = lo := by simp
    have e2 : (((hi - lo).toNat : Nat) : Int) - ((0 : Nat) : Int) = Builtin.Range.rangeSize lo hi 1 := by rw [rangeSize_one]; split <;> omega
    show IsRangeIter _ _ (lo + ((0 : Nat) : Int) * 1) ((((hi - lo).toNat : Nat) : Int) - ((0 : Nat) : Int)) 1
    rw [e1, e2]
    exact Heap.get?_push_size _ rfl
  · have e : b = (s.heap.push { cls := .type "range", data := .fields #[.int lo t, .int hi u, .int 1 v] }).objs.size := by simpa using hb
    subst e
    exact I1.fpOk (Nat.le_refl _) (I1.hok.fresh (Nat.le_refl _))
def iRng1 (ta : TA) : TI := fun σ H R => ta σ H fun vs H1 => ∃ j : Int, vs = [.int j] ∧ -(2 ^ 62) ≤ j ∧ j < 2 ^ 62 ∧ R (Itr 0 j.toNat) H1
def iRng2 (ta : TA) : TI := fun σ H R => ta σ H fun vs H1 => ∃ i j : Int, vs = [.int i, .int j] ∧ (-(2 ^ 62) ≤ i ∧ i < 2 ^ 62 ∧ -(2 ^ 62) ≤ j ∧ j < 2 ^ 62) ∧ R (Itr i (j - i).toNat) H1
theorem pi_range1 {a : Expr} {ta : TA} {p pos : Pos} (hg : Gl X "range") (hm : X.mg "range" = none) (ha : PA X [a] ta) (hs : starEach [a] X.env = [(false, eval a X.env)] := by rfl) : PI X tg (.Call (.Name "range" p) [a] [] pos) (iRng1 ta) := by
  intro pins s σ H R I h
  refine Call_ (ld_blt I hg hm boot_range (PyProof.Rows.callWith_type1 (thn (ha pos pins s σ H _ I h) fun us s1 ⟨vs, H1, I1, r1, q1⟩ => ?_) hs rfl))
  obtain ⟨j, e, q1, q2, q⟩ := q1
  subst e
  cases r1 with
  | cons r rr =>
    cases rr
    obtain ⟨t, rfl⟩ := r
    exact call_range_1 (range_it I1 (by omega) (by omega) q1 q2 (by simpa using q))
theorem pi_range2 {a b : Expr} {ta : TA} {p pos : Pos} (hg : Gl X "range") (hm : X.mg "range" = none) (ha : PA X [a, b] ta) (hs : starEach [a, b] X.env = [(false, eval a X.env), (false, eval b X.env)] := by rfl) (hs2 : starEach [b] X.env = [(false, eval b X.env)] := by rfl) :
    PI X tg (.Call (.Name "range" p) [a, b] [] pos) (iRng2 ta) := by
  intro pins s σ H R I h
  refine Call_ (ld_blt I hg hm boot_range (PyProof.Rows.callWith_type1 (thn (ha pos pins s σ H _ I h) fun us s1 ⟨vs, H1, I1, r1, q1⟩ => ?_) (by rw [hs, hs2]) (by rw [hs2]; rfl)))
  obtain ⟨i, j, e, ⟨q1, q2, q3, q4⟩, q⟩ := q1
  subst e
  cases r1 with
  | cons r rr =>
    cases rr with
    | cons r' rr =>
      cases rr
      obtain ⟨t, rfl⟩ := r
      obtain ⟨t', rfl⟩ := r'
      exact call_range_2 (range_it I1 q1 q2 q3 q4 q)
def tFor (wi : TI) (g : TG) (tb : TS) : TS := fun D σ H => wi σ H fun J H1 => ∃ W : Nat → Nat → St → Hp → Prop, (∃ m, W 0 m σ H1) ∧ ∀ i m σ H, W i m σ H →
  (J.stop i H ∧ D.nx σ H) ∨ (J.go i H ∧ ∃ N : St → Hp → Prop, (∀ σ' H', N σ' H' → ∃ m', m' < m ∧ W (i + 1) m' σ' H') ∧ ∀ x H', J.yld i H x H' → g x σ H' fun σ2 H2 => tb { D with nx := N, ct := N, bk := D.nx } σ2 H2)
def pinsAt (fp : List Addr) (h : Heap) : List (Addr × Obj) := fp.filterMap fun b => (h.get? b).map fun o => (b, o)
theorem mem_pinsAt {fp : List Addr} {h : Heap} {b : Addr} {o : Obj} (hb : b ∈ fp) (e : h.get? b = some o) : (b, o) ∈ pinsAt fp h := List.mem_filterMap.mpr ⟨b, hb, by rw [e]; rfl⟩
theorem of_pinsAt {fp : List Addr} {h : Heap} {p : Addr × Obj} (hp : p ∈ pinsAt fp h) : p.1 ∈ fp ∧ h.get? p.1 = some p.2 := by
  obtain ⟨b, hb, e⟩ := List.mem_filterMap.mp hp
  cases q : h.get? b with
  | none => rw [q] at e; cases e
  | some o =>
    rw [q] at e
    have e' : (b, o) = p := Option.some.inj e
    subst e'
    exact ⟨hb, q⟩
theorem Inv.pinned {pins : List (Addr × Obj)} {σ : St} {H : Hp} {s : Shared} {fp : List Addr} (I : Inv X pins σ H s) (hf : ∀ b ∈ fp, FpOk X pins H b) (ho : ∀ b ∈ fp, ∃ o, s.heap.get? b = some o ∧ ∀ v, o.data ≠ .cell v) : Inv X (pins ++ pinsAt fp s.heap) σ H s :=
  I.pins_of fun p hp => (List.mem_append.mp hp).elim (fun z => I.pin p (List.mem_append_right _ z)) fun z => by
    obtain ⟨hb, e⟩ := of_pinsAt z
    obtain ⟨f0, f1, f2, _⟩ := hf p.1 hb
    obtain ⟨o, e', d⟩ := ho p.1 hb
    rw [e] at e'; cases e'
    exact ⟨e, f0, f1, f2, d⟩
theorem Inv.unpinned {pins pl : List (Addr × Obj)} {σ : St} {H : Hp} {s : Shared} (I : Inv X (pins ++ pl) σ H s) : Inv X pins σ H s := I.pins_of fun p hp => I.pin p (List.mem_append_right _ (List.mem_append_left _ hp))
theorem ps_for {iter : Expr} {body : List Stmt} {wi : TI} {g : TG} {tb : TS} {pos : Pos} (hp : PassesOwn (model X.prog X.w) X.A X.env X.xe) (hc : X.calm = true) (hi : PI X tg iter wi) (hg : PG X tg g) (hb : PSs X body tb)
    (hs : ∀ x, foldedSetIterable iter X.env x = pure x := by intro _; rfl) : PS X (.For tg iter body [] pos) (tFor wi g tb) := by
  intro pins s σ H D I h
  refine wpAny_For (thn (hi pins s σ H _ I h) fun v s1 h1 => thn h1 fun itv s2 h2 => ?_) hs
  obtain ⟨it, fp, tn, J, H2, e, I2, T, st2, f2, W, ⟨m0, w0⟩, turn⟩ := h2
  subst e
  have stat : ∀ {H' : Hp}, (∀ b ∈ fp, H' b = none) → ∀ b ∈ fp, FpOk X pins H' b := fun hn b hb => ⟨hn b hb, (f2 b hb).2⟩
  refine codeAny_forLoop_any (fun n s' => ∃ i σ' H', Inv X pins σ' H' s' ∧ tn i s'.heap ∧ (∀ b ∈ fp, H' b = none) ∧ W i n σ' H') ?_ m0 ⟨0, σ, H2, I2, st2, fun b hb => (f2 b hb).1, w0⟩
  rintro n s3 ⟨i, σ3, H3, I3, st3, fr3, w3⟩
  rcases turn i n σ3 H3 w3 with ⟨stop, qn⟩ | ⟨go, N, hN, step⟩
  · refine wpAny_passesOwn hp (thn (T.done X rfl rfl rfl hc i pins s3 σ3 H3 X.xe I3 (stat fr3) st3 stop) fun r s4 ⟨hr, I4⟩ => ?_)
    subst hr
    exact wpAny_execs_nil ⟨σ3, H3, I4, qn⟩
  · refine wpAny_passesOwn hp (thn (T.item X rfl rfl rfl hc i pins s3 σ3 H3 X.xe I3 (stat fr3) st3 go) fun r s4 ⟨u, hr, h4⟩ => ?_)
    subst hr
    refine wpAny_passesOwn hp (thn h4 fun _ s5 ⟨x, H5, I5, r5, y5, st5, fr5⟩ => ?_)
    have I5' := I5.pinned (stat fr5) (T.obj _ _ st5)
    refine wpAny_passesOwn hp (thn (hg _ s5 σ3 H5 x u _ I5' r5 (step x H5 y5)) fun _ s6 ⟨σ6, H6, I6, q6⟩ => ?_)
    refine wpAny_passesOwn hp (thn (hb _ s6 σ6 H6 _ I6 q6) fun f s7 q7 => ?_)
    have again : ∀ {σ7 : St} {H7 : Hp}, Inv X (pins ++ pinsAt fp s5.heap) σ7 H7 s7 → N σ7 H7 → ∃ m, m < n ∧ ∃ i σ' H', Inv X pins σ' H' s7 ∧ tn i s7.heap ∧ (∀ b ∈ fp, H' b = none) ∧ W i m σ' H' := fun {σ7 H7} I7 n7 => by
      obtain ⟨m', hm, w7⟩ := hN σ7 H7 n7
      refine ⟨m', hm, i + 1, σ7, H7, I7.unpinned, T.keep _ _ _ st5 fun b hb o e => (I7.pin (b, o) (List.mem_append_right _ (List.mem_append_right _ (mem_pinsAt hb e)))).1, fun b hb => ?_, w7⟩
      obtain ⟨o, e, d⟩ := T.obj _ _ st5 b hb
      exact (I7.pin (b, o) (List.mem_append_right _ (List.mem_append_right _ (mem_pinsAt hb e)))).2.1
    cases f with
    | next => obtain ⟨σ7, H7, I7, n7⟩ := q7; exact again I7 n7
    | cont => obtain ⟨σ7, H7, I7, n7⟩ := q7; exact again I7 n7
    | brk => obtain ⟨σ7, H7, I7, q7⟩ := q7; exact ⟨σ7, H7, I7.unpinned, q7⟩
    | ret v => obtain ⟨x7, σ7, H7, I7, r7, q7⟩ := q7; exact ⟨x7, σ7, H7, I7.unpinned, r7, q7⟩
end
theorem for_list {K : PySem.W.Frag} {a : Addr} {xs : List V} {g : TG} {tb : TS} {D : Ends} {σ : St} {H : Hp} (Pv : Nat → St → Hp → Prop) (h0 : Pv 0 σ H) (hl : ∀ i σ H, i ≤ xs.length → Pv i σ H → SqL K H a xs)
    (hs : ∀ i x σ H, xs[i]? = some x → Pv i σ H → g x σ H fun σ2 H2 => tb { D with nx := Pv (i + 1), ct := Pv (i + 1), bk := D.nx } σ2 H2) (hd : ∀ σ H, Pv xs.length σ H → D.nx σ H) :
    ∃ W : Nat → Nat → St → Hp → Prop, (∃ m, W 0 m σ H) ∧ ∀ i m σ H, W i m σ H →
      ((Itl K a).stop i H ∧ D.nx σ H) ∨ ((Itl K a).go i H ∧ ∃ N : St → Hp → Prop, (∀ σ' H', N σ' H' → ∃ m', m' < m ∧ W (i + 1) m' σ' H') ∧ ∀ x H', (Itl K a).yld i H x H' → g x σ H' fun σ2 H2 => tb { D with nx := N, ct := N, bk := D.nx } σ2 H2) := by
  refine ⟨fun i m σ H => m = xs.length - i ∧ i ≤ xs.length ∧ Pv i σ H, ⟨xs.length, by simp, Nat.zero_le _, h0⟩, ?_⟩
  rintro i m σ H ⟨rfl, hi, p⟩
  have q := hl i σ H hi p
  by_cases hlt : i < xs.length
  · refine .inr ⟨⟨xs, xs[i], q, by simp [hlt]⟩, Pv (i + 1), fun σ' H' p' => ⟨xs.length - (i + 1), by omega, rfl, hlt, p'⟩, fun x H' y => ?_⟩
    obtain ⟨e, y⟩ := y
    subst e
    exact hs i x σ _ (y xs q) p
  · have e : i = xs.length := by omega
    subst e
    exact .inl ⟨⟨xs, q, Nat.le_refl _⟩, hd σ H p⟩
theorem for_range {lo : Int} {n : Nat} {g : TG} {tb : TS} {D : Ends} {σ : St} {H : Hp} (Pv : Nat → St → Hp → Prop) (h0 : Pv 0 σ H)
    (hs : ∀ i σ H, i < n → Pv i σ H → g (.int (lo + i)) σ H fun σ2 H2 => tb { D with nx := Pv (i + 1), ct := Pv (i + 1), bk := D.nx } σ2 H2) (hd : ∀ σ H, Pv n σ H → D.nx σ H) :
    ∃ W : Nat → Nat → St → Hp → Prop, (∃ m, W 0 m σ H) ∧ ∀ i m σ H, W i m σ H →
      ((Itr lo n).stop i H ∧ D.nx σ H) ∨ ((Itr lo n).go i H ∧ ∃ N : St → Hp → Prop, (∀ σ' H', N σ' H' → ∃ m', m' < m ∧ W (i + 1) m' σ' H') ∧ ∀ x H', (Itr lo n).yld i H x H' → g x σ H' fun σ2 H2 => tb { D with nx := N, ct := N, bk := D.nx } σ2 H2) := by
  refine ⟨fun i m σ H => m = n - i ∧ i ≤ n ∧ Pv i σ H, ⟨n, by simp, Nat.zero_le _, h0⟩, ?_⟩
  rintro i m σ H ⟨rfl, hi, p⟩
  by_cases hlt : i < n
  · refine .inr ⟨hlt, Pv (i + 1), fun σ' H' p' => ⟨n - (i + 1), by omega, rfl, hlt, p'⟩, fun x H' y => ?_⟩
    obtain ⟨e, y⟩ := y
    subst e y
    exact hs i σ _ hlt p
  · have e : i = n := by omega
    subst e
    exact .inl ⟨Nat.le_refl _, hd σ H p⟩
end L2
namespace L2
open PySem PySem.Spec PyProof.Rows
abbrev R2 := V → V → Hp → VK → Prop
def OpR (X : Cx) (f : Value → Value → Sem Value) (r : R2) : Prop :=
  ∀ (pins : List (Addr × Obj)) (s : Shared) (σ : St) (H : Hp) (x y : V) (v u : Value) (Q : VK), Inv X pins σ H s → RelV x v → RelV y u → r x y H Q →
    wpAny (model X.prog X.w) X.A (f v u) (EP X pins σ Q) X.xe s
def UnR (X : Cx) (f : Value → Sem Value) (r : V → Hp → VK → Prop) : Prop :=
  ∀ (pins : List (Addr × Obj)) (s : Shared) (σ : St) (H : Hp) (x : V) (v : Value) (Q : VK), Inv X pins σ H s → RelV x v → r x H Q →
    wpAny (model X.prog X.w) X.A (f v) (EP X pins σ Q) X.xe s
def CallR (X : Cx) (f : Value) (r : List V → Hp → VK → Prop) : Prop :=
  ∀ (pins : List (Addr × Obj)) (s : Shared) (σ : St) (H : Hp) (xs : List V) (us : List Value) (Q : VK), Inv X pins σ H s → Vals xs us → r xs H Q →
    wpAny (model X.prog X.w) X.A (call f us) (EP X pins σ Q) X.xe s
def TruR (X : Cx) (r : V → Hp → (Bool → Hp → Prop) → Prop) : Prop :=
  ∀ (pins : List (Addr × Obj)) (s : Shared) (σ : St) (H : Hp) (x : V) (v : Value) (Q : Bool → Hp → Prop), Inv X pins σ H s → RelV x v → r x H Q →
    wpAny (model X.prog X.w) X.A (truthy v) (TP X pins σ Q) X.xe s
def tOp (r : R2) (ta tb : TE) : TE := fun σ H Q => ta σ H fun x H1 => tb σ H1 fun y H2 => r x y H2 Q
def tUn (r : V → Hp → VK → Prop) (ta : TE) : TE := fun σ H Q => ta σ H fun x H1 => r x H1 Q
def rI (C : Int → Int → Prop) (g : Int → Int → V) : R2 := fun x y H Q => ∃ i j, x = .int i ∧ y = .int j ∧ C i j ∧ Q (g i j) H
def rI0 (g : Int → Int → V) : R2 := fun x y H Q => ∃ i j, x = .int i ∧ y = .int j ∧ Q (g i j) H
def rU (g : Int → V) : V → Hp → VK → Prop := fun x H Q => ∃ i, x = .int i ∧ Q (g i) H
section
variable {X : Cx} {a b c : Expr} {ta tb tc : TE} {pos : Pos}
theorem binT (ha : PE X a ta) (hb : PE X b tb) {pins : List (Addr × Obj)} {s : Shared} {σ : St} {H : Hp} {R : V → V → Hp → Prop} (I : Inv X pins σ H s)
    (h : ta σ H fun x H1 => tb σ H1 fun y H2 => R x y H2) {Q : Value → Shared → Prop} {f : Value → Value → Sem Value}
    (hf : ∀ v u s2 x y H2, Inv X pins σ H2 s2 → RelV x v → RelV y u → R x y H2 → wpAny (model X.prog X.w) X.A (f v u) Q X.xe s2) :
    wpAny (model X.prog X.w) X.A (eval a X.env) (fun v s₁ => wpAny (model X.prog X.w) X.A (eval b X.env) (fun u s₂ => wpAny (model X.prog X.w) X.A (f v u) Q X.xe s₂) X.xe s₁) X.xe s := by
  refine thn (ha pins s σ H _ I h) fun v s1 ⟨x, H1, I1, r1, q1⟩ => ?_
  refine thn (hb pins s1 σ H1 _ I1 q1) fun u s2 ⟨y, H2, I2, r2, q2⟩ => ?_
  exact hf v u s2 x y H2 I2 r1 r2 q2
theorem pe_op {op : Operator} {r : R2} (ho : OpR X (binaryOp op) r) (ha : PE X a ta) (hb : PE X b tb) : PE X (.BinOp a op b pos) (tOp r ta tb) := by
  intro pins s σ H Q I h
  exact wpAny_BinOp (binT ha hb I h fun v u s2 x y H2 I2 rx ry q => ho pins s2 σ H2 x y v u Q I2 rx ry q)
theorem pe_un {op : UnaryOp} {r : V → Hp → VK → Prop} (ho : UnR X (unaryOp op) r) (ha : PE X a ta) : PE X (.UnaryOp op a pos) (tUn r ta) := by
  intro pins s σ H Q I h
  exact UnaryOp_ (thn (ha pins s σ H _ I h) fun v s1 ⟨x, H1, I1, r1, q1⟩ => ho pins s1 σ H1 x v Q I1 r1 q1)
theorem opI {f : Value → Value → Sem Value} {C : Int → Int → Prop} {g : Int → Int → Int}
    (rule : ∀ (i j : Int) (t u : Tok) (s : Shared) (Q : Value → Shared → Prop) (E : Value → Shared → Prop), C i j → Q (.int (g i j) s.toks) { s with toks := s.toks + 1 } → wpAny (model X.prog X.w) X.A (f (.int i t) (.int j u)) Q E s) :
    OpR X f (rI C fun i j => .int (g i j)) := by
  intro pins s σ H x y v u Q I rx ry h
  obtain ⟨i, j, rfl, rfl, hc, q⟩ := h
  obtain ⟨t, rfl⟩ := rx
  obtain ⟨t', rfl⟩ := ry
  exact rule i j t t' s _ _ hc ⟨.int (g i j), H, I.tok _, ⟨_, rfl⟩, q⟩
theorem opI0 {f : Value → Value → Sem Value} {g : Int → Int → Int}
    (rule : ∀ (i j : Int) (t u : Tok) (s : Shared) (Q : Value → Shared → Prop) (E : Value → Shared → Prop), Q (.int (g i j) s.toks) { s with toks := s.toks + 1 } → wpAny (model X.prog X.w) X.A (f (.int i t) (.int j u)) Q E s) :
    OpR X f (rI0 fun i j => .int (g i j)) := by
  intro pins s σ H x y v u Q I rx ry h
  obtain ⟨i, j, rfl, rfl, q⟩ := h
  obtain ⟨t, rfl⟩ := rx
  obtain ⟨t', rfl⟩ := ry
  exact rule i j t t' s _ _ ⟨.int (g i j), H, I.tok _, ⟨_, rfl⟩, q⟩
theorem opB0 {f : Value → Value → Sem Value} {g : Int → Int → Bool}
    (rule : ∀ (i j : Int) (t u : Tok) (s : Shared) (Q : Value → Shared → Prop) (E : Value → Shared → Prop), Q (.bool (g i j)) s → wpAny (model X.prog X.w) X.A (f (.int i t) (.int j u)) Q E s) :
    OpR X f (rI0 fun i j => .bl (g i j)) := by
  intro pins s σ H x y v u Q I rx ry h
  obtain ⟨i, j, rfl, rfl, q⟩ := h
  obtain ⟨t, rfl⟩ := rx
  obtain ⟨t', rfl⟩ := ry
  exact rule i j t t' s _ _ ⟨.bl (g i j), H, I, rfl, q⟩
def CDiv (i j : Int) : Prop := 0 < j ∧ j < 1073741824
def CDivN (i j : Int) : Prop := j ≠ 0 ∧ j.natAbs < 1073741824
def CPow (i j : Int) : Prop := 0 ≤ j ∧ j ≤ 1000000 ∧ i.natAbs < 2 ^ 64
def CMul (i j : Int) : Prop := (-(2 ^ 64) < i ∧ i < 2 ^ 64) ∨ (-(2 ^ 64) < j ∧ j < 2 ^ 64)
theorem CMul.ok {i j : Int} (h : CMul i j) : IntMulOk i j := by
  rcases h with ⟨h1, h2⟩ | ⟨h1, h2⟩
  · exact .of_left (intBits_le_64 h1 h2)
  · exact .of_right (intBits_le_64 h1 h2)
theorem op_add : OpR X (binaryOp .Add) (rI0 fun i j => .int (i + j)) := opI0 fun _ _ _ _ _ _ _ q => add_int q
theorem op_sub : OpR X (binaryOp .Sub) (rI0 fun i j => .int (i - j)) := opI0 fun _ _ _ _ _ _ _ q => sub_int q
theorem op_mul : OpR X (binaryOp .Mult) (rI CMul fun i j => .int (i * j)) := opI fun _ _ _ _ _ _ _ hc q => mul_int q hc.ok
theorem op_fdiv : OpR X (binaryOp .FloorDiv) (rI CDiv fun i j => .int (i / j)) := opI fun i j _ _ _ _ _ hc q => by
  have h1 : (0 : Int) < j := hc.1
  have h2 : j < 1073741824 := hc.2
  exact floordiv_int (by omega) (by rw [Int.fdiv_eq_ediv_of_nonneg i (by omega)]; exact q) (.inl (PyProof.noPylong_small (by omega)))
theorem op_mod : OpR X (binaryOp .Mod) (rI (fun _ j => 0 < j) fun i j => .int (i % j)) := opI fun i j _ _ _ _ _ hc q => by
  have h1 : (0 : Int) < j := hc
  exact mod_int' (by omega) (by rw [Int.fmod_eq_emod_of_nonneg i (by omega)]; exact q)
theorem op_pow : OpR X (binaryOp .Pow) (rI CPow fun i j => .int (i ^ j.toNat)) := opI fun _ _ _ _ _ _ _ hc q => pow_int_small hc.1 hc.2.1 hc.2.2 q
theorem unI {f : Value → Sem Value} {g : Int → Int}
    (rule : ∀ (i : Int) (t : Tok) (s : Shared) (Q : Value → Shared → Prop) (E : Value → Shared → Prop), Q (.int (g i) s.toks) { s with toks := s.toks + 1 } → wpAny (model X.prog X.w) X.A (f (.int i t)) Q E s) :
    UnR X f (rU fun i => .int (g i)) := by
  intro pins s σ H x v Q I rx h
  obtain ⟨i, rfl, q⟩ := h
  obtain ⟨t, rfl⟩ := rx
  exact rule i t s _ _ ⟨.int (g i), H, I.tok _, ⟨_, rfl⟩, q⟩
theorem un_neg : UnR X (unaryOp .USub) (rU fun i => .int (-i)) := unI fun _ _ _ _ _ q => neg_int q
end
def scal : V → V → Bool
  | .non, .non => true | .non, .int _ => true | .int _, .non => true | .non, .bl _ => true | .bl _, .non => true | .non, .str _ => true | .str _, .non => true
  | .int _, .int _ => true | .bl _, .bl _ => true | .str _, .str _ => true | .byt _, .byt _ => true
  | .int _, .str _ => true | .str _, .int _ => true | .bl _, .str _ => true | .str _, .bl _ => true
  | _, _ => false
def rEq : R2 := fun x y H Q => scal x y = true ∧ Q (.bl (decide (x = y))) H
def rNe : R2 := fun x y H Q => scal x y = true ∧ Q (.bl (!decide (x = y))) H
theorem dec_int {i j : Int} : decide (V.int i = V.int j) = (i == j) := by
  rw [Bool.eq_iff_iff]
  simp
theorem dec_bl {i j : Bool} : decide (V.bl i = V.bl j) = (i == j) := by
  rw [Bool.eq_iff_iff]
  simp
theorem dec_str {i j : Str} : decide (V.str i = V.str j) = (i == j) := by
  rw [Bool.eq_iff_iff]
  simp
theorem dec_byt {i j : Array UInt8} : decide (V.byt i = V.byt j) = (i.toList == j.toList) := by
  rw [Bool.eq_iff_iff]
  cases i
  cases j
  simp
section
variable {X : Cx} {a b c : Expr} {ta tb tc : TE} {pos : Pos}
theorem fin_bl {pins : List (Addr × Obj)} {σ : St} {H : Hp} {s : Shared} {Q : VK} {k k' : Bool} (I : Inv X pins σ H s) (q : Q (.bl k) H) (e : k = k') : EP X pins σ Q (.bool k') s := by
  subst e
  exact ⟨.bl k, H, I, rfl, q⟩
theorem op_eq : OpR X (compareOp .Eq) rEq := by
  intro pins s σ H x y v u Q I rx ry h
  obtain ⟨hs, q⟩ := h
  cases x with
  | non =>
    cases rx
    cases y with
    | non => cases ry; exact PySem.EqNone.eq_none_none (fin_bl I q (by simp))
    | bl j => cases ry; exact PySem.EqNone.eq_none_bool (fin_bl I q (by simp))
    | int j => obtain ⟨t', rfl⟩ := ry; exact PySem.EqNone.eq_none_int (fin_bl I q (by simp))
    | str j => obtain ⟨t', rfl⟩ := ry; exact PySem.EqNone.eq_none_str (fin_bl I q (by simp))
    | _ => exact absurd (show false = true from hs) Bool.false_ne_true
  | bl i =>
    cases rx
    cases y with
    | non => cases ry; exact PySem.EqNone.eq_bool_none (fin_bl I q (by simp))
    | bl j => cases ry; exact eq_bool (fin_bl I q dec_bl)
    | str j => obtain ⟨t', rfl⟩ := ry; exact PySem.EqMixed.eq_bool_str (fin_bl I q (by simp))
    | _ => exact absurd (show false = true from hs) Bool.false_ne_true
  | int i =>
    obtain ⟨t, rfl⟩ := rx
    cases y with
    | non => cases ry; exact PySem.EqNone.eq_int_none (fin_bl I q (by simp))
    | int j => obtain ⟨t', rfl⟩ := ry; exact eq_int (fin_bl I q dec_int)
    | str j => obtain ⟨t', rfl⟩ := ry; exact PySem.EqMixed.eq_int_str (fin_bl I q (by simp))
    | _ => exact absurd (show false = true from hs) Bool.false_ne_true
  | str i =>
    obtain ⟨t, rfl⟩ := rx
    cases y with
    | non => cases ry; exact PySem.EqNone.eq_str_none (fin_bl I q (by simp))
    | bl j => cases ry; exact PySem.EqMixed.eq_str_bool (fin_bl I q (by simp))
    | int j => obtain ⟨t', rfl⟩ := ry; exact PySem.EqMixed.eq_str_int (fin_bl I q (by simp))
    | str j => obtain ⟨t', rfl⟩ := ry; exact eq_str (fin_bl I q dec_str)
    | _ => exact absurd (show false = true from hs) Bool.false_ne_true
  | byt i =>
    obtain ⟨t, rfl⟩ := rx
    cases y with
    | byt j => obtain ⟨t', rfl⟩ := ry; exact PySem.W.eq_bytes (fin_bl I q dec_byt)
    | _ => exact absurd (show false = true from hs) Bool.false_ne_true
  | _ => cases y <;> exact absurd (show false = true from hs) Bool.false_ne_true
theorem op_ne : OpR X (compareOp .NotEq) rNe := by
  intro pins s σ H x y v u Q I rx ry h
  obtain ⟨hs, q⟩ := h
  cases x with
  | non =>
    cases rx
    cases y with
    | non => cases ry; exact PySem.EqNone.ne_none_none (fin_bl I q (by simp))
    | bl j => cases ry; exact PySem.EqNone.ne_none_bool (fin_bl I q (by simp))
    | int j => obtain ⟨t', rfl⟩ := ry; exact PySem.EqNone.ne_none_int (fin_bl I q (by simp))
    | str j => obtain ⟨t', rfl⟩ := ry; exact PySem.EqNone.ne_none_str (fin_bl I q (by simp))
    | _ => exact absurd (show false = true from hs) Bool.false_ne_true
  | bl i =>
    cases rx
    cases y with
    | non => cases ry; exact PySem.EqNone.ne_bool_none (fin_bl I q (by simp))
    | bl j => cases ry; exact ne_bool (fin_bl I q (congrArg not dec_bl))
    | str j => obtain ⟨t', rfl⟩ := ry; exact PySem.EqMixed.ne_bool_str (fin_bl I q (by simp))
    | _ => exact absurd (show false = true from hs) Bool.false_ne_true
  | int i =>
    obtain ⟨t, rfl⟩ := rx
    cases y with
    | non => cases ry; exact PySem.EqNone.ne_int_none (fin_bl I q (by simp))
    | int j => obtain ⟨t', rfl⟩ := ry; exact ne_int (fin_bl I q (congrArg not dec_int))
    | str j => obtain ⟨t', rfl⟩ := ry; exact PySem.EqMixed.ne_int_str (fin_bl I q (by simp))
    | _ => exact absurd (show false = true from hs) Bool.false_ne_true
  | str i =>
    obtain ⟨t, rfl⟩ := rx
    cases y with
    | non => cases ry; exact PySem.EqNone.ne_str_none (fin_bl I q (by simp))
    | bl j => cases ry; exact PySem.EqMixed.ne_str_bool (fin_bl I q (by simp))
    | int j => obtain ⟨t', rfl⟩ := ry; exact PySem.EqMixed.ne_str_int (fin_bl I q (by simp))
    | str j => obtain ⟨t', rfl⟩ := ry; exact ne_str (fin_bl I q (congrArg not dec_str))
    | _ => exact absurd (show false = true from hs) Bool.false_ne_true
  | byt i =>
    obtain ⟨t, rfl⟩ := rx
    cases y with
    | byt j => obtain ⟨t', rfl⟩ := ry; exact PySem.W.ne_bytes (fin_bl I q (congrArg not dec_byt))
    | _ => exact absurd (show false = true from hs) Bool.false_ne_true
  | _ => cases y <;> exact absurd (show false = true from hs) Bool.false_ne_true
theorem op_lt : OpR X (compareOp .Lt) (rI0 fun i j => .bl (decide (i < j))) := opB0 fun _ _ _ _ _ _ _ q => lt_int q
theorem op_le : OpR X (compareOp .LtE) (rI0 fun i j => .bl (decide (i ≤ j))) := opB0 fun _ _ _ _ _ _ _ q => le_int q
theorem op_gt : OpR X (compareOp .Gt) (rI0 fun i j => .bl (decide (j < i))) := opB0 fun _ _ _ _ _ _ _ q => gt_int q
theorem op_ge : OpR X (compareOp .GtE) (rI0 fun i j => .bl (decide (j ≤ i))) := opB0 fun _ _ _ _ _ _ _ q => ge_int q
theorem op_isN : OpR X (compareOp .Is) (fun x y H Q => y = .non ∧ Q (.bl (decide (x = .non))) H) := by
  intro pins s σ H x y v u Q I rx ry h
  obtain ⟨rfl, q⟩ := h
  cases ry
  refine is_none_gen (fin_bl I q ?_)
  cases x <;> first
    | (cases rx; rfl)
    | (obtain ⟨t, rfl⟩ := rx; rfl)
theorem op_notN : OpR X (compareOp .IsNot) (fun x y H Q => y = .non ∧ Q (.bl (!decide (x = .non))) H) := by
  intro pins s σ H x y v u Q I rx ry h
  obtain ⟨rfl, q⟩ := h
  cases ry
  refine isnot_none_gen (fin_bl I q ?_)
  cases x <;> first
    | (cases rx; rfl)
    | (obtain ⟨t, rfl⟩ := rx; rfl)
def isObj : HO → Bool
  | .lst _ => true
  | .ins _ _ _ => true
  | _ => false
theorem OpR.or {f : Value → Value → Sem Value} {r r' : R2} (h : OpR X f r) (h' : OpR X f r') : OpR X f (fun x y H Q => r x y H Q ∨ r' x y H Q) := by
  intro pins s σ H x y v u Q I rx ry q
  rcases q with q | q
  · exact h pins s σ H x y v u Q I rx ry q
  · exact h' pins s σ H x y v u Q I rx ry q
theorem nomark (b : Expr) {op : CmpOp} (h : op ≠ .In := by decide) (h2 : op ≠ .NotIn := by decide) : behindInMarks op b = false := by
  have e1 : (op == CmpOp.In) = false := by cases op <;> first | rfl | exact absurd rfl h
  have e2 : (op == CmpOp.NotIn) = false := by cases op <;> first | rfl | exact absurd rfl h2
  cases b <;> simp [behindInMarks, e1, e2]
theorem pe_cmpR {op : CmpOp} {r : R2} (ho : OpR X (compareOp op) r) (ha : PE X a ta) (hb : PE X b tb) (hm : behindInMarks op b = false) : PE X (.Compare a [op] [b] pos) (tOp r ta tb) := by
  intro pins s σ H Q I h
  exact wpAny_Compare1 (binT ha hb I h fun v u s2 x y H2 I2 rx ry q => ho pins s2 σ H2 x y v u Q I2 rx ry q) hm
def tTest (t : TE) : TT := fun σ H Q => t σ H fun x H' => ∃ k, x = .bl k ∧ Q k H'
theorem pt_cmpR {op : CmpOp} {r : R2} (ho : OpR X (compareOp op) r) (ha : PE X a ta) (hb : PE X b tb) (hm : behindInMarks op b = false) : PT X (.Compare a [op] [b] pos) (tTest (tOp r ta tb)) := by
  intro pins s σ H Q I h
  refine wpAny_isTrue_Compare1 (thn (ha pins s σ H _ I h) fun v s1 ⟨x, H1, I1, r1, q1⟩ => thn (hb pins s1 σ H1 _ I1 q1) fun u s2 ⟨y, H2, I2, r2, q2⟩ =>
    thn (ho pins s2 σ H2 x y v u _ I2 r1 r2 q2) fun c s3 ⟨z, H3, I3, r3, k, e, q3⟩ => ?_) hm
  subst e
  cases r3
  exact wpAny_truthy_bool ⟨H3, I3, q3⟩
def tChain (r r' : R2) (ta tb tc : TE) : TE := fun σ H Q => ta σ H fun x H1 => tb σ H1 fun y H2 => r x y H2 fun z H3 => ∃ k, z = .bl k ∧
  (if k = true then tc σ H3 fun w' H4 => r' y w' H4 Q else Q (.bl false) H3)
theorem pt_chain {op op' : CmpOp} {r r' : R2} (ho : OpR X (compareOp op) r) (ho' : OpR X (compareOp op') r') (ha : PE X a ta) (hb : PE X b tb) (hc : PE X c tc)
    (hm : lastMarks [op, op'] [b, c] = false := by with_unfolding_all rfl) : PT X (.Compare a [op, op'] [b, c] pos) (tTest (tChain r r' ta tb tc)) := by
  intro pins s σ H Q I h
  refine isTrue_chain (thn (ha pins s σ H _ I h) fun v s1 ⟨x, H1, I1, r1, q1⟩ => test_link (thn (hb pins s1 σ H1 _ I1 q1) fun u s2 ⟨y, H2, I2, r2, q2⟩ =>
    thn (ho pins s2 σ H2 x y v u _ I2 r1 r2 q2) fun d s3 ⟨z, H3, I3, r3, k, e, q3⟩ => ?_)) hm
  subst e
  cases r3
  refine wpAny_truthy_bool ?_
  cases k with
  | false =>
    obtain ⟨k', e', q'⟩ := q3
    cases e'
    exact ite_ff ⟨H3, I3, q'⟩
  | true =>
    refine ite_tt (test_last (thn (hc pins s3 σ H3 _ I3 q3) fun w' s4 ⟨z', H4, I4, r4, q4⟩ => thn (ho' pins s4 σ H4 y z' u w' _ I4 r2 r4 q4) fun d' s5 ⟨z2, H5, I5, r5, k2, e2, q5⟩ => ?_))
    subst e2
    cases r5
    exact wpAny_truthy_bool ⟨H5, I5, q5⟩
def TruV (K : PySem.W.Frag) (x : V) (H : Hp) (k : Bool) : Prop :=
  match x with
  | .non => k = false
  | .bl b => k = b
  | .int i => k = (i != 0)
  | .str y => y.length ≤ sizeLine ∧ k = ((y.length : Int) != 0)
  | .byt y => y.size ≤ sizeLine ∧ k = ((y.size : Int) != 0)
  | .ref p => (∃ xs, SqL K H p xs ∧ k = !xs.isEmpty) ∨ (∃ xs, SqT K H p xs ∧ k = !xs.isEmpty) ∨ ∃ kvs, H p = some (.dK kvs) ∧ k = !kvs.isEmpty
  | _ => False
theorem line63 : (sizeLine : Nat) < 2 ^ 63 := by rw [sizeLine_eq]; decide
def PlainIxT (b : Expr) : Prop := ∀ o i, subscripted b false o i = operate [o, i] (getItem o i)
theorem vals1 {x : V} {us : List Value} (r : Vals [x] us) : ∃ u, us = [u] ∧ RelV x u := by
  cases r with
  | cons r1 r2 => cases r2; exact ⟨_, rfl, r1⟩
theorem vals2 {x y : V} {us : List Value} (r : Vals [x, y] us) : ∃ u w', us = [u, w'] ∧ RelV x u ∧ RelV y w' := by
  cases r with
  | cons r1 r2 =>
    cases r2 with
    | cons r3 r4 => cases r4; exact ⟨_, _, rfl, r1, r3⟩
theorem call_max2 (hc : X.calm = true) : CallR X (.builtin "max") (fun xs H Q => ∃ i j, xs = [.int i, .int j] ∧ Q (.int (if j > i then j else i)) H) := by
  intro pins s σ H xs us Q I r h
  obtain ⟨i, j, rfl, q⟩ := h
  obtain ⟨u, w', rfl, ⟨t, rfl⟩, ⟨t', rfl⟩⟩ := vals2 r
  refine max_two_ints (I.ok.hd hc) fun h' tk k => ⟨_, H, I.kept k, ?_, q⟩
  by_cases hj : j > i
  · rw [if_pos hj, if_pos hj]; exact ⟨_, rfl⟩
  · rw [if_neg hj, if_neg hj]; exact ⟨_, rfl⟩
theorem call_min2 (hc : X.calm = true) : CallR X (.builtin "min") (fun xs H Q => ∃ i j, xs = [.int i, .int j] ∧ Q (.int (if j < i then j else i)) H) := by
  intro pins s σ H xs us Q I r h
  obtain ⟨i, j, rfl, q⟩ := h
  obtain ⟨u, w', rfl, ⟨t, rfl⟩, ⟨t', rfl⟩⟩ := vals2 r
  refine min_two_ints (I.ok.hd hc) fun h' tk k => ⟨_, H, I.kept k, ?_, q⟩
  by_cases hj : j < i
  · rw [if_pos hj, if_pos hj]; exact ⟨_, rfl⟩
  · rw [if_neg hj, if_neg hj]; exact ⟨_, rfl⟩
def LenV (K : PySem.W.Frag) (x : V) (H : Hp) (n : Nat) : Prop :=
  match x with
  | .str y => y.length ≤ sizeLine ∧ n = y.length
  | .byt y => y.size ≤ sizeLine ∧ n = y.size
  | .ref p => (∃ xs, SqL K H p xs ∧ n = xs.length) ∨ ∃ xs, SqT K H p xs ∧ n = xs.length
  | _ => False
end
end L2
namespace L2
open PySem PySem.Spec PyProof.Rows
structure ObjM (h : Heap) (x dx C : Addr) (mA : Str → Option Value) : Prop where
  obj : h.get? x = some (PySem.W.instObj C dx)
  ns : h.Ns1 dx mA
  ne : dx ≠ x
theorem lookIn_ns {h : Heap} {dx : Addr} {mA : Str → Option Value} (n : h.Ns1 dx mA) : ∃ od, h.get? dx = some od ∧ ∀ name, PySem.W.lookIn name od = some (mA name) := by
  obtain ⟨o, es, ep, ho, hd, hk, _, hm⟩ := n
  refine ⟨o, ho, fun name => ?_⟩
  have e := hm name
  unfold nsFind findBy at e
  rw [← Array.find?_toList] at e
  unfold PySem.W.lookIn
  rw [hd]
  dsimp only
  split
  · rename_i y q
    rw [q] at e
    exact congrArg some e
  · rename_i q
    rw [q] at e
    have a : es.toList.any (·.refKey) = false := by
      rw [List.any_eq_false]
      intro y hy
      obtain ⟨z, t, hkey⟩ := hk y (Array.mem_toList_iff.mp hy)
      simp [DictEntry.refKey, hkey]
    have a' : ¬ es.toList.any (·.refKey) = true := by rw [a]; exact Bool.false_ne_true
    rw [if_neg a']
    exact congrArg some e
theorem ObjM.look {h : Heap} {x dx C : Addr} {mA : Str → Option Value} (I : ObjM h x dx C mA) : ∃ od, PySem.W.InstAt h x (PySem.W.instObj C dx) C (some od) ∧ ∀ name, PySem.W.lookIn name od = some (mA name) :=
  let ⟨od, ho, hl⟩ := lookIn_ns I.ns
  ⟨od, ⟨I.obj, rfl, rfl, ho⟩, hl⟩
section
variable {prog : Program} {w : World} {A : Around} {E : Value → Shared → Prop} {s : Shared} {K : PySem.W.Frag} {x dx C f : Addr} {mA : Str → Option Value} {name : Str} {v : Value}
theorem get_map {expr : Bool} {Q : Value → Shared → Prop} (X : K.In s.heap) (I : ObjM s.heap x dx C mA) (hg : PySem.W.plainGet K C name = true) (hh : PySem.W.hasDictIn K C = true)
    (ha : PySem.W.findIn K (.ref C) name = some none) (hv : mA name = some v) (hv' : PySem.W.handedIn v = true) (h : Q v { s with toks := s.toks + 1 }) :
    wpAny (model prog w) A (getAttr (.ref x) name expr) Q E s := by
  obtain ⟨od, J, hl⟩ := I.look
  exact PySem.W.get_value X J (PySem.W.plainGet_of hg).1 (PySem.W.findObj_own hh ha rfl (by rw [hl, hv])) hv' h
theorem get_meth {pl : Sem Bool} {Q : Value × List Value → Shared → Prop} (X : K.In s.heap) (I : ObjM s.heap x dx C mA) (hg : PySem.W.plainGet K C name = true)
    (hf : PySem.W.findIn K (.ref C) name = some (some (.ref f))) (ht : PySem.W.isFn K (.ref f) = true) (hv : mA name = none) (h : Q (.ref f, [.ref x]) s) :
    wpAny (model prog w) A (getMethod (.ref x) name pl) Q E s := by
  obtain ⟨od, J, hl⟩ := I.look
  exact PySem.W.method_fn X J (PySem.W.plainGet_of hg).1 (PySem.W.plainGet_of hg).2 hf (beq_iff_eq.mp ht) (by show (PySem.W.lookIn name od).map (·.isSome) = some false; rw [hl, hv]; rfl) h
theorem set_map {ns : List Str} {Q : Unit → Shared → Prop} (X : K.In s.heap) (I : ObjM s.heap x dx C mA)
    (hs : PySem.W.findIn K (.ref C) "__setattr__" = some (some (.builtin "object.__setattr__"))) (hp : PySem.W.plainOver K C = true) (ht : PySem.W.takerIn K C name = some none) (hh : PySem.W.hasDictIn K C = true)
    (hw : PySem.Within mA ns) (hsz : ns.length ≤ sizeLine)
    (h : ∀ h', ObjM h' x dx C (fun y => if y = name then some v else mA y) → Heap.SameBut dx s.heap h' → Q () { s with heap := h', toks := s.toks + 2 }) :
    wpAny (model prog w) A (setAttr (.ref x) name v) Q E s := by
  obtain ⟨od, J, hl⟩ := I.look
  refine PySem.W.set_plain X J hs (PySem.W.osa_open (s := { s with toks := s.toks + 1 }) (r := none) X J hp ht fun b => ?_)
  obtain ⟨cd, hc, hd'⟩ := PySem.W.any_some hh
  have hx : s.heap.get? x = some ⟨.ref C, some dx, .plain, #[]⟩ := I.obj
  refine wpAny_bind (wpAny_pure (wpAny_bind (wpAny_bind (wpAny_loadPart hx (wpAny_bind (PySem.W.Looks.here (s := { s with toks := s.toks + 1 }) (PySem.W.looks_clsIn X hc) ?_))))))
  rw [hd']
  refine wpAny_pure (a := some dx) (wpAny_bind (wpAny_pure (wpAny_bind ?_)))
  refine wpAny_nsSet1 (s := { s with toks := s.toks + 1 }) I.ns fun h' hn2 hs2 => ?_
  obtain ⟨oD, esD, epD, hoD, hdD, hcD⟩ := hn2.count (PySem.Within.cons name v hw)
  refine wpAny_bind (wpAny_lookBehind hoD (by rw [hdD]; exact pastItsLine_dict (Nat.le_trans hcD (by rw [List.length_cons]; omega))) ?_)
  exact wpAny_pure (h _ ⟨(hs2.2 _ (Ne.symm I.ne)).trans I.obj, hn2, I.ne⟩ hs2)
theorem make_map {R : Result → Shared → Prop} {vs : List Value} {kw : List (Str × Value)} (X : K.In s.heap) (hm : PySem.W.makesIn K C = true)
    (hi : PySem.W.findIn K (.ref C) "__init__" = some (some (.ref f))) (hf : PySem.W.typeIn K (.ref f) = some (.type "function"))
    (h : codeAny (model prog w) (A.under (.builtin "type.__call__" ⟨.ref C :: vs, kw⟩)) (.call (.ref f) ⟨.ref (s.heap.objs.size + 1) :: vs, kw⟩) (PySem.W.InitBack (s.heap.objs.size + 1) R)
      { s with heap := (s.heap.push PySem.W.emptyDict).push (PySem.W.instObj C s.heap.objs.size) }) :
    codeAny (model prog w) A (.call (.ref C) ⟨vs, kw⟩) R s := by
  obtain ⟨hh, g, d, t, os⟩ := s
  exact PySem.W.make_core (PySem.W.makes_of X hm) (PySem.W.looks_findIn X hi) (fun self => PySem.W.bind_fn X self hf) (.inl rfl) h
end
def putF (f : Str) (v : V) : List (Str × V) → List (Str × V)
  | [] => [(f, v)]
  | (g, x) :: r => if g = f then (g, v) :: r else (g, x) :: putF f v r
theorem lookup_putF (f g : Str) (v : V) : ∀ fs : List (Str × V), (putF f v fs).lookup g = if g = f then some v else fs.lookup g
  | [] => by
    show List.lookup g [(f, v)] = _
    by_cases h : g = f
    · have hb : (g == f) = true := beq_iff_eq.mpr h
      simp only [List.lookup, hb, if_pos h]
    · have hb : (g == f) = false := beq_eq_false_iff_ne.mpr h
      simp only [List.lookup, hb, if_neg h]
  | (k, x) :: r => by
    have ih := lookup_putF f g v r
    rw [show putF f v ((k, x) :: r) = (if k = f then (k, v) :: r else (k, x) :: putF f v r) from rfl]
    by_cases hk : k = f
    · rw [if_pos hk]
      by_cases h : g = k
      · have hb : (g == k) = true := beq_iff_eq.mpr h
        simp only [List.lookup, hb, if_pos (h.trans hk)]
      · have hb : (g == k) = false := beq_eq_false_iff_ne.mpr h
        simp only [List.lookup, hb, if_neg (fun e : g = f => h (e.trans hk.symm))]
    · rw [if_neg hk]
      by_cases h : g = k
      · have hb : (g == k) = true := beq_iff_eq.mpr h
        simp only [List.lookup, hb, if_neg (fun e : g = f => hk (h.symm.trans e))]
      · have hb : (g == k) = false := beq_eq_false_iff_ne.mpr h
        simp only [List.lookup, hb]
        exact ih
theorem keys_putF (f : Str) (v : V) : ∀ fs : List (Str × V), f ∈ (putF f v fs).map (·.1) ∧ ∀ g, g ∈ fs.map (·.1) → g ∈ (putF f v fs).map (·.1)
  | [] => ⟨by simp [putF], fun g h => by simp at h⟩
  | (k, x) :: r => by
    obtain ⟨i1, i2⟩ := keys_putF f v r
    rw [show putF f v ((k, x) :: r) = (if k = f then (k, v) :: r else (k, x) :: putF f v r) from rfl]
    by_cases hk : k = f
    · rw [if_pos hk]
      subst hk
      exact ⟨by simp, fun g h => by simpa using h⟩
    · rw [if_neg hk]
      refine ⟨?_, fun g h => ?_⟩
      · rw [List.map_cons]
        exact List.mem_cons_of_mem _ i1
      · rw [List.map_cons] at h ⊢
        rcases List.mem_cons.mp h with e | e
        · exact List.mem_cons.mpr (.inl e)
        · exact List.mem_cons_of_mem _ (i2 g e)
theorem length_putF (f : Str) (v : V) : ∀ fs : List (Str × V), (putF f v fs).length ≤ fs.length + 1
  | [] => by simp [putF]
  | (k, x) :: r => by
    have ih := length_putF f v r
    rw [show putF f v ((k, x) :: r) = (if k = f then (k, v) :: r else (k, x) :: putF f v r) from rfl]
    by_cases hk : k = f
    · rw [if_pos hk, List.length_cons, List.length_cons]; omega
    · rw [if_neg hk, List.length_cons, List.length_cons]; omega
theorem RelO.some_of {v : V} {o : Option Value} (r : RelO (some v) o) : ∃ u, o = some u ∧ RelV v u := by
  cases o with
  | none => exact (show False from r).elim
  | some u => exact ⟨u, rfl, r⟩
theorem RelO.none_of {o : Option Value} (r : RelO none o) : o = none := by
  cases o with
  | none => rfl
  | some u => exact (show False from r).elim
theorem handed_of {v : V} {u : Value} (r : RelV v u) : PySem.W.handedIn u = true := by
  cases v with
  | non => cases (show u = Value.none from r); rfl
  | bl b => cases (show u = Value.bool b from r); rfl
  | int i => obtain ⟨t, e⟩ := (show ∃ t, u = Value.int i t from r); cases e; rfl
  | str x => obtain ⟨t, e⟩ := (show ∃ t, u = Value.str x t from r); cases e; rfl
  | byt b => obtain ⟨t, e⟩ := (show ∃ t, u = Value.bytes b t from r); cases e; rfl
  | flt b => obtain ⟨t, e⟩ := (show ∃ t, u = Value.float b t from r); cases e; rfl
  | ref a => cases (show u = Value.ref a from r); rfl
  | ty n => cases (show u = Value.type n from r); rfl
section
variable {P : Program} {w : World} {H H' : Hp} {h h' : Heap} {a C dx : Addr} {fs fs' : List (Str × V)}
theorem ins_get (hok : HOk P w H h) (e : H a = some (.ins C dx fs)) : ∃ mA, ObjM h a dx C mA ∧ (∀ f, RelO (fs.lookup f) (mA f)) ∧ PySem.Within mA (fs.map (·.1)) ∧ fs.length ≤ 1000 ∧ H dx = some (.own a) := by
  obtain ⟨d, z, ne, ob, mA, n, r, q⟩ := (show ObjOk P w H h a (.ins C dx fs) from hok a _ e)
  exact ⟨mA, ⟨ob, n, ne⟩, r, q, z, d⟩
end
structure Cls (K : PySem.W.Frag) (C : Addr) : Prop where
  pg : PySem.W.plainGet K C Str.empty = true
  hd : PySem.W.hasDictIn K C = true
  po : PySem.W.plainOver K C = true
  sa : PySem.W.findIn K (.ref C) "__setattr__" = some (some (.builtin "object.__setattr__"))
theorem Cls.get {K : PySem.W.Frag} {C : Addr} (c : Cls K C) (f : Str) : PySem.W.plainGet K C f = true := c.pg
def NoAttr (K : PySem.W.Frag) (C : Addr) (f : Str) : Prop := PySem.W.findIn K (.ref C) f = some none
theorem NoAttr.taker {K : PySem.W.Frag} {C : Addr} {f : Str} (n : NoAttr K C f) : PySem.W.takerIn K C f = some none := by
  unfold PySem.W.takerIn
  rw [show PySem.W.findIn K (.ref C) f = some none from n]
  rfl
structure Con (K : PySem.W.Frag) (C : Addr) (f : Str) (v : V) (u : Value) : Prop where
  at_ : PySem.W.findIn K (.ref C) f = some (some u)
  rel : RelV v u
  get : PySem.W.specialIn K u "__get__" = some none
  cp : PySem.W.copiedNames.contains f = false
structure Meth (K : PySem.W.Frag) (C : Addr) (m : Str) (f : Addr) : Prop where
  at_ : PySem.W.findIn K (.ref C) m = some (some (.ref f))
  fn : PySem.W.isFn K (.ref f) = true
  kp : PySem.W.keepIn K (.ref f) = true
section
variable {X : Cx} {pins : List (Addr × Obj)} {σ : St} {H : Hp} {s : Shared} {a C dx : Addr} {fs : List (Str × V)} {f : Str} {v : V} {A : Around} {E : Value → Shared → Prop}
theorem getattr_ok {b : Bool} {Q : Value → Shared → Prop} (I : Inv X pins σ H s) (e : H a = some (.ins C dx fs)) (c : Cls X.K C) (n : NoAttr X.K C f) (l : fs.lookup f = some v)
    (h : ∀ u s', Inv X pins σ H s' → RelV v u → Q u s') : wpAny (model X.prog X.w) A (getAttr (.ref a) f b) Q E s := by
  obtain ⟨mA, O, r, _, _, _⟩ := ins_get I.hok e
  obtain ⟨u, hu, ru⟩ := RelO.some_of (v := v) (o := mA f) (by rw [← l]; exact r f)
  exact get_map I.kIn O (c.get f) c.hd n hu (handed_of ru) (h u _ (I.tok _) ru)
theorem getmeth_ok {m : Str} {g : Addr} {pl : Sem Bool} {Q : Value × List Value → Shared → Prop} (I : Inv X pins σ H s) (e : H a = some (.ins C dx fs)) (c : Cls X.K C) (k : Meth X.K C m g) (l : fs.lookup m = none)
    (h : Q (.ref g, [.ref a]) s) : wpAny (model X.prog X.w) A (getMethod (.ref a) m pl) Q E s := by
  obtain ⟨mA, O, r, _, _, _⟩ := ins_get I.hok e
  have hn : mA m = none := RelO.none_of (by rw [← l]; exact r m)
  exact get_meth I.kIn O (c.get m) k.at_ k.fn hn h
theorem setattr_ok {y : V} {u : Value} {Q : Unit → Shared → Prop} (I : Inv X pins σ H s) (e : H a = some (.ins C dx fs)) (c : Cls X.K C) (n : NoAttr X.K C f) (hl : fs.length < 1000) (ry : RelV y u)
    (h : ∀ s', Inv X pins σ (upd H a (.ins C dx (putF f y fs))) s' → Q () s') : wpAny (model X.prog X.w) A (setAttr (.ref a) f u) Q E s := by
  obtain ⟨mA, O, r, wi, _, ho⟩ := ins_get I.hok e
  have hz : (fs.map (·.1)).length ≤ sizeLine := by rw [List.length_map, sizeLine_eq]; omega
  refine set_map I.kIn O c.sa c.po n.taker c.hd wi hz fun h' O' sb => h _ ?_
  have hd : ∃ o, h'.get? dx = some o := let ⟨o, _, _, e', _⟩ := O'.ns; ⟨o, e'⟩
  refine I.write (x := a) (e := dx) (by rw [e]; exact True.intro) (.inr ho) (fun b q hb z => (sb.2 b hb).trans z) hd ?_
  refine ⟨by rw [upd_ne O.ne]; exact ho, ?_, O.ne, O'.obj, _, O'.ns, fun g => ?_, fun g hg => ?_⟩
  · have := length_putF f y fs; omega
  · show RelO ((putF f y fs).lookup g) (if g = f then some u else mA g)
    rw [lookup_putF]
    by_cases q : g = f
    · rw [if_pos q, if_pos q]; exact ry
    · rw [if_neg q, if_neg q]; exact r g
  · by_cases q : g = f
    · rw [q]; exact (keys_putF f y fs).1
    · refine (keys_putF f y fs).2 g (wi g fun z => hg ?_)
      show (if g = f then some u else mA g) = none
      rw [if_neg q]; exact z
theorem Inv.made (I : Inv X pins σ H s) : Inv X pins σ (upd (upd H s.heap.objs.size (.own (s.heap.objs.size + 1))) (s.heap.objs.size + 1) (.ins C s.heap.objs.size []))
    { s with heap := (s.heap.push PySem.W.emptyDict).push (PySem.W.instObj C s.heap.objs.size) } := by
  have e1 : (s.heap.push PySem.W.emptyDict).get? s.heap.objs.size = some PySem.W.emptyDict := Heap.get?_push_size s.heap rfl
  have e2 : ((s.heap.push PySem.W.emptyDict).push (PySem.W.instObj C s.heap.objs.size)).get? (s.heap.objs.size + 1) = some (PySem.W.instObj C s.heap.objs.size) := by
    have := Heap.get?_push_size (s.heap.push PySem.W.emptyDict) (o := PySem.W.instObj C s.heap.objs.size) rfl
    rwa [Heap.size_push] at this
  have e3 : (s.heap.push PySem.W.emptyDict).Ns s.heap.objs.size (fun _ => none) := ⟨PySem.W.emptyDict, #[], _, e1, rfl, (fun e he => absurd he (by simp)), fun _ => rfl⟩
  have I1 := I.laid (a := s.heap.objs.size) (o := .own (s.heap.objs.size + 1)) (h' := s.heap.push PySem.W.emptyDict) (t' := s.toks) (fun b u q => Heap.get?_push_of_some _ q) (Nat.le_refl _) ⟨_, e1⟩
  refine I1.laid (a := s.heap.objs.size + 1) (o := .ins C s.heap.objs.size []) (t' := s.toks) (fun b u q => Heap.get?_push_of_some _ q) (Nat.le_of_eq (Heap.size_push _ _)) ?_
  have ne : s.heap.objs.size ≠ s.heap.objs.size + 1 := Nat.ne_of_lt (Nat.lt_succ_self _)
  refine ⟨by rw [upd_ne ne, upd_same], Nat.zero_le _, ne, e2, fun _ => none, (Heap.Ns1.of_empty e3).at fun o q => Heap.get?_push_of_some _ q, fun _ => True.intro, fun y hy => absurd rfl hy⟩
theorem attr_of {prog : Program} {w : World} {env : Env} {e : Expr} {f : Str} {pos : Pos} {s : Shared} {Q : Value → Shared → Prop} (hb : attributeBase e f env (eval e env) = eval e env)
    (h : wpAny (model prog w) A (eval e env) (fun o s₁ => wpAny (model prog w) A (getAttr o f true) Q E s₁) E s) : wpAny (model prog w) A (eval (.Attribute e f pos) env) Q E s :=
  Attribute_any_ h (by rw [arm_eval_Attribute, hb])
end
def tFld (K : PySem.W.Frag) (ta : TE) (f : Str) : TE := fun σ H Q => ta σ H fun x H1 => ∃ a C dx fs v, x = .ref a ∧ H1 a = some (.ins C dx fs) ∧ Cls K C ∧ NoAttr K C f ∧ fs.lookup f = some v ∧ Q v H1
def tCon (K : PySem.W.Frag) (ta : TE) (f : Str) : TE := fun σ H Q => ta σ H fun x H1 => ∃ a C dx fs v u, x = .ref a ∧ H1 a = some (.ins C dx fs) ∧ Cls K C ∧ Con K C f v u ∧ fs.lookup f = none ∧ Q v H1
def sFld (K : PySem.W.Frag) (ta tv : TE) (f : Str) : TS := fun D σ H => tv σ H fun y H1 => ta σ H1 fun x H2 => ∃ a C dx fs, x = .ref a ∧ H2 a = some (.ins C dx fs) ∧ Cls K C ∧ NoAttr K C f ∧ fs.length < 1000 ∧
  D.nx σ (upd H2 a (.ins C dx (putF f y fs)))
def InOp (X : Cx) (op : Operator) (rd : V → V → Hp → VK → Prop) : Prop :=
  ∀ (pins : List (Addr × Obj)) (s : Shared) (σ : St) (H : Hp) (x y : V) (u v : Value) (Q : VK), Inv X pins σ H s → RelV x u → RelV y v → rd x y H Q → wpAny (model X.prog X.w) X.A (inplaceOp op u v) (EP X pins σ Q) X.xe s
def sFldAug (K : PySem.W.Frag) (ta tv : TE) (rd : V → V → Hp → VK → Prop) (f : Str) : TS := fun D σ H => ta σ H fun x H1 => ∃ a C dx fs v, x = .ref a ∧ H1 a = some (.ins C dx fs) ∧ Cls K C ∧ NoAttr K C f ∧ fs.lookup f = some v ∧
  tv σ H1 fun y H2 => rd v y H2 fun z H3 => ∃ dx' fs', H3 a = some (.ins C dx' fs') ∧ fs'.length < 1000 ∧ D.nx σ (upd H3 a (.ins C dx' (putF f z fs')))
section
variable {X : Cx} {o e value : Expr} {f : Str} {pos pos' tpos : Pos} {ta tv : TE}
theorem pe_fld (he : PE X e ta) (hb : attributeBase e f X.env (eval e X.env) = eval e X.env) : PE X (.Attribute e f pos) (tFld X.K ta f) := by
  intro pins s σ H Q I h
  refine attr_of hb (thn (he pins s σ H _ I h) fun u s1 ⟨x, H1, I1, rx, a, C, dx, fs, v, ex, ea, c, n, l, q⟩ => ?_)
  subst ex
  obtain rfl : u = Value.ref a := rx
  exact getattr_ok I1 ea c n l fun u' s2 I2 ru => ⟨v, H1, I2, ru, q⟩
theorem ps_fld (ha : PE X o ta) (hv : PE X value tv) (hs : swapsWith value (some (.Attribute o f pos')) pos.line X.env = pure false) : PS X (.Assign [.Attribute o f pos'] value pos) (sFld X.K ta tv f) := by
  intro pins s σ H D I h
  refine plainObj_wpAny_Assign_Attribute (thn (hv pins s σ H _ I h) fun u s1 ⟨y, H1, I1, ry, q⟩ => thn (ha pins s1 σ H1 _ I1 q) fun ov s2 ⟨x, H2, I2, rx, a, C, dx, fs, ex, ea, c, n, l, q2⟩ => ?_) hs
  subst ex
  obtain rfl : ov = Value.ref a := rx
  exact setattr_ok I2 ea c n l ry fun s3 I3 => ⟨σ, _, I3, q2⟩
def rAdd : V → V → Hp → VK → Prop := fun x y H Q => ∃ i j, x = .int i ∧ y = .int j ∧ Q (.int (i + j)) H
def rSub : V → V → Hp → VK → Prop := fun x y H Q => ∃ i j, x = .int i ∧ y = .int j ∧ Q (.int (i - j)) H
end
section
variable {X : Cx} {pins : List (Addr × Obj)} {σ : St} {H : Hp} {s : Shared} {A : Around} {E : Value → Shared → Prop} {Q : Value → Shared → Prop} {c : Value} {b : Bool}
inductive TyOf (K : PySem.W.Frag) (H : Hp) : V → Value → Prop where
  | non : TyOf K H .non (.type "NoneType")
  | bl (x : Bool) : TyOf K H (.bl x) (.type "bool")
  | int (i : Int) : TyOf K H (.int i) (.type "int")
  | str (x : Str) : TyOf K H (.str x) (.type "str")
  | flt (x : UInt64) : TyOf K H (.flt x) (.type "float")
  | lst {a : Addr} {xs : List V} (e : H a = some (.lst xs)) : TyOf K H (.ref a) (.type "list")
  | frz {a : Addr} {o : Obj} {xs : List V} (e : H a = some (.frz o (.lst xs))) : TyOf K H (.ref a) (.type "list")
  | tup {a : Addr} {xs : List V} (e : H a = some (.tup xs)) : TyOf K H (.ref a) (.type "tuple")
  | dK {a : Addr} {kvs : List (Key × V)} (e : H a = some (.dK kvs)) : TyOf K H (.ref a) (.type "dict")
  | dT {a : Addr} {kvs : List (List Key × V)} (e : H a = some (.dT kvs)) : TyOf K H (.ref a) (.type "dict")
  | ins {a C dx : Addr} {fs : List (Str × V)} (e : H a = some (.ins C dx fs)) (cl : Cls K C) (ha : PySem.W.findIn K (.ref C) "__class__" = some (some (.builtin "object.__class__")))
      (hn : PySem.W.specialIn K (.builtin "object.__class__") "__get__" = some (some (.builtin "getset_descriptor.__get__"))) (htk : PySem.W.takesIn K (.builtin "object.__class__") = some true)
      (hm : PySem.W.mroIn K C (.type "object") = some true) : TyOf K H (.ref a) (.ref C)
theorem isinst_ok {x : V} {u t : Value} (I : Inv X pins σ H s) (rx : RelV x u) (ty : TyOf X.K H x t) (e : PySem.W.kitOne X.K t c = some b) (h : ∀ tk, Q (.bool b) { s with toks := tk }) :
    wpAny (model X.prog X.w) A (call (.builtin "isinstance") [u, c]) Q E s := by
  cases ty with
  | non => cases (show u = Value.none from rx); exact PySem.W.kia_one PySem.W.kitx_none I.kIn True.intro e (fun z => nomatch z) h
  | bl y => cases (show u = Value.bool y from rx); exact PySem.W.kia_one PySem.W.kitx_bool I.kIn True.intro e (fun z => nomatch z) h
  | int i => obtain ⟨t, q⟩ := (show ∃ t, u = Value.int i t from rx); cases q; exact PySem.W.kia_one PySem.W.kitx_int I.kIn True.intro e (fun z => nomatch z) h
  | str y => obtain ⟨t, q⟩ := (show ∃ t, u = Value.str y t from rx); cases q; exact PySem.W.kia_one PySem.W.kitx_str I.kIn True.intro e (fun z => nomatch z) h
  | flt y => obtain ⟨t, q⟩ := (show ∃ t, u = Value.float y t from rx); cases q; exact PySem.W.kia_one PySem.W.kitx_float I.kIn True.intro e (fun z => nomatch z) h
  | @lst a xs ea =>
    cases (show u = Value.ref a from rx)
    obtain ⟨_, _, n, _, h1⟩ := (show ObjOk X.prog X.w H s.heap a (.lst xs) from I.hok a _ ea)
    exact PySem.W.kia_one PySem.W.kitx_list I.kIn ⟨_, h1, rfl⟩ e (fun z => nomatch z) h
  | @frz a ob xs ea =>
    cases (show u = Value.ref a from rx)
    obtain ⟨_, _, _, n, _, h1⟩ := (show ObjOk X.prog X.w H s.heap a (.frz ob (.lst xs)) from I.hok a _ ea)
    exact PySem.W.kia_one PySem.W.kitx_list I.kIn ⟨_, h1, rfl⟩ e (fun z => nomatch z) h
  | @tup a xs ea =>
    cases (show u = Value.ref a from rx)
    obtain ⟨_, _, _, p⟩ := (show ObjOk X.prog X.w H s.heap a (.tup xs) from I.hok a _ ea)
    obtain ⟨o, h1, h2, _⟩ := p
    exact PySem.W.kia_one PySem.W.kitx_tuple I.kIn ⟨o, h1, h2⟩ e (fun z => nomatch z) h
  | @dK a kvs ea =>
    cases (show u = Value.ref a from rx)
    obtain ⟨_, _, vs, _, p⟩ := (show ObjOk X.prog X.w H s.heap a (.dK kvs) from I.hok a _ ea)
    obtain ⟨o, es, ep, h1, h2, _⟩ := p
    exact PySem.W.kia_one PySem.W.kitx_dict I.kIn ⟨o, h1, h2.1⟩ e (fun z => nomatch z) h
  | @dT a kvs ea =>
    cases (show u = Value.ref a from rx)
    obtain ⟨_, _, xs, _, o, es, ep, h1, h2, _⟩ := (show ObjOk X.prog X.w H s.heap a (.dT kvs) from I.hok a _ ea)
    exact PySem.W.kia_one PySem.W.kitx_dict I.kIn ⟨o, h1, h2.1⟩ e (fun z => nomatch z) h
  | @ins a C dx fs ea cl ha hn htk hm =>
    cases (show u = Value.ref a from rx)
    obtain ⟨mA, O, _⟩ := ins_get I.hok ea
    obtain ⟨od, J, _⟩ := O.look
    exact PySem.W.kia_one (PySem.W.kitx_own (cl.get _) cl.hd ha hn htk hm) I.kIn J e (fun z => nomatch z) h
end
end L2
namespace L2
open PySem PySem.Spec PyProof.Rows
structure Room (k : Nat) (A : Around) : Prop where
  hd : A.handled = none
  dp : A.depth + 3 * k + 5 < recursionLimit
  un : A.units + 16 * k + 200 < cLine
theorem Room.mono {j k : Nat} {A : Around} (r : Room k A) (h : j ≤ k) : Room j A := ⟨r.hd, by have := r.dp; omega, by have := r.un; omega⟩
theorem Room.deeper {k : Nat} {A : Around} (r : Room (k + 1) A) (env : Env) : Room k (A.deeper env) :=
  ⟨r.hd, by have := r.dp; show A.depth + 1 + 3 * k + 5 < _; omega, by have := r.un; show A.units + 3 + 16 * k + 200 < _; omega⟩
theorem Room.in1 {k : Nat} {A : Around} (r : Room (k + 1) A) : Room k A.in1 :=
  ⟨r.hd, by have := r.dp; show A.depth + 3 * k + 5 < _; omega, by have := r.un; show A.units + 1 + 16 * k + 200 < _; omega⟩
theorem make_depth {A : Around} {C : Addr} {us : List Value} {kw : List (Str × Value)} : (A.under (.builtin "type.__call__" ⟨.ref C :: us, kw⟩)).depth = A.depth + 1 := by
  first | rfl | simp [Around.under, Code.weight, Code.isCreation, Code.isGuard, Code.isCaller, Code.frames, Code.isFrame, guardIds]
theorem make_units {A : Around} {C : Addr} {us : List Value} {kw : List (Str × Value)} : (A.under (.builtin "type.__call__" ⟨.ref C :: us, kw⟩)).units = A.units + 1 := by
  first | rfl | simp [Around.under, Code.cUnits, Code.frames, Code.isFrame]
theorem Room.make {k : Nat} {A : Around} (r : Room (k + 1) A) (C : Addr) (us : List Value) (kw : List (Str × Value)) : Room k (A.under (.builtin "type.__call__" ⟨.ref C :: us, kw⟩)) :=
  ⟨r.hd, by have := r.dp; rw [make_depth]; omega, by have := r.un; rw [make_units]; omega⟩
theorem Room.depth {k : Nat} {A : Around} (r : Room k A) : A.depth < recursionLimit := by have := r.dp; omega
theorem Room.units {k : Nat} {A : Around} (r : Room k A) : A.units + 64 < cLine := by have := r.un; omega
def tNil : TA := fun _ H Q => Q [] H
def tCons (ta : TE) (tr : TA) : TA := fun σ H Q => ta σ H fun x H1 => tr σ H1 fun xs H2 => Q (x :: xs) H2
section
variable {X : Cx} {e : Expr} {es : List Expr} {te : TE} {t : TA} {pos : Pos}
theorem pa_nil : PA X [] tNil := fun _ _ _ _ H Q I h => Calls.spliced_nil ⟨[], H, I, .nil, h⟩
theorem pa_cons (ha : PE X e te) (hr : PA X es t) (hs : starEach (e :: es) X.env = (false, eval e X.env) :: starEach es X.env := by rfl) : PA X (e :: es) (tCons te t) := by
  intro pos pins s σ H Q I h
  rw [hs]
  show wpAny _ _ (spliced ((false, eval e X.env) :: backTo pos (starEach es X.env))) _ _ s
  refine Calls.spliced_cons (thn (ha pins s σ H _ I h) fun u s1 ⟨x, H1, I1, r1, q1⟩ => ?_)
  exact thn (hr pos pins s1 σ H1 _ I1 q1) fun us s2 ⟨xs, H2, I2, r2, q2⟩ => ⟨x :: xs, H2, I2, .cons r1 r2, q2⟩
def tTup (t : TA) : TE := fun σ H Q => t σ H fun xs H1 => xs.length ≤ sizeLine ∧ ∀ p, H1 p = none → Q (.ref p) (upd H1 p (.tup xs))
def tLst (t : TA) : TE := fun σ H Q => t σ H fun xs H1 => xs.length ≤ sizeLine ∧ ∀ p, H1 p = none → Q (.ref p) (upd H1 p (.lst xs))
theorem pe_tup {x1} (h : PA X es t) : PE X (.Tuple es x1 pos) (tTup t) := by
  intro pins s σ H Q I hq
  refine wpAny_Tuple_spliced (thn (h pos pins s σ H _ I hq) fun us s1 ⟨xs, H1, I1, r, z, q⟩ => ⟨by rw [← r.length]; exact z, ?_⟩)
  have hf : H1 s1.heap.objs.size = none := I1.hok.fresh (Nat.le_refl _)
  refine ⟨.ref s1.heap.objs.size, upd H1 s1.heap.objs.size (.tup xs), I1.laid (t' := s1.toks) (fun b u e => Heap.get?_push_of_some _ e) (Nat.le_refl _) ?_, rfl, q _ hf⟩
  exact ⟨z, us, r, ⟨_, Heap.get?_push_size _ rfl, rfl, _, rfl⟩⟩
theorem pe_lst (h : PA X es t) : PE X (.List es pos) (tLst t) := by
  intro pins s σ H Q I hq
  refine wpAny_List_spliced (thn (h pos pins s σ H _ I hq) fun us s1 ⟨xs, H1, I1, r, z, q⟩ => ⟨by rw [← r.length]; exact z, ?_⟩)
  have hf : H1 s1.heap.objs.size = none := I1.hok.fresh (Nat.le_refl _)
  refine ⟨.ref s1.heap.objs.size, upd H1 s1.heap.objs.size (.lst xs), I1.laid (t' := s1.toks) (fun b u e => Heap.get?_push_of_some _ e) (Nat.le_refl _) ?_, rfl, q _ hf⟩
  exact ⟨z, us, 0, r, Heap.get?_push_size _ rfl⟩
end
abbrev Sp := List V → Hp → VK → XK → Prop
abbrev CXT := List Env → Hp → Shared → XK → Value → Shared → Prop
structure Env0 (P : Program) (w : World) (K : PySem.W.Frag) (mg : Str → Option Value) (base : Heap) (A : Around) (outer : List Env) (s : Shared) (H : Hp) : Prop where
  frames : A.frames = some outer
  mod : Mod K mg base
  bs : ∀ b o, base.get? b = some o → s.heap.get? b = some o ∧ H b = none
  bsz : base.objs.size ≤ s.heap.objs.size
  funs : s.heap.FunFrames base outer
  frf : ∀ b ∈ frs outer, H b = none
  hok : HOk P w H s.heap
  bare : AllBare s.gens
def CE (outer : List Env) (P : Program) (w : World) (H : Hp) (s : Shared) (Q : VK) (u : Value) (s' : Shared) : Prop :=
  ∃ v H', s'.os = s.os ∧ AllBare s'.gens ∧ Un (frs outer) [] H H' s.heap s'.heap ∧ HOk P w H' s'.heap ∧ RelV v u ∧ Q v H'
def CR (CX : CXT) (outer : List Env) (P : Program) (w : World) (H : Hp) (s : Shared) (Q : VK) (E : XK) (r : Result) (s' : Shared) : Prop :=
  match r with
  | .ok (.ret u) => CE outer P w H s Q u s'
  | .ok _ => False
  | .error e => CX outer H s E e s'
structure FnOk (P : Program) (w : World) (K : PySem.W.Frag) (mg : Str → Option Value) (base : Heap) (CX : CXT) (k : Nat) (f : Addr) (fd : FuncData) (ps : List Str) (sp : Sp) : Prop where
  len : ∀ vs H Q E, sp vs H Q E → vs.length = ps.length
  run : ∀ (A : Around) (outer : List Env) (s : Shared) (H : Hp) (args : Args) (us : List Value) (vs : List V) (Q : VK) (E : XK), Room k A → Env0 P w K mg base A outer s H → BindsTo s fd args (ps.zip us) → Vals vs us → sp vs H Q E →
    codeAny (model P w) A (.call (.ref f) args) (CR CX outer P w H s Q E) s
theorem FnOk.mono {P : Program} {w : World} {K : PySem.W.Frag} {mg : Str → Option Value} {base : Heap} {CX : CXT} {j k : Nat} {f : Addr} {fd : FuncData} {ps : List Str} {sp : Sp} (F : FnOk P w K mg base CX j f fd ps sp) (h : j ≤ k) :
    FnOk P w K mg base CX k f fd ps sp := ⟨F.len, fun A outer s H args us vs Q E hr => F.run A outer s H args us vs Q E (hr.mono h)⟩
theorem Env0.make {P : Program} {w : World} {K : PySem.W.Frag} {mg : Str → Option Value} {base : Heap} {A : Around} {outer : List Env} {s : Shared} {H : Hp} (e : Env0 P w K mg base A outer s H) (C : Addr) (us : List Value) (kw : List (Str × Value)) :
    Env0 P w K mg base (A.under (.builtin "type.__call__" ⟨.ref C :: us, kw⟩)) outer s H := ⟨by first | exact e.frames | (simpa [Around.under, Code.envs, Code.isFrame, pushEnvs] using e.frames), e.mod, e.bs, e.bsz, e.funs, e.frf, e.hok, e.bare⟩
theorem Env0.in1 {P : Program} {w : World} {K : PySem.W.Frag} {mg : Str → Option Value} {base : Heap} {A : Around} {outer : List Env} {s : Shared} {H : Hp} (e : Env0 P w K mg base A outer s H) :
    Env0 P w K mg base A.in1 outer s H := ⟨e.frames, e.mod, e.bs, e.bsz, e.funs, e.frf, e.hok, e.bare⟩
section
variable {X : Cx} {pins : List (Addr × Obj)} {σ : St} {H : Hp} {s s' : Shared}
theorem Inv.env0 (I : Inv X pins σ H s) : Env0 X.prog X.w X.K X.mg X.base X.A X.stack s H :=
  ⟨I.ok.frames, I.ok.mod, I.bs, Nat.le_trans I.ok.bsz I.sz, I.stack, I.stkFree, I.hok, I.bare⟩
theorem Inv.after {Q : VK} {u : Value} (I : Inv X pins σ H s) (h : CE X.stack X.prog X.w H s Q u s') : EP X pins σ Q u s' := by
  obtain ⟨v, H', os, bare, un, hok, r, q⟩ := h
  obtain ⟨hh, g, d, t, os'⟩ := s'
  obtain rfl : os' = s.os := os
  exact ⟨v, H', I.call (h' := hh) (g' := g) (d' := d) (t' := t) (ch := []) un hok bare (fun b z => absurd z (by simp)), r, q⟩
end
def tCall (sp : Sp) (dvs : List V) (E : XK) (t : TA) : TE := fun σ H Q => t σ H fun vs H1 => sp (vs ++ dvs) H1 Q E
def tMeth (C : Addr) (m : Str) (sp : Sp) (dvs : List V) (E : XK) (ta : TE) (t : TA) : TE := fun σ H Q => ta σ H fun x H1 => ∃ a dx fs, x = .ref a ∧ H1 a = some (.ins C dx fs) ∧ fs.lookup m = none ∧
  t σ H1 fun vs H2 => sp (x :: (vs ++ dvs)) H2 Q E
def tMake (C : Addr) (sp : Sp) (dvs : List V) (E : XK) (t : TA) : TE := fun σ H Q => t σ H fun vs H1 => ∀ x dx, H1 x = none → H1 dx = none → dx ≠ x →
  sp (.ref x :: (vs ++ dvs)) (upd (upd H1 dx (.own x)) x (.ins C dx [])) (fun v H2 => v = .non ∧ Q (.ref x) H2) E
def Binds (K : PySem.W.Frag) (fd : FuncData) (ps : List Str) (ds : List Value) : Prop :=
  ∀ (s : Shared) (us : List Value), K.In s.heap → (us ++ ds).length = ps.length → BindsTo s fd ⟨us, []⟩ (ps.zip (us ++ ds))
theorem Binds.all {K : PySem.W.Frag} {fd : FuncData} {ps : List Str} (h : ∀ us : List Value, us.length = ps.length → bindArgs fd ⟨us, []⟩ = pure (ps.zip us)) : Binds K fd ps [] := fun s us _ hl => by
  rw [List.append_nil] at hl ⊢
  exact .of_eq (h us hl)
def Passes (CX : CXT) (X : Cx) (E : XK) : Prop := ∀ (pins : List (Addr × Obj)) (σ : St) (H : Hp) (s : Shared) (e : Value) (s' : Shared), Inv X pins σ H s → CX X.stack H s E e s' → X.xe e s'
section
variable {X : Cx} {CX : CXT} {k : Nat} {f C : Addr} {fd : FuncData} {ps : List Str} {sp : Sp} {dvs : List V} {ds : List Value} {E : XK} {x m : Str} {p pos apos : Pos} {e o : Expr} {es : List Expr} {ta : TE} {t : TA}
structure Mk (K : PySem.W.Frag) (C f : Addr) : Prop where
  makes : PySem.W.makesIn K C = true
  init : PySem.W.findIn K (.ref C) "__init__" = some (some (.ref f))
  fn : PySem.W.isFn K (.ref f) = true
  kp : PySem.W.keepIn K (.ref C) = true
end
def PK (X : Cx) (kws : List Keyword) (t : TA) : Prop :=
  ∀ (pos : Pos) (pins : List (Addr × Obj)) (s : Shared) (σ : St) (H : Hp) (Q : List V → Hp → Prop), Inv X pins σ H s → t σ H Q → wpAny (model X.prog X.w) X.A (evalAll ((backToKw pos (keywordEach kws X.env)).map (·.2))) (AP X pins σ Q) X.xe s
section
variable {X : Cx} {CX : CXT} {k : Nat} {f C : Addr} {fd : FuncData} {ps ks : List Str} {sp : Sp} {E : XK} {x m : Str} {p pos apos kpos : Pos} {e o : Expr} {es : List Expr} {kws : List Keyword} {te ta : TE} {t tk : TA} {nm : Option Str}
structure KBinds (K : PySem.W.Frag) (fd : FuncData) (ps ks : List Str) (g : List Value → List Value → List Value) (gV : List V → List V → List V) : Prop where
  to : ∀ (s : Shared) (us ws : List Value), K.In s.heap → (g us ws).length = ps.length → BindsTo s fd ⟨us, ks.zip ws⟩ (ps.zip (g us ws))
  rel : ∀ {vs : List V} {us : List Value} {zs : List V} {ws : List Value}, Vals vs us → Vals zs ws → Vals (gV vs zs) (g us ws)
def tCallK (sp : Sp) (gV : List V → List V → List V) (E : XK) (t tk : TA) : TE := fun σ H Q => t σ H fun vs H1 => tk σ H1 fun zs H2 => sp (gV vs zs) H2 Q E
variable {g : List Value → List Value → List Value} {gV : List V → List V → List V}
end
structure FnScope (N P : List Str) (sc : Scope) : Prop where
  kind : sc.kind = .function
  co : sc.isCoroutine = false
  gen : sc.isGenerator = false
  nd : N.Nodup
  pre : N.take P.length = P
  par : ∀ x ∈ P, sc.names.lookup x = some .local ∨ sc.names.lookup x = some .cell
  nofree : ∀ y ∈ sc.names, y.2 ≠ .free
theorem bindL_out {kindOf : Str → Option NameKind} {x : Str} : ∀ {binds : List (Str × Value)} {m : Str → Option Value}, (∀ v, (x, v) ∉ binds) → bindL kindOf binds m x = m x
  | [], _, _ => rfl
  | (n, v) :: r, m, h => by
    unfold bindL
    rw [bindL_out fun w hw => h w (List.mem_cons_of_mem _ hw)]
    split
    · have : x ≠ n := by rintro rfl; exact h v List.mem_cons_self
      simp [this]
    · rfl
theorem bindC_out {kindOf : Str → Option NameKind} {x : Str} : ∀ {binds : List (Str × Value)} {m : Str → Option Value}, (∀ v, (x, v) ∉ binds) → bindC kindOf binds m x = m x
  | [], _, _ => rfl
  | (n, v) :: r, m, h => by
    unfold bindC
    rw [bindC_out fun w hw => h w (List.mem_cons_of_mem _ hw)]
    split
    · rfl
    · have : x ≠ n := by rintro rfl; exact h v List.mem_cons_self
      simp [this]
theorem bindL_get {kindOf : Str → Option NameKind} {x : Str} {v : Value} : ∀ {P : List Str} {vs : List Value} {i : Nat} {m : Str → Option Value}, P.Nodup → P[i]? = some x → vs[i]? = some v → kindOf x = some .local →
    bindL kindOf (P.zip vs) m x = some v
  | [], _, _, _, _, h, _, _ => by simp at h
  | _ :: _, [], _, _, _, _, h, _ => by simp at h
  | p :: P, w :: vs, 0, m, nd, h1, h2, hk => by
    simp at h1 h2; subst h1; subst h2
    show bindL kindOf ((p, w) :: P.zip vs) m p = _
    unfold bindL
    rw [bindL_out fun v hv => (List.nodup_cons.mp nd).1 (List.of_mem_zip hv).1, if_pos hk]
    simp
  | p :: P, w :: vs, i + 1, m, nd, h1, h2, hk => by
    show bindL kindOf ((p, w) :: P.zip vs) m x = _
    unfold bindL
    exact bindL_get (i := i) (List.nodup_cons.mp nd).2 (by simpa using h1) (by simpa using h2) hk
theorem bindC_get {kindOf : Str → Option NameKind} {x : Str} {v : Value} : ∀ {P : List Str} {vs : List Value} {i : Nat} {m : Str → Option Value}, P.Nodup → P[i]? = some x → vs[i]? = some v → kindOf x ≠ some .local →
    bindC kindOf (P.zip vs) m x = some v
  | [], _, _, _, _, h, _, _ => by simp at h
  | _ :: _, [], _, _, _, _, h, _ => by simp at h
  | p :: P, w :: vs, 0, m, nd, h1, h2, hk => by
    simp at h1 h2; subst h1; subst h2
    show bindC kindOf ((p, w) :: P.zip vs) m p = _
    unfold bindC
    rw [bindC_out fun v hv => (List.nodup_cons.mp nd).1 (List.of_mem_zip hv).1, if_neg hk]
    simp
  | p :: P, w :: vs, i + 1, m, nd, h1, h2, hk => by
    show bindC kindOf ((p, w) :: P.zip vs) m x = _
    unfold bindC
    exact bindC_get (i := i) (List.nodup_cons.mp nd).2 (by simpa using h1) (by simpa using h2) hk
def start (N : List Str) (vs : List V) : St := vs.map some ++ List.replicate (N.length - vs.length) none
def cxOf (CX : CXT) (P : Program) (w : World) (K : PySem.W.Frag) (mg : Str → Option Value) (base : Heap) (N : List Str) (qual : Str) (scope : Scope) (f : Addr) (cd : Value) (A : Around) (outer : List Env) (s : Shared) (H : Hp) (E : XK) : Cx where
  prog := P
  w := w
  K := K
  mg := mg
  base := base
  A := A.deeper (envOfC qual scope s.heap.objs.size f cd)
  N := N
  s₀ := s
  H₀ := H
  env := envOfC qual scope s.heap.objs.size f cd
  outer := outer
  stack := envOfC qual scope s.heap.objs.size f cd :: outer
  ex := []
  calm := true
  fn := fun _ => true
  pn := []
  xe := fun e s' => wpAny (model P w) (A.deeper (envOfC qual scope s.heap.objs.size f cd)) (leaving (envOfC qual scope s.heap.objs.size f cd) e) (fun _ s'' => CX outer H s E e s'') (fun e' s'' => CX outer H s E e' s'') s'
theorem cell_has {sc : Scope} {n : Nat} {x : Str} (h : sc.names.lookup x = some .cell) : ∃ c, (cellsFrom n sc.names []).lookup x = some c := by
  have q := PySem.W.cellsFrom_some sc.names n [] (.inl h)
  exact Option.isSome_iff_exists.mp q
theorem inv_start {CX : CXT} {P : Program} {w : World} {K : PySem.W.Frag} {mg : Str → Option Value} {base : Heap} {N ps : List Str} {qual : Str} {scope : Scope} {f : Addr} {cd : Value} {A : Around} {outer : List Env} {s s1 : Shared} {H : Hp} {E : XK} {us : List Value} {vs : List V}
    (S : FnScope N ps scope) (hd : A.handled = none) (e0 : Env0 P w K mg base A outer s H) (hl : vs.length = ps.length) (r : Vals vs us)
    (x : InCallC s s.heap.objs.size (bindL (envOfC qual scope s.heap.objs.size f cd).kindOf (ps.zip us) fun _ => none) (cellsFrom (s.heap.objs.size + 1) scope.names []) (bindC (envOfC qual scope s.heap.objs.size f cd).kindOf (ps.zip us) fun _ => none) s1) :
    Inv (cxOf CX P w K mg base N qual scope f cd A outer s H E) [] (start N vs) H s1 := by
  have hpl : ps.length ≤ N.length := by have := congrArg List.length S.pre; rw [List.length_take] at this; omega
  obtain ⟨h1, tk, rfl, hk⟩ := x.done
  have noA : ∀ b : Addr, b ∉ (cxOf CX P w K mg base N qual scope f cd A outer s H E).ex := fun b z => absurd (show b ∈ ([] : List Addr) from z) (by simp)
  refine ⟨⟨e0.mod, S.kind, rfl, rfl, Nat.le_refl _, fun y z c h1 h2 => ?_, fun y hy => ?_, fun y c _ h => ?_, fun _ => hd, Around.frames_deeper e0.frames, .inr ⟨rfl, rfl⟩, fun b z => absurd z (noA b), e0.bs, e0.bsz, fun b _ _ => noA b, fun b z => absurd z (noA b), e0.funs, e0.frf⟩,
    rfl, e0.bare, Un.kept hk, ⟨_, x.toInCall.ns, fun i y v h1 h2 h3 => ?_⟩, fun y c h => ⟨_, x.cell y c h⟩, e0.hok.fresh (Nat.le_refl _), fun y c h => ?_, fun p hp => absurd (show p ∈ ([] : List (Addr × Obj)) from hp) (by simp), e0.hok.kept hk, ?_⟩
  · exact name_of_addr x.apart (PySem.mem_of_lookup h1) (PySem.mem_of_lookup h2)
  · have hy : scope.names.lookup y = some .cell ∨ scope.names.lookup y = some .free := hy
    rcases hy with hy | hy
    · exact cell_has hy
    · exact absurd rfl (S.nofree _ (PySem.mem_of_lookup hy))
  · exact Nat.le_of_lt (x.above y c (PySem.mem_of_lookup h))
  · have hi : i < vs.length := by
      unfold start at h2
      by_cases hi : i < vs.length
      · exact hi
      · rw [List.getElem?_append_right (by simpa using hi)] at h2
        rw [List.getElem?_replicate] at h2
        split at h2 <;> cases h2
    have ha : vs[i]? = some v := by
      unfold start at h2
      rw [List.getElem?_append_left (by simpa using hi), List.getElem?_map] at h2
      cases e : vs[i]? with
      | none => rw [e] at h2; cases h2
      | some a => rw [e] at h2; cases h2; rfl
    obtain ⟨u, hu, rv⟩ := r.get ha
    have hp : ps[i]? = some y := by
      rw [← S.pre, List.getElem?_take_of_lt (by omega)]; exact h1
    have ndP : ps.Nodup := by rw [← S.pre]; exact S.nd.sublist (List.take_sublist _ _)
    refine ⟨u, rv, ?_⟩
    rcases S.par y (List.mem_of_getElem? hp) with k | k
    · exact .inl ⟨k, bindL_get ndP hp hu k⟩
    · obtain ⟨c, e⟩ := cell_has (n := s.heap.objs.size + 1) k
      refine .inr ⟨.inl k, c, e, ?_⟩
      have q := x.cell y c e
      rw [bindC_get ndP hp hu (by show scope.names.lookup y ≠ _; rw [k]; decide)] at q
      exact q
  · exact e0.hok.fresh (Nat.le_of_lt (x.above y c (PySem.mem_of_lookup h)))
  · unfold start
    show _ = N.length
    rw [List.length_append, List.length_map, List.length_replicate]
    omega
theorem fn_of {CX : CXT} {P : Program} {w : World} {K : PySem.W.Frag} {mg : Str → Option Value} {base : Heap} {k : Nat} {f : Addr} {name qual : Str} {params : Arguments} {body : List Stmt} {scope : Scope} {dV kV doc pm cdv ct oc : Value} {an od : Option Addr}
    {osl : Array (Option Value)} {N ps : List Str} {sp : Sp} (lk : K.lookup f = some ⟨oc, od, .func (PySem.W.fnOf name qual params body scope dV kV doc pm an cdv ct), osl⟩) (hcd : PySem.W.codeIn K cdv qual = true) (S : FnScope N ps scope)
    (len : ∀ vs H Q E, sp vs H Q E → vs.length = ps.length)
    (hbody : ∀ (A : Around) (outer : List Env) (s : Shared) (H : Hp) (vs : List V) (Q : VK) (E : XK), Room k (A.deeper (envOfC qual scope s.heap.objs.size f cdv)) → sp vs H Q E →
      ∃ t, PSs (cxOf CX P w K mg base N qual scope f cdv A outer s H E) body t ∧ t { nx := fun _ H' => Q .non H', rt := Q } (start N vs) H) :
    FnOk P w K mg base CX (k + 1) f (PySem.W.fnOf name qual params body scope dV kV doc pm an cdv ct) ps sp := by
  refine ⟨len, fun A outer s H args us vs Q E hr e0 hb r hsp => ?_⟩
  have hl := len _ _ _ _ hsp
  have KX : K.In s.heap := e0.mod.kin.keeps fun b o e => (e0.bs b o e).1
  have lim : s.heap.NoLimit := e0.mod.nolimit.keeps fun b o e => (e0.bs b o e).1
  have hkind : ∀ y ∈ ps.zip us, scope.names.lookup y.1 = some .local ∨ (scope.names.lookup y.1 = some .cell ∧ ((cellsFrom (s.heap.objs.size + 1) scope.names []).lookup y.1).isSome = true) := fun ⟨n, v⟩ hy => by
    rcases S.par n (List.of_mem_zip hy).1 with q | q
    · exact .inl q
    · exact .inr ⟨q, PySem.W.cellsFrom_some _ _ _ (.inl q)⟩
  refine codeAny_call_function hr.depth (KX _ _ lk) rfl S.co S.gen rfl (PySem.W.codeRec_of KX hcd) (hb _ _ _ _ ?_)
  refine wpAny_newFunctionEnv_cells S.kind hkind fun env he s1 x => ?_
  subst he
  refine ⟨lim.keeps x.toInCall.keep, codeAny_func ?_⟩
  obtain ⟨t, ht, hq⟩ := hbody A outer s H vs Q E (hr.deeper _) hsp
  have I : Inv (cxOf CX P w K mg base N qual scope f cdv A outer s H E) [] (start N vs) H s1 := inv_start S hr.hd e0 hl r x
  refine wpAny_mono (ht [] s1 (start N vs) H _ I hq) (fun fl s' hs => ?_) fun e s' hs => hs
  have fin : ∀ {σ' : St} {H' : Hp} {v : V} {u : Value}, Inv (cxOf CX P w K mg base N qual scope f cdv A outer s H E) [] σ' H' s' → RelV v u → Q v H' → CE outer P w H s Q u s' :=
    fun {σ' H' v u} J rv q => ⟨v, H', J.os, J.bare, J.base, J.hok, rv, q⟩
  cases fl with
  | ret u =>
    obtain ⟨v, σ', H', J, rv, q⟩ := hs
    exact fin J rv q
  | next =>
    obtain ⟨σ', H', J, q⟩ := hs
    exact fin (v := V.non) (u := Value.none) J rfl q
  | brk =>
    obtain ⟨_, _, _, q⟩ := hs
    exact False.elim q
  | cont =>
    obtain ⟨_, _, _, q⟩ := hs
    exact False.elim q
end L2
namespace L2
open PySem PySem.Spec PyProof.Rows
section
variable {X : Cx} {x : Str} {p pos : Pos} {e : Expr} {es : List Expr} {t : TA} {id T : String} {r : List V → Hp → VK → Prop}
def tCB (r : List V → Hp → VK → Prop) (t : TA) : TE := fun σ H Q => t σ H fun vs H1 => r vs H1 Q
theorem pe_callB (hc : CallR X (.builtin id) r) (hg : Gl X x) (hm : X.mg x = none) (hv : bootBuiltins x = some (.builtin id)) (ha : PA X (e :: es) t) (hn : x ≠ "__name__" := by decide) (hdb : (x == ("__debug__" : Str)) = false := by decide)
    (he : starEach (e :: es) X.env = (false, eval e X.env) :: starEach es X.env := by rfl) (hpl : (backTo pos (starEach es X.env)).any (·.1) = false := by rfl) : PE X (.Call (.Name x p) (e :: es) [] pos) (tCB r t) := by
  intro pins s σ H Q I h
  refine wpAny_Call_Name_kw (ld_blt I hg hm hv ?_ hn hdb)
  exact PyProof.Rows.callWith_builtin1 (thn (ha pos pins s σ H _ I h) fun us s1 ⟨vs, H1, I1, r1, q1⟩ => hc pins s1 σ H1 vs us Q I1 r1 q1) he hpl
theorem pe_callTy (hc : CallR X (.type T) r) (hg : Gl X x) (hm : X.mg x = none) (hv : bootBuiltins x = some (.type T)) (ha : PA X (e :: es) t) (hn : x ≠ "__name__" := by decide) (hdb : (x == ("__debug__" : Str)) = false := by decide)
    (he : starEach (e :: es) X.env = (false, eval e X.env) :: starEach es X.env := by rfl) (hpl : (backTo pos (starEach es X.env)).any (·.1) = false := by rfl) : PE X (.Call (.Name x p) (e :: es) [] pos) (tCB r t) := by
  intro pins s σ H Q I h
  refine wpAny_Call_Name_kw (ld_blt I hg hm hv ?_ hn hdb)
  exact PyProof.Rows.callWith_type1 (thn (ha pos pins s σ H _ I h) fun us s1 ⟨vs, H1, I1, r1, q1⟩ => hc pins s1 σ H1 vs us Q I1 r1 q1) he hpl
end
end L2
namespace HT
open PySem PyProof.Rows
def lexLt : List Int → List Int → Bool
  | [], [] => false
  | [], _ :: _ => true
  | _ :: _, [] => false
  | x :: xs, y :: ys => if x = y then lexLt xs ys else decide (x < y)
section
open PySem.SeqAt
open PySem.AutoSeq1 (wpAny_loadPart')
open PySem.MeetsSeq PySem.MeetsSeq2 PySem.MeetsSeq3
end
section
variable {prog : Program} {w : World} {A : Around} {E : Value → Shared → Prop} {s : Shared}
def sIx (n d : Nat) : Option Int → Nat
  | none => d
  | some v => if v < 0 then (v + (n : Int)).toNat else min v.toNat n
theorem sIx_none (n d : Nat) : sIx n d none = d := rfl
theorem sIx_nat (n d k : Nat) : sIx n d (some (k : Int)) = min k n := by
  show (if (k : Int) < 0 then ((k : Int) + (n : Int)).toNat else min (k : Int).toNat n) = min k n
  rw [if_neg (by omega), Int.toNat_natCast]
end
end HT
namespace L2
open PySem PySem.Spec PyProof.Rows
abbrev TO := St → Hp → (Option Int → Hp → Prop) → Prop
def PO (X : Cx) (e : Option Expr) (t : TO) : Prop :=
  ∀ (pins : List (Addr × Obj)) (s : Shared) (σ : St) (H : Hp) (Q : Option Int → Hp → Prop), Inv X pins σ H s → t σ H Q →
    wpAny (model X.prog X.w) X.A (evalPart e X.env) (fun u s' => ∃ o H', Inv X pins σ H' s' ∧ IsPart u o ∧ Q o H') X.xe s
def tNoPart : TO := fun _ H Q => Q none H
def tPart (t : TE) : TO := fun σ H Q => t σ H fun x H1 => ∃ i, x = .int i ∧ Q (some i) H1
section
variable {X : Cx} {e : Expr} {te : TE} {lo hi : Option Expr} {tl th : TO} {pos p2 : Pos}
theorem po_none : PO X none tNoPart := by
  intro pins s σ H Q I h
  rw [evalPart_none]
  exact wpAny_pure ⟨none, H, I, .none, h⟩
theorem po_some (h : PE X e te) : PO X (some e) (tPart te) := by
  intro pins s σ H Q I hw
  rw [evalPart_some]
  refine thn (h pins s σ H _ I hw) fun u s1 ⟨x, H1, I1, r1, q1⟩ => ?_
  obtain ⟨i, rfl, q⟩ := q1
  obtain ⟨t, rfl⟩ := r1
  exact ⟨some i, H1, I1, .int i t, q⟩
def SlR (X : Cx) (r : V → Option Int → Option Int → Hp → VK → Prop) : Prop :=
  ∀ (pins : List (Addr × Obj)) (s : Shared) (σ : St) (H : Hp) (x : V) (v vl vu : Value) (lo hi : Option Int) (sl : Addr) (Q : VK), Inv X pins σ H s → RelV x v → s.heap.IsSliceOf sl vl vu .none → IsPart vl lo → IsPart vu hi → r x lo hi H Q →
    ∃ T id, typeLookup (.type T) "__getitem__" = pure (some (.builtin id)) ∧ s.TypeIs v T ∧ wpAny (model X.prog X.w) X.A (getItem v (.ref sl)) (EP X pins σ Q) X.xe s
theorem SlR.or {r r' : V → Option Int → Option Int → Hp → VK → Prop} (h : SlR X r) (h' : SlR X r') : SlR X (fun x lo hi H Q => r x lo hi H Q ∨ r' x lo hi H Q) := by
  intro pins s σ H x v vl vu lo hi sl Q I rx hs pl pu q
  rcases q with q | q
  · exact h pins s σ H x v vl vu lo hi sl Q I rx hs pl pu q
  · exact h' pins s σ H x v vl vu lo hi sl Q I rx hs pl pu q
def tSl (r : V → Option Int → Option Int → Hp → VK → Prop) (te : TE) (tl th : TO) : TE := fun σ H Q => te σ H fun x H1 => tl σ H1 fun l H2 => th σ H2 fun u H3 => r x l u H3 Q
theorem pe_slice {r : V → Option Int → Option Int → Hp → VK → Prop} (hr : SlR X r) (he : PE X e te) (hl : PO X lo tl) (hu : PO X hi th) : PE X (.Subscript e (.Slice lo hi none p2) pos) (tSl r te tl th) := by
  intro pins s σ H Q I h
  refine Subscript_ (thn (he pins s σ H _ I h) fun v s1 ⟨x, H1, I1, r1, q1⟩ => ?_)
  refine wpAny_Slice (thn (hl pins s1 σ H1 _ I1 q1) fun vl s2 ⟨l, H2, I2, pl, q2⟩ => thn (hu pins s2 σ H2 _ I2 q2) fun vu s3 ⟨u, H3, I3, pu, q3⟩ => ?_)
  rw [evalPart_none]
  refine wpAny_pure ?_
  have I4 : Inv X pins σ H3 { s3 with heap := s3.heap.push { cls := .type "slice", data := .fields #[vl, vu, .none] } } := I3.kept (t' := s3.toks) fun b ob q => Heap.get?_push_of_some _ q
  obtain ⟨T, id, hT, ht, hg⟩ := hr pins { s3 with heap := s3.heap.push { cls := .type "slice", data := .fields #[vl, vu, .none] } } σ H3 x v vl vu l u s3.heap.objs.size Q I4 r1 (Heap.IsSliceOf.new ..) pl pu q3
  show wpAny (model X.prog X.w) X.A (subscriptTail e (.Slice lo hi none p2) v (.ref s3.heap.objs.size)) (EP X pins σ Q) X.xe { s3 with heap := s3.heap.push { cls := .type "slice", data := .fields #[vl, vu, .none] } }
  exact tail_any (ops := [.ref s3.heap.objs.size, v]) ht hT hg (by with_unfolding_all rfl)
def cutV (xs : List V) (lo hi : Option Int) : List V := (xs.drop (HT.sIx xs.length 0 lo)).take (HT.sIx xs.length xs.length hi - HT.sIx xs.length 0 lo)
theorem cutV_length (xs : List V) (lo hi : Option Int) : (cutV xs lo hi).length ≤ xs.length := by
  unfold cutV
  rw [List.length_take, List.length_drop]
  omega
def rSlT (K : PySem.W.Frag) : V → Option Int → Option Int → Hp → VK → Prop := fun x lo hi H Q => ∃ a xs, x = .ref a ∧ SqT K H a xs ∧
  ¬ (HT.sIx xs.length 0 lo = 0 ∧ HT.sIx xs.length xs.length hi = xs.length) ∧ ∀ p, H p = none → Q (.ref p) (upd H p (.tup (cutV xs lo hi)))
def rLtT (K : PySem.W.Frag) : R2 := fun x y H Q => ∃ a b ns ms, x = .ref a ∧ y = .ref b ∧ SqT K H a (ns.map V.int) ∧ SqT K H b (ms.map V.int) ∧ Q (.bl (HT.lexLt ns ms)) H
def rCatT (K : PySem.W.Frag) : R2 := fun x y H Q => ∃ a b xs ys, x = .ref a ∧ y = .ref b ∧ SqT K H a xs ∧ SqT K H b ys ∧ xs ≠ [] ∧ xs.length + ys.length ≤ sizeLine ∧
  (ys = [] → Q (.ref a) H) ∧ (ys ≠ [] → ∀ p, H p = none → Q (.ref p) (upd H p (.tup (xs ++ ys))))
end
end L2
namespace L2
open PySem PySem.Spec PyProof.Rows
def ixN (n : Nat) (i : Int) : Option Nat := if 0 ≤ i then (if i < n then some i.toNat else none) else if -(n : Int) ≤ i then some (i + n).toNat else none
def atI {α : Type} (xs : List α) (i : Int) : Option α := (ixN xs.length i).bind fun j => xs[j]?
theorem ixN_seq {n : Nat} {i : Int} {j : Nat} (h : ixN n i = some j) : seqIndex? i n = some j ∧ j < n ∧ -(n : Int) ≤ i ∧ i < n := by
  unfold ixN at h
  by_cases h0 : 0 ≤ i
  · rw [if_pos h0] at h
    by_cases h1 : i < n
    · rw [if_pos h1] at h
      have e : i.toNat = j := Option.some.inj h
      exact ⟨by rw [seqIndex_of h0 h1, e], by omega, by omega, h1⟩
    · rw [if_neg h1] at h; cases h
  · rw [if_neg h0] at h
    by_cases h1 : -(n : Int) ≤ i
    · rw [if_pos h1] at h
      have e : (i + n).toNat = j := Option.some.inj h
      exact ⟨by rw [seqIndex_neg (by omega) h1, e], by omega, h1, by omega⟩
    · rw [if_neg h1] at h; cases h
theorem atI_get {α : Type} {xs : List α} {i : Int} {v : α} (h : atI xs i = some v) : ∃ j, seqIndex? i xs.length = some j ∧ xs[j]? = some v ∧ j < xs.length ∧ -(xs.length : Int) ≤ i ∧ i < xs.length := by
  unfold atI at h
  cases e : ixN xs.length i with
  | none => rw [e] at h; cases h
  | some j =>
    rw [e] at h
    obtain ⟨h1, h2, h3, h4⟩ := ixN_seq e
    exact ⟨j, h1, h, h2, h3, h4⟩
theorem atI_nat {α : Type} {xs : List α} {j : Nat} {v : α} (h : xs[j]? = some v) : atI xs (j : Int) = some v := by
  have hj : j < xs.length := (List.getElem?_eq_some_iff.mp h).1
  have e : ixN xs.length (j : Int) = some j := by
    unfold ixN
    rw [if_pos (by omega), if_pos (by omega)]; simp
  unfold atI; rw [e]; exact h
theorem atI_last {α : Type} (xs : List α) (v : α) : atI (xs ++ [v]) (-1) = some v := by
  have hl : (xs ++ [v]).length = xs.length + 1 := by simp
  have e : ixN (xs ++ [v]).length (-1) = some xs.length := by
    unfold ixN
    rw [hl, if_neg (by decide), if_pos (by omega)]
    congr 1
    omega
  unfold atI
  rw [e]
  show (xs ++ [v])[xs.length]? = some v
  simp
def PlainIx (b : Expr) : Prop := ∀ o i, subscripted b false o i = operate [o, i] (getItem o i)
def IxR (X : Cx) (r : R2) : Prop :=
  ∀ (value slice : Expr) (pins : List (Addr × Obj)) (s : Shared) (σ : St) (H : Hp) (x y : V) (v u : Value) (Q : VK), Inv X pins σ H s → RelV x v → RelV y u → r x y H Q →
    subscripted slice false v u = operate [v, u] (getItem v u) → wpAny (model X.prog X.w) X.A (subscriptTail value slice v u) (EP X pins σ Q) X.xe s
def MtR (X : Cx) (id : String) (r : V → List V → Hp → VK → Prop) : Prop :=
  ∀ (pins : List (Addr × Obj)) (s : Shared) (σ : St) (H : Hp) (x : V) (xs : List V) (v : Value) (us : List Value) (Q : VK), Inv X pins σ H s → RelV x v → Vals xs us → r x xs H Q →
    wpAny (model X.prog X.w) X.A (call (.builtin id) (v :: us)) (EP X pins σ Q) X.xe s
section
variable {X : Cx} {a b : Expr} {ta tb : TE} {pos : Pos}
theorem IxR.or {r r' : R2} (h : IxR X r) (h' : IxR X r') : IxR X (fun x y H Q => r x y H Q ∨ r' x y H Q) := by
  intro value slice pins s σ H x y v u Q I rx ry q hs
  rcases q with q | q
  · exact h value slice pins s σ H x y v u Q I rx ry q hs
  · exact h' value slice pins s σ H x y v u Q I rx ry q hs
theorem MtR.or {id : String} {r r' : V → List V → Hp → VK → Prop} (h : MtR X id r) (h' : MtR X id r') : MtR X id (fun x xs H Q => r x xs H Q ∨ r' x xs H Q) := by
  intro pins s σ H x xs v us Q I rx rs q
  rcases q with q | q
  · exact h pins s σ H x xs v us Q I rx rs q
  · exact h' pins s σ H x xs v us Q I rx rs q
theorem pe_ix {r : R2} (hr : IxR X r) (ha : PE X a ta) (hb : PE X b tb) (hs : PlainIx b) : PE X (.Subscript a b pos) (tOp r ta tb) := by
  intro pins s σ H Q I h
  exact Subscript_ (binT ha hb I h fun v u s2 x y H2 I2 rx ry q => hr a b pins s2 σ H2 x y v u Q I2 rx ry q (hs _ _))
def rIxL (K : PySem.W.Frag) : R2 := fun x y H Q => ∃ p xs i v, x = .ref p ∧ y = .int i ∧ SqL K H p xs ∧ atI xs i = some v ∧ Q v H
def rIxT (K : PySem.W.Frag) : R2 := fun x y H Q => ∃ p xs i v, x = .ref p ∧ y = .int i ∧ SqT K H p xs ∧ atI xs i = some v ∧ Q v H
def rIxS : R2 := fun x y H Q => ∃ z i c, x = .str z ∧ y = .int i ∧ z.length ≤ sizeLine ∧ atI z.cps.toList i = some c ∧ Q (.str ⟨#[c]⟩) H
theorem ix_list : IxR X (rIxL X.K) := by
  intro value slice pins s σ H x y v u Q I rx ry h hs
  obtain ⟨p, xs, i, z, rfl, rfl, hq, he, q⟩ := h
  cases rx
  obtain ⟨t, rfl⟩ := ry
  obtain ⟨its, r, pl, hz⟩ := I.list hq
  obtain ⟨j, h1, h2, h3, h4, h5⟩ := atI_get he
  obtain ⟨w, ew, rw'⟩ := r.get h2
  have hl := r.length
  have hn := line63
  have fin : EP X pins σ Q w s := ⟨z, H, I, rw', q⟩
  by_cases h0 : 0 ≤ i
  · have hj : i.toNat = j := by
      rw [seqIndex_of h0 h5] at h1
      exact Option.some.inj h1
    exact item_listR pl.isList h0 (by omega) (by rw [hj]; simpa using ew) fin hs
  · have hj : (i + (its.toArray.size : Int)).toNat = j := by
      rw [seqIndex_neg (by omega) h4] at h1
      rw [List.size_toArray, ← hl]
      exact Option.some.inj h1
    exact subscriptTail_builtinR (x := w) pl.isList.typeIs slot_list_getitem.lookup
      (wpAny_getItem_list_neg (Q := fun r s' => r = w ∧ EP X pins σ Q r s') pl.isList (by omega) (by rw [List.size_toArray] <;> omega) (by omega) (by rw [hj]; simpa using ew) ⟨rfl, fin⟩) hs
theorem ix_tup : IxR X (rIxT X.K) := by
  intro value slice pins s σ H x y v u Q I rx ry h hs
  obtain ⟨p, xs, i, z, rfl, rfl, hq, he, q⟩ := h
  cases rx
  obtain ⟨t, rfl⟩ := ry
  obtain ⟨its, r, pl, hz⟩ := I.tuple hq
  obtain ⟨j, h1, h2, h3, h4, h5⟩ := atI_get he
  obtain ⟨w, ew, rw'⟩ := r.get h2
  have hl := r.length
  have hn := line63
  have fin : EP X pins σ Q w s := ⟨z, H, I, rw', q⟩
  exact subscriptTail_builtinR (x := w) pl.typeIs slot_tuple_getitem.lookup
    (getItem_tuple (j := j) (Q := fun r s' => r = w ∧ EP X pins σ Q r s') pl (by omega) (by omega) (by rw [List.size_toArray, ← hl]; exact h1) (by simpa using ew) ⟨rfl, fin⟩) hs
theorem ix_str : IxR X rIxS := by
  intro value slice pins s σ H x y v u Q I rx ry h hs
  obtain ⟨z, i, c, rfl, rfl, hz, he, q⟩ := h
  obtain ⟨t, rfl⟩ := rx
  obtain ⟨t', rfl⟩ := ry
  obtain ⟨j, h1, h2, h3, h4, h5⟩ := atI_get he
  have hl : z.cps.toList.length = z.length := by simp [Str.length]
  rw [hl] at h1 h4 h5
  have hn := line63
  exact tail_any (typeIs_str s z t) slot_str_getitem.lookup (getItem_str (c := c) (by
    have e1 : decide (i < -(2 ^ 63 : Int)) = false := decide_eq_false (by omega)
    have e2 : decide (i ≥ 2 ^ 63) = false := decide_eq_false (by omega)
    rw [e1, e2, Bool.or_false]) (by rw [h1]; simpa using h2) ⟨.str ⟨#[c]⟩, H, I.tok _, ⟨_, rfl⟩, q⟩) hs
def rIx (K : PySem.W.Frag) : R2 := fun x y H Q => rIxL K x y H Q ∨ rIxT K x y H Q ∨ rIxS x y H Q
theorem ix_seq : IxR X (rIx X.K) := ix_list.or (ix_tup.or ix_str)
theorem Inv.lst {pins : List (Addr × Obj)} {σ : St} {H : Hp} {s : Shared} {p : Addr} {xs : List V} (I : Inv X pins σ H s) (h : H p = some (.lst xs)) :
    ∃ (its : List Value) (n : Nat), Vals xs its ∧ s.heap.get? p = some { cls := .type "list", data := .seq its.toArray n } ∧ xs.length ≤ sizeLine := by
  obtain ⟨z, its, n, r, e⟩ := I.hok p _ h
  exact ⟨its, n, r, e, z⟩
def rSetL : V → V → V → Hp → (Hp → Prop) → Prop := fun o i v H Q => ∃ p xs k j, o = .ref p ∧ i = .int k ∧ H p = some (.lst xs) ∧ ixN xs.length k = some j ∧ Q (upd H p (.lst (xs.set j v)))
theorem slice_bounds (lo hi : Option Int) (n : Nat) : (sliceBounds lo hi none n).1 = ((HT.sIx n 0 lo : Nat) : Int) ∧ (sliceBounds lo hi none n).2.1 = ((HT.sIx n n hi : Nat) : Int) ∧ (sliceBounds lo hi none n).2.2 = 1 := by
  refine ⟨?_, ?_, rfl⟩
  · cases lo with
    | none => simp [sliceBounds, HT.sIx]
    | some i =>
      simp only [sliceBounds, HT.sIx, Option.getD_none, show (1 : Int) > 0 by decide, if_true]
      by_cases h : i < 0
      · simp only [h, if_true] <;> omega
      · simp only [h, if_false] <;> omega
  · cases hi with
    | none => simp [sliceBounds, HT.sIx]
    | some i =>
      simp only [sliceBounds, HT.sIx, Option.getD_none, show (1 : Int) > 0 by decide, if_true]
      by_cases h : i < 0
      · simp only [h, if_true] <;> omega
      · simp only [h, if_false] <;> omega
theorem slicePick_cut (its : List Value) (lo hi : Option Int) : slicePick its.toArray lo hi none = ((its.drop (HT.sIx its.length 0 lo)).take (HT.sIx its.length its.length hi - HT.sIx its.length 0 lo)).toArray := by
  obtain ⟨h1, h2, h3⟩ := slice_bounds lo hi its.toArray.size
  unfold slicePick
  rw [h1, h2, h3]
  simp only [sliceRange_one, pick_run, List.size_toArray] <;> rfl
def rSlL (K : PySem.W.Frag) : V → Option Int → Option Int → Hp → VK → Prop := fun x lo hi H Q => ∃ a xs, x = .ref a ∧ SqL K H a xs ∧ ∀ p, H p = none → Q (.ref p) (upd H p (.lst (cutV xs lo hi)))
theorem sl_list : SlR X (rSlL X.K) := by
  intro pins s σ H x v vl vu lo hi sl Q I rx hs pl pu h
  obtain ⟨a, xs, rfl, hx, q⟩ := h
  cases rx
  obtain ⟨its, r, ht, hz⟩ := I.list hx
  have hlen := r.length
  refine ⟨"list", _, slot_list_getitem.lookup, ht.isList.typeIs, ?_⟩
  refine wpAny_getItem_list_slice ht.isList hs pl pu .none (by simp) ?_ (by rw [List.size_toArray] <;> omega)
  rw [slicePick_cut, ← hlen]
  refine ⟨.ref s.heap.objs.size, _, I.laid (t' := s.toks) (o := .lst (cutV xs lo hi)) (fun b ob q => Heap.get?_push_of_some _ q) (Nat.le_refl _) ?_, rfl, q _ (I.hok.fresh (Nat.le_refl _))⟩
  exact ⟨Nat.le_trans (cutV_length xs lo hi) hz, _, 0, (r.drop (HT.sIx xs.length 0 lo)).take (HT.sIx xs.length xs.length hi - HT.sIx xs.length 0 lo), Heap.get?_push_size _ rfl⟩
def flatV : V → Bool
  | .non => true
  | .bl _ => true
  | .int _ => true
  | .str _ => true
  | _ => false
def eqV : V → V → Bool
  | .non, .non => true
  | .bl a, .bl b => a == b
  | .bl a, .int b => (if a then 1 else 0) == b
  | .int a, .bl b => a == (if b then 1 else 0)
  | .int a, .int b => a == b
  | .str a, .str b => a == b
  | _, _ => false
def eqU (x : V) (u : Value) : Bool := match u with
  | .none => eqV .non x
  | .bool b => eqV (.bl b) x
  | .int i _ => eqV (.int i) x
  | .str z _ => eqV (.str z) x
  | _ => false
def inV (x : V) (xs : List V) : Bool := xs.any fun y => eqV y x
def rIn (K : PySem.W.Frag) (neg : Bool) : R2 := fun x y H Q => ∃ p xs, y = .ref p ∧ (SqL K H p xs ∨ SqT K H p xs) ∧ flatV x = true ∧ xs.all flatV = true ∧ Q (.bl (if neg then !inV x xs else inV x xs)) H
theorem call_len_seq : CallR X (.builtin "len") (fun xs H Q => ∃ p ys, xs = [.ref p] ∧ (SqL X.K H p ys ∨ SqT X.K H p ys) ∧ Q (.int ys.length) H) := by
  intro pins s σ H xs us Q I r h
  obtain ⟨p, ys, rfl, hq, q⟩ := h
  obtain ⟨u, rfl, rx⟩ := vals1 r
  cases rx
  have hn := line63
  rcases hq with hq | hq
  · obtain ⟨its, r', pl, hz⟩ := I.list hq
    have hlen := r'.length
    exact Calls.call_len_list pl.isList (by simp only [List.size_toArray] <;> omega) ⟨.int ys.length, H, I.tok _, ⟨s.toks + 1, by rw [List.size_toArray, hlen]⟩, q⟩
  · obtain ⟨its, r', pl, hz⟩ := I.tuple hq
    have hlen := r'.length
    exact len_tuple pl (by simp only [List.size_toArray] <;> omega) ⟨.int ys.length, H, I.tok _, ⟨s.toks + 1, by rw [List.size_toArray, hlen]⟩, q⟩
theorem CallR.or {f : Value} {r r' : List V → Hp → VK → Prop} (h : CallR X f r) (h' : CallR X f r') : CallR X f (fun xs H Q => r xs H Q ∨ r' xs H Q) := by
  intro pins s σ H xs us Q I rs q
  rcases q with q | q
  · exact h pins s σ H xs us Q I rs q
  · exact h' pins s σ H xs us Q I rs q
theorem call_list_of : CallR X (.type "list") (fun xs H Q => ∃ p ys, xs = [.ref p] ∧ (SqL X.K H p ys ∨ SqT X.K H p ys) ∧ ∀ l, H l = none → Q (.ref l) (upd H l (.lst ys))) := by
  intro pins s σ H xs us Q I r h
  obtain ⟨p, ys, rfl, hq, q⟩ := h
  obtain ⟨u, rfl, rx⟩ := vals1 r
  cases rx
  have fin : ∀ (its : List Value), Vals ys its → ys.length ≤ sizeLine → ∀ (h' : Heap) (c' : Nat), (∀ b o', s.heap.get? b = some o' → h'.get? b = some o') →
      h'.get? s.heap.objs.size = some { cls := .type "list", dict := none, data := .seq its.toArray c', slots := #[] } → EP X pins σ Q (.ref s.heap.objs.size) { s with heap := h' } := fun its r' hz h' c' kp e =>
    ⟨.ref s.heap.objs.size, _, I.laid (t' := s.toks) kp (Nat.le_refl _) (show ObjOk X.prog X.w _ h' _ (.lst ys) from ⟨hz, its, c', r', e⟩), rfl, q _ (I.hok.fresh (Nat.le_refl _))⟩
  rcases hq with hq | hq
  · obtain ⟨its, r', pl, hz⟩ := I.list hq
    have hlen := r'.length
    obtain ⟨o, ho, hc, n, hd⟩ := pl.isList
    exact call_list_seq p (.inl rfl) ho hc hd (fun h' c' kp e => fin its r' hz h' c' kp e) (by simp only [List.size_toArray] <;> omega)
  · obtain ⟨its, r', pl, hz⟩ := I.tuple hq
    have hlen := r'.length
    obtain ⟨o, ho, hc, n, hd⟩ := pl
    exact call_list_seq p (.inr rfl) ho hc hd (fun h' c' kp e => fin its r' hz h' c' kp e) (by simp only [List.size_toArray] <;> omega)
def tyV (K : PySem.W.Frag) (T : String) (x : V) (H : Hp) : Prop := match x with
  | .str _ => T = "str"
  | .int _ => T = "int"
  | .ref p => (T = "list" ∧ ∃ xs, SqL K H p xs) ∨ (T = "tuple" ∧ ∃ o, K.lookup p = some o ∧ o.cls = .type "tuple" ∧ o.dict = none) ∨
      (T = "dict" ∧ ((∃ kvs, H p = some (.dK kvs)) ∨ ∃ kvs, H p = some (.dT kvs))) ∨ (T = "set" ∧ ∃ S n, H p = some (.set S n))
  | _ => False
theorem tyV_is {pins : List (Addr × Obj)} {σ : St} {H : Hp} {s : Shared} {T : String} {x : V} {v : Value} (I : Inv X pins σ H s) (r : RelV x v) (ty : tyV X.K T x H) :
    s.TypeIs v T ∧ ∀ a, v = .ref a → ∃ ob, s.heap.get? a = some ob ∧ ob.dict = none := by
  cases x with
  | str z =>
    obtain ⟨t, rfl⟩ := r
    cases (show T = "str" from ty)
    exact ⟨typeIs_str s z t, fun _ e => nomatch e⟩
  | int i =>
    obtain ⟨t, rfl⟩ := r
    cases (show T = "int" from ty)
    exact ⟨typeIs_int s i t, fun _ e => nomatch e⟩
  | ref p =>
    cases r
    rcases ty with ⟨rfl, xs, hq⟩ | ⟨rfl, o, hk, hc, hd⟩ | ⟨rfl, hk⟩ | ⟨rfl, S, n, hk⟩
    · obtain ⟨its, _, pl, _⟩ := I.list hq
      refine ⟨pl.isList.typeIs, fun a e => ?_⟩
      cases e
      obtain ⟨o, n, e, c, hd, _⟩ := pl
      exact ⟨o, e, hd⟩
    · refine ⟨⟨o, I.kIn p o hk, hc⟩, fun a e => ?_⟩
      cases e
      exact ⟨o, I.kIn _ o hk, hd⟩
    · have z : ∃ o, s.heap.get? p = some o ∧ o.ExactDict := by
        rcases hk with ⟨kvs, hk⟩ | ⟨kvs, hk⟩
        · obtain ⟨_, _, _, _, o, _, _, e, ex, _⟩ := I.hok p _ hk
          exact ⟨o, e, ex⟩
        · obtain ⟨_, _, _, _, o, _, _, e, ex, _⟩ := I.hok p _ hk
          exact ⟨o, e, ex⟩
      obtain ⟨o, e, ex⟩ := z
      refine ⟨⟨o, e, ex.1⟩, fun a e2 => ?_⟩
      cases e2
      exact ⟨o, e, ex.2.1⟩
    · obtain ⟨o, _, _, _, e, ex, _⟩ := I.hok p _ hk
      refine ⟨⟨o, e, ex.1⟩, fun a e2 => ?_⟩
      cases e2
      exact ⟨o, e, ex.2.1⟩
  | _ => exact False.elim ty
def tBM0 (K : PySem.W.Frag) (T : String) (r : V → List V → Hp → VK → Prop) (to : TE) : TE := fun σ H Q => to σ H fun x H1 => tyV K T x H1 ∧ r x [] H1 Q
def tBM (K : PySem.W.Frag) (T : String) (r : V → List V → Hp → VK → Prop) (to : TE) (t : TA) : TE := fun σ H Q => to σ H fun x H1 => tyV K T x H1 ∧ t σ H1 fun xs H2 => r x xs H2 Q
variable {o e : Expr} {es : List Expr} {to : TE} {t : TA} {name : Str} {apos cpos : Pos} {T id : String} {r : V → List V → Hp → VK → Prop}
theorem pe_bm (pa : PlainAttrs T) (slot : Slot T name id) (hty : typeOf (.builtin id) = pure (.type "method_descriptor")) (hm : MtR X id r) (ho : PE X o to) (ha : PA X (e :: es) t)
    (hbase : attributeBase o name X.env (eval o X.env) = eval o X.env := by rfl)
    (hfew : ((backTo cpos (starEach (e :: es) X.env)).all (fun x => !x.1) && (backToKw cpos (keywordEach [] X.env)).all (fun x => x.1.isSome)
      && decide ((e :: es).length + ([] : List Keyword).length + (if ([] : List Keyword).isEmpty then 0 else 1) < 30)) = true := by rfl)
    (hline : (apos.endLine == cpos.line) = true := by rfl) (hs : starEach (e :: es) X.env = (false, eval e X.env) :: starEach es X.env := by rfl) (hplain : (backTo cpos (starEach es X.env)).any (·.1) = false := by rfl) :
    PE X (.Call (.Attribute o name apos) (e :: es) [] cpos) (tBM X.K T r to t) := by
  intro pins s σ H Q I h
  refine wpAny_Call_method_late hbase hfew hline rfl (thn (ho pins s σ H _ I h) fun v s1 ⟨x, H1, I1, r1, ty, q1⟩ => ?_)
  obtain ⟨h1, h2⟩ := tyV_is I1 r1 ty
  refine ⟨T, id, pa, slot, hty, h1, h2, ?_⟩
  have hA := ha cpos pins s1 σ H1 _ I1 q1
  rw [hs] at hA ⊢
  refine Calls.callWith_builtin (by show (false || (backTo cpos (starEach es X.env)).any (·.1)) = false; rw [hplain] <;> rfl) (Calls.evalArgs_plain ?_)
  exact thn hA fun us s2 ⟨vs, H2, I2, r2, q2⟩ => hm pins s2 σ H2 x vs v us Q I2 r1 r2 q2
end
end L2
namespace L2
open PySem PySem.Spec PyProof.Rows
def MtM (X : Cx) (id : String) (r : V → List V → Hp → VK → Prop) : Prop :=
  ∀ (pins : List (Addr × Obj)) (s : Shared) (σ : St) (H : Hp) (x : V) (xs : List V) (v : Value) (us : List Value) (Q : VK), Inv X pins σ H s → RelV x v → Vals xs us → r x xs H Q →
    wpAny (model X.prog X.w) X.A (call (.builtin id) (v :: us)) (EP X pins σ Q) X.xe s
theorem Vals.one : ∀ {x : V} {us : List Value}, Vals [x] us → ∃ u, us = [u] ∧ RelV x u
  | _, _, .cons r .nil => ⟨_, rfl, r⟩
theorem Vals.two : ∀ {x y : V} {us : List Value}, Vals [x, y] us → ∃ u v, us = [u, v] ∧ RelV x u ∧ RelV y v
  | _, _, _, .cons r (.cons q .nil) => ⟨_, _, rfl, r, q⟩
theorem Vals.zero : ∀ {us : List Value}, Vals [] us → us = []
  | _, .nil => rfl
theorem Vals.dropLast {xs : List V} {us : List Value} (h : Vals xs us) : Vals xs.dropLast us.dropLast := by
  induction h with
  | nil => exact .nil
  | cons r t ih =>
    cases t with
    | nil => exact .nil
    | cons q t' => exact .cons r ih
theorem Vals.eraseIdx : ∀ {xs : List V} {us : List Value} (i : Nat), Vals xs us → Vals (xs.eraseIdx i) (us.eraseIdx i)
  | _, _, _, .nil => .nil
  | _, _, 0, .cons _ t => t
  | _, _, i + 1, .cons r t => .cons r (Vals.eraseIdx i t)
theorem Vals.reverse {xs : List V} {us : List Value} (h : Vals xs us) : Vals xs.reverse us.reverse := by
  induction h with
  | nil => exact .nil
  | cons r t ih => rw [List.reverse_cons, List.reverse_cons]; exact Vals.append ih (.cons r .nil)
section
variable {X : Cx} {pins : List (Addr × Obj)} {σ : St} {H : Hp} {s : Shared} {l b : Addr} {xs ys zs : List V}
theorem Inv.lset {its its' : List Value} {n : Nat} {f : Array Value → Array Value} {t' : Nat} (I : Inv X pins σ H s) (hH : H l = some (.lst xs))
    (e : s.heap.get? l = some { cls := .type "list", data := .seq its.toArray n }) (hf : f its.toArray = its'.toArray) (hv : Vals ys its') (hz : ys.length ≤ sizeLine) :
    Inv X pins σ (upd H l (.lst ys)) { s with heap := s.heap.update l (Obj.mapSeq f), toks := t' } := by
  have q := PySem.IsL.update e f
  rw [hf] at q
  refine I.write (x := l) (e := l) (by rw [hH]; exact trivial) (.inl rfl) (fun b' u hb hu => (Heap.get?_update_other s.heap (Obj.mapSeq f) (Ne.symm hb)).trans hu) ⟨_, q⟩ ?_
  exact ⟨hz, its', _, hv, q⟩
theorem Inv.lnew {its : List Value} {t' : Nat} (I : Inv X pins σ H s) (hv : Vals ys its) (hz : ys.length ≤ sizeLine) :
    Inv X pins σ (upd H s.heap.objs.size (.lst ys)) { s with heap := s.heap.push { cls := .type "list", data := .seq its.toArray }, toks := t' } :=
  I.laid (fun _ _ q => Heap.get?_push_of_some _ q) (Nat.le_refl _) ⟨hz, its, 0, hv, Heap.get?_push_size _ rfl⟩
theorem Inv.fresh (I : Inv X pins σ H s) : H s.heap.objs.size = none := I.hok.fresh (Nat.le_refl _)
theorem Inv.lstM (I : Inv X pins σ H s) (hH : H l = some (.lst xs)) : xs.length ≤ sizeLine ∧ ∃ (its : List Value) (n : Nat), Vals xs its ∧ xs.length = its.length ∧ s.heap.get? l = some { cls := .type "list", data := .seq its.toArray n } := by
  obtain ⟨z, its, n, r, e⟩ := I.hok l _ hH
  exact ⟨z, its, n, r, r.length, e⟩
theorem notLongL {n : Nat} (h : n ≤ sizeLine) : Builtin.List.listTooLong n = false := by
  unfold Builtin.List.listTooLong
  exact decide_eq_false (by omega)
end
section
variable {X : Cx}
def rAppend : V → List V → Hp → VK → Prop := fun x vs H Q => ∃ l xs y, x = .ref l ∧ vs = [y] ∧ H l = some (.lst xs) ∧ xs.length < sizeLine ∧ Q .non (upd H l (.lst (xs ++ [y])))
theorem mt_append : MtM X "list.append" rAppend := by
  intro pins s σ H x vs v us Q I rx rv h
  obtain ⟨l, xs, y, rfl, rfl, hH, hz, q⟩ := h
  cases rx
  obtain ⟨u, rfl, ru⟩ := rv.one
  obtain ⟨z, its, n, r, hl, e⟩ := I.lstM hH
  refine call_meets F.slot_list_append ⟨_, e, rfl⟩ F.entry_list_append (F.args_list_append_2 _ _) (PySem.list_append l its.toArray n u (by rw [List.size_toArray]; omega)) ⟨e, ?_⟩
  refine ⟨.non, _, I.lset (its' := its ++ [u]) hH e (by simp) (r.append (.cons ru .nil)) ?_, rfl, q⟩
  rw [List.length_append, List.length_singleton]
  omega
def rExtend : V → List V → Hp → VK → Prop := fun x vs H Q => ∃ l b xs zs, x = .ref l ∧ vs = [.ref b] ∧ H l = some (.lst xs) ∧ H b = some (.lst zs) ∧ xs.length + zs.length ≤ sizeLine ∧ Q .non (upd H l (.lst (xs ++ zs)))
theorem mt_extend : MtM X "list.extend" rExtend := by
  intro pins s σ H x vs v us Q I rx rv h
  obtain ⟨l, b, xs, zs, rfl, rfl, hH, hB, hz, q⟩ := h
  cases rx
  obtain ⟨u, rfl, ru⟩ := rv.one
  cases ru
  obtain ⟨z, its, n, r, hl, e⟩ := I.lstM hH
  obtain ⟨z2, its2, n2, r2, hl2, e2⟩ := I.lstM hB
  have hsz : its.toArray.size + its2.toArray.size ≤ sizeLine := by rw [List.size_toArray, List.size_toArray]; omega
  have hlong : ¬ (!its.toArray.isEmpty && Builtin.List.listTooLong (its.toArray.size + its2.toArray.size)) = true := by
    rw [notLongL hsz, Bool.and_false]
    exact Bool.false_ne_true
  refine call_meets F.slot_list_extend ⟨_, e, rfl⟩ F.entry_list_extend (F.args_list_extend_2 _ _)
    (AutoSeq1.list_extend_list_list_0 l its.toArray n b its2.toArray n2 hlong (by rw [List.size_toArray]; omega) (by omega)) ⟨e, e2, ?_⟩
  refine ⟨.non, _, I.lset (its' := its ++ its2) hH e (by simp) (r.append r2) ?_, rfl, q⟩
  rw [List.length_append]
  omega
def rPop : V → List V → Hp → VK → Prop := fun x vs H Q => ∃ l xs y, x = .ref l ∧ vs = [] ∧ H l = some (.lst xs) ∧ xs[xs.length - 1]? = some y ∧ Q y (upd H l (.lst xs.dropLast))
def rPopAt : V → List V → Hp → VK → Prop := fun x vs H Q => ∃ l xs i k y, x = .ref l ∧ vs = [.int i] ∧ H l = some (.lst xs) ∧ -(2 ^ 63) ≤ i ∧ i < 2 ^ 63 ∧ seqIndex? i xs.length = some k ∧ xs[k]? = some y ∧ Q y (upd H l (.lst (xs.eraseIdx k)))
def rReverse : V → List V → Hp → VK → Prop := fun x vs H Q => ∃ l xs, x = .ref l ∧ vs = [] ∧ H l = some (.lst xs) ∧ Q .non (upd H l (.lst xs.reverse))
def rClear : V → List V → Hp → VK → Prop := fun x vs H Q => ∃ l xs, x = .ref l ∧ vs = [] ∧ H l = some (.lst xs) ∧ Q .non (upd H l (.lst []))
def rCat : R2 := fun x y H Q => ∃ l b xs zs, x = .ref l ∧ y = .ref b ∧ H l = some (.lst xs) ∧ H b = some (.lst zs) ∧ xs.length + zs.length ≤ sizeLine ∧ ∀ p, H p = none → Q (.ref p) (upd H p (.lst (xs ++ zs)))
theorem op_cat : OpR X (binaryOp .Add) rCat := by
  intro pins s σ H x y v u Q I rx ry h
  obtain ⟨l, b, xs, zs, rfl, rfl, hH, hB, hz, q⟩ := h
  cases rx
  cases ry
  obtain ⟨z, its, n, r, hl, e⟩ := I.lstM hH
  obtain ⟨z2, its2, n2, r2, hl2, e2⟩ := I.lstM hB
  refine PySem.P.add_list e e2 ?_ (by rw [List.size_toArray, List.size_toArray]; omega)
  have ea : its.toArray ++ its2.toArray = (its ++ its2).toArray := by simp
  rw [ea]
  exact ⟨.ref _, _, I.lnew (t' := s.toks) (r.append r2) (by rw [List.length_append]; omega), rfl, q _ I.fresh⟩
def rRep : R2 := fun x y H Q => ∃ l k xs, x = .ref l ∧ y = .int k ∧ H l = some (.lst xs) ∧ -(2 ^ 63) ≤ k ∧ k < 2 ^ 63 ∧ xs.length * k.toNat ≤ sizeLine ∧
  ∀ p, H p = none → Q (.ref p) (upd H p (.lst (List.replicate k.toNat xs).flatten))
end
section
variable {prog : Program} {w : World} {A : Around} {E : Value → Shared → Prop} {s : Shared}
set_option maxRecDepth 100000 in
end
section
variable {X : Cx}
end
end L2
namespace Att
open PySem PySem.W PySem.Calls PyProof.Rows
theorem ints_of_wellAll {P : Params} {h : Heap} : ∀ (ns : List Int) (vs : List Value), WellAll P h vs (ns.map WData.int) → IntsAre vs ns := by
  intro ns
  induction ns with
  | nil =>
    intro vs w
    rw [List.map_nil] at w
    cases w
    exact .nil
  | cons n ns ih =>
    intro vs w
    rw [List.map_cons] at w
    cases w with
    | cons a b =>
      cases a
      exact .cons _ _ (ih _ b)
theorem script_of {l : OpenLaw} {n : Nat} (hn : l.most = some n) {P : Params} {h : Heap} {args : List WData} {vals : List Value}
    (hpre : l.row.toRowW.claim.pre args = true) (hwl : WellAll P h vals args) :
    ∃ a vs ns, vals = [Value.ref a] ∧ args = [WData.list (ns.map WData.int)] ∧ h.get? a = some { cls := .type "list", data := .seq vs.toArray } ∧ IntsAre vs ns ∧ ns.length ≤ n := by
  have hsh : WShape.hasAll [] args [.list .int] = true := (pre_splitW hpre).1
  have hc : l.pre.holds [] { args := args } = true := (pre_splitW hpre).2
  obtain ⟨d, r, rfl, h1, h2⟩ := hasAllW_cons hsh
  obtain rfl := hasAllW_nil h2
  obtain ⟨xs, rfl, h3⟩ := hasW_list h1
  obtain ⟨ns, rfl⟩ := items_int h3
  have hlen : ns.length ≤ n := by
    unfold OpenLaw.pre at hc
    have h4 : (WTm.not (.lt (.lit (.int (n : Int))) (.len (.arg 0)))).holds [] { args := [.list (ns.map .int)] } = true := by
      have h4 := (holds_andW hc).1
      rw [hn] at h4
      exact h4
    have h5 := condW_of h4 (w_not (w_lt w_lit (w_len_list (w_arg rfl))))
    rw [List.length_map] at h5
    refine Nat.le_of_not_lt fun q => ?_
    have q' : (n : Int) < ((ns.length : Nat) : Int) := by omega
    first
      | (rw [decide_eq_true q'] at h5; exact absurd h5 (by decide))
      | (simp at h5; omega)
  cases hwl with
  | cons w1 w2 =>
    cases w2
    cases w1 with
    | list ho hall => exact ⟨_, _, ns, rfl, rfl, ho, ints_of_wellAll ns _ hall, hlen⟩
theorem post_true (l : OpenLaw) (args : List WData) : l.row.toRowW.claim.post args (.bool true) args = true :=
  postW_of (r := l.row.toRowW) (X := (true == true))
    (show WShape.has [] (.bool true) .bool = true by first | rfl | decide | simp [WShape.has, WShape.arms, WShape.armsAll])
    (show (WTm.eq .res (.lit (.bool true))).value [] { args := args, res := some (.bool true), after := args } = some (.bool (true == true)) from w_eq_bool (w_res rfl) w_lit) rfl
theorem attach_call {l : OpenLaw} {n : Nat} {q : Program} {loose : List Str} {XP : (Str → Option Value) → Heap → Prop} {YP : World → Heap → Prop} {d : DefRec}
    (hn : l.most = some n) (hdf : d.params.defaults = [])
    (call : ∀ (w : World) (s₀ s₁ : Shared) (mg mb : Str → Option Value) (fa : Addr) (o : Obj) (pm cd doc : Value) (a : Addr) (vs : List Value) (ns : List Int),
      Ground q loose [] XP w s₀ mg mb s₁.heap → YP w s₁.heap →
      s₁.heap.get? fa = some o → o.data = .func (docDef d.name d.params d.body d.scope pm cd doc) → s₁.heap.CodeRec cd d.name → mg d.name = some (.ref fa) →
      s₁.heap.get? a = some { cls := .type "list", data := .seq vs.toArray } → IntsAre vs ns → ns.length ≤ n → s₁.gens = #[] →
      codeAny (model l.prog w) callerA (.call (.ref fa) ⟨[.ref a], []⟩) (fun r s' => r = .ok (.ret (.bool true)) ∧ OldK s₁.heap s'.heap ∧ s'.os = s₁.os ∧ AllBare s'.gens) s₁) :
    WalkO q loose XP YP l.row.toRowW d [] (fun f vs => PySem.call f vs) := by
  intro w s₀ s₁ mg mb G Y fa o pm cd doc dV kV ho hd hcd hD hmg hg args vals as hpre hlay hrd hwl hlo
  obtain rfl : dV = .none := Dflts.none hD hdf
  obtain rfl : kV = .none := Dflts.noKw hD
  obtain ⟨a, vs, ns, rfl, rfl, hobj, hints, hlen⟩ := script_of hn hpre hwl
  refine enter_call (codeAny_mono (call w s₀ s₁ mg mb fa o pm cd doc a vs ns G Y ho (fd_plain hd) hcd hmg hobj hints hlen hg) fun r s' hq => ?_)
  obtain ⟨rfl, h2, h3, h4⟩ := hq
  exact ⟨.inl ⟨.bool true, .bool true, [], rfl, fun _ => rfl, .bool true, post_true l _, fun _ => ⟨List.Pairwise.nil, fun _ hm => (nomatch hm)⟩⟩, h2, h3, h4⟩
section
variable {prog : Program} {w : World} {A : Around} {E : Value → Shared → Prop} {s : Shared} {K : Frag}
def noObjs (h : Heap) : Heap := { h with objs := #[] }
def ledger (h : Heap) (L d : Addr) : List (Addr × Obj) := (List.range h.objs.size).filterMap fun a => if a = L ∨ a = d then none else (h.get? a).map fun o => (a, o)
end
end Att
namespace L2
open PySem PySem.Spec PyProof.Rows
theorem vals_ints : ∀ {vs : List Value} {ns : List Int}, IntsAre vs ns → Vals (ns.map V.int) vs
  | _, _, .nil => .nil
  | _, _, .cons n t h => .cons ⟨t, rfl⟩ (vals_ints h)
def Only (H : Hp) : Prop := ∀ b, H b = none ∨ ∃ o xs, H b = some (.frz o (.lst xs))
theorem law_call {P : Program} {w : World} {K : PySem.W.Frag} {mg mb : Str → Option Value} {CX : CXT} {k : Nat} {fa a : Addr} {fd : FuncData} {x : Str} {sp : Sp} {s₁ : Shared} {vs : List Value} {ns : List Int}
    (KX : K.In s₁.heap) (hns : s₁.heap.Ns mainGlobals mg) (hb : s₁.heap.Ns builtinsNs mb) (hbb : ∀ x : Str, x ≠ "__name__" → mb x = bootBuiltins x) (hlim : s₁.heap.NoLimit) (hg : s₁.gens = #[])
    (ha : s₁.heap.get? a = some { cls := .type "list", data := .seq vs.toArray }) (hi : IntsAre vs ns) (hl : ns.length ≤ sizeLine) (hr : Room k callerA)
    (F : ∀ base : Heap, K.In base → base.Ns mainGlobals mg → FnOk P w K mg base CX k fa fd [x] sp) (hbind : ∀ (s : Shared) (u : Value), BindsTo s fd ⟨[u], []⟩ [(x, u)])
    (hsp : ∀ H : Hp, Only H → SqL K H a (ns.map V.int) → sp [.ref a] H (fun v _ => v = .bl true) fun _ _ _ => False)
    (hCX : ∀ H e s', CX [] H s₁ (fun _ _ _ => False) e s' → False) :
    codeAny (model P w) callerA (.call (.ref fa) ⟨[.ref a], []⟩) (fun r s' => r = .ok (.ret (.bool true)) ∧ OldK s₁.heap s'.heap ∧ s'.os = s₁.os ∧ AllBare s'.gens) s₁ := by
  have rv := vals_ints hi
  have lenV := hi.length
  have core : ∀ H : Hp, Only H → SqL K H a (ns.map V.int) → HOk P w H s₁.heap → (∀ b, H b ≠ none → b = a) → (H a ≠ none → K.lookup a = none) →
      codeAny (model P w) callerA (.call (.ref fa) ⟨[.ref a], []⟩) (fun r s' => r = .ok (.ret (.bool true)) ∧ OldK s₁.heap s'.heap ∧ s'.os = s₁.os ∧ AllBare s'.gens) s₁ := by
    intro H hO hS hok hA hK
    have base_of : ∀ {b : Addr} {o : Obj}, s₁.heap.get? b = some o → H b = none → (hidT s₁.heap H).get? b = some o := fun e n => hidT_get e n
    have noA : ∀ {b : Addr} {o : Obj} {es : Array DictEntry} {ep : Nat}, s₁.heap.get? b = some o → o.data = .dict es ep → H b = none := fun {b o es ep} e d => by
      cases q : H b with
      | none => rfl
      | some u =>
        have e' : b = a := hA b (by rw [q]; simp)
        subst e'
        rw [ha] at e; cases e
        have d' : Data.seq vs.toArray _ = Data.dict es ep := d
        cases d'
    have nsK : ∀ {b : Addr} {m : Str → Option Value}, s₁.heap.Ns b m → (hidT s₁.heap H).Ns b m := fun {b m} ⟨o, es, ep, e, d, r⟩ => ⟨o, es, ep, base_of e (noA e d), d, r⟩
    have hKb : K.In (hidT s₁.heap H) := fun b o e => base_of (KX b o e) (by
      cases q : H b with
      | none => rfl
      | some u =>
        have e' : b = a := hA b (by rw [q]; simp)
        subst e'
        rw [hK (by rw [q]; simp)] at e; cases e)
    have hM : Mod K mg (hidT s₁.heap H) := ⟨hKb, nsK hns, ⟨mb, nsK hb, hbb⟩, let ⟨mc, h1, h2⟩ := hlim; ⟨mc, nsK h1, h2⟩⟩
    have e0 : Env0 P w K mg (hidT s₁.heap H) callerA [] s₁ H := ⟨rfl, hM, fun b o e => of_hidT e, Nat.le_of_eq (hidT_size _ _), trivial, fun b hb => absurd (show b ∈ ([] : List Addr) from hb) (by simp), hok, .of_eq hg⟩
    refine codeAny_mono ((F _ hKb (nsK hns)).run callerA [] s₁ H ⟨[.ref a], []⟩ [.ref a] [.ref a] _ _ hr e0 (hbind s₁ (.ref a)) (.cons rfl .nil) (hsp H hO hS)) fun r s' h => ?_
    cases r with
    | error e => exact (hCX H e s' h).elim
    | ok fl =>
      cases fl with
      | next => exact False.elim h
      | brk => exact False.elim h
      | cont => exact False.elim h
      | ret u =>
        obtain ⟨v, H', os, bare, un, hok', r', q⟩ := h
        have q' : v = .bl true := q
        subst q'
        obtain rfl : u = Value.bool true := r'
        refine ⟨rfl, OldK.of_keep fun b o e => ?_, os, bare⟩
        cases q : H b with
        | none => exact un.keep b o e q (by intro z; exact absurd (show b ∈ ([] : List Addr) from z) (by simp)) (by simp)
        | some u =>
          rcases hO b with z | ⟨ob, xs, z⟩
          · rw [q] at z; cases z
          · have z2 := un.frzs b ob _ z
            obtain ⟨e1, _⟩ := hok b _ z
            obtain ⟨e2, _⟩ := hok' b _ z2
            rw [e] at e1; cases e1
            exact e2
  cases hk : K.lookup a with
  | some o =>
    have e := KX a o hk
    rw [ha] at e
    cases e
    refine core (fun _ => none) (fun _ => .inl rfl) (.inr ⟨_, vs.toArray, _, hk, rfl, rfl, rfl, by rw [List.size_toArray, lenV]; exact hl, by simpa using rv⟩) (fun b u z => by have z' : (none : Option HO) = some u := z; cases z') (fun b z => absurd rfl z) fun z => absurd rfl z
  | none =>
    refine core (fun b => if b = a then some (.frz { cls := .type "list", data := .seq vs.toArray } (.lst (ns.map V.int))) else none) (fun b => ?_) (.inl (.inr ⟨{ cls := .type "list", data := .seq vs.toArray }, if_pos rfl⟩)) (fun b u z => ?_) (fun b z => ?_) fun _ => hk
    · by_cases hb : b = a
      · exact .inr ⟨_, _, if_pos hb⟩
      · exact .inl (if_neg hb)
    · by_cases hb : b = a
      · have z' := (if_pos hb).symm.trans z
        cases z'
        subst hb
        exact ⟨ha, by rw [List.length_map]; exact hl, vs, _, rv, ha⟩
      · have z' := (if_neg hb).symm.trans z
        cases z'
    · by_cases hb : b = a
      · exact hb
      · exact absurd (if_neg hb) z
end L2
namespace L2
open PySem PySem.Spec PyProof.Rows
abbrev KOf {K : PySem.W.Frag} {h : Heap} (_ : K.In h) : PySem.W.Frag := K
theorem walk_of {l : PySem.W.OpenLaw} {n k : Nat} {q : Program} {loose : List Str} {XP : (Str → Option Value) → Heap → Prop} {YP : World → Heap → Prop} {d : DefRec} {K : Params → PySem.W.Frag} {CX : World → CXT} {sp : World → Sp} {x : Str}
    (hn : l.most = some n) (hn2 : n ≤ sizeLine) (hdf : d.params.defaults = []) (hr : Room k callerA)
    (hY : ∀ (w : World) (h : Heap), YP w h → (K w.params).In h)
    (F : ∀ (w : World) (mg : Str → Option Value) (fa : Addr) (h : Heap), (K w.params).In h → h.Ns mainGlobals mg → mg d.name = some (.ref fa) →
      ∃ fd : FuncData, (∀ (s : Shared) (u : Value), BindsTo s fd ⟨[u], []⟩ [(x, u)]) ∧
        ∀ base : Heap, (K w.params).In base → base.Ns mainGlobals mg → FnOk l.prog w (K w.params) mg base (CX w) k fa fd [x] (sp w))
    (hsp : ∀ (w : World) (H : Hp) (a : Addr) (ns : List Int), ns.length ≤ n → Only H → SqL (K w.params) H a (ns.map V.int) → sp w [.ref a] H (fun v _ => v = .bl true) fun _ _ _ => False)
    (hCX : ∀ (w : World) (H : Hp) (s : Shared) (e : Value) (s' : Shared), CX w [] H s (fun _ _ _ => False) e s' → False) :
    PySem.W.WalkO q loose XP YP l.row.toRowW d [] (fun f vs => PySem.call f vs) := by
  refine Att.attach_call hn hdf fun w s₀ s₁ mg mb fa o pm cd doc a vs ns G Y ho hd hcd hmg hobj hints hlen hg => ?_
  have KX := hY w _ Y
  obtain ⟨fd, hb, hF⟩ := F w mg fa _ KX G.T.g hmg
  exact law_call KX G.T.g G.T.b G.T.builtins G.T.nolimit hg hobj hints (Nat.le_trans hlen hn2) hr hF hb (fun H hO hS => hsp w H a ns hlen hO hS) fun H e s' => hCX w H s₁ e s'
end L2
namespace L2
open PySem PySem.Spec PyProof.Rows
def inClass (s : Stmt) (j : Nat) : Stmt := match s with
  | .ClassDef _ _ _ body _ _ _ _ _ _ _ => body.getD j (.Pass ⟨0, 0, 0, 0⟩)
  | _ => .Pass ⟨0, 0, 0, 0⟩
def defArgs (s : Stmt) : Arguments := match s with
  | .FunctionDef _ a _ _ _ _ _ _ _ _ => a
  | _ => { posonlyargs := [], args := [], vararg := none, kwonlyargs := [], kw_defaults := [], kwarg := none, defaults := [] }
def defBody (s : Stmt) : List Stmt := match s with
  | .FunctionDef _ _ b _ _ _ _ _ _ _ => b
  | _ => []
def defScope (s : Stmt) : Scope := match s with
  | .FunctionDef _ _ _ _ _ _ sc _ _ _ => sc
  | _ => { kind := .function, names := [], isGenerator := false, isCoroutine := false }
abbrev CX0 : CXT := fun _ _ _ _ _ _ => False
abbrev E0 : XK := fun _ _ _ => False
structure Fun (K : PySem.W.Frag) (x qual : Str) (st : Stmt) (f : Addr) (fd : FuncData) : Prop where
  ex : ∃ (oc : Value) (od : Option Addr) (kV doc pm : Value) (an : Option Addr) (cdv ct : Value) (osl : Array (Option Value)),
    fd = PySem.W.fnOf x qual (defArgs st) (defBody st) (defScope st) .none kV doc pm an cdv ct ∧ K.lookup f = some ⟨oc, od, .func fd, osl⟩ ∧ PySem.W.codeIn K cdv qual = true
  kp : PySem.W.keepIn K (.ref f) = true
section
variable {P : Program} {w : World} {K : PySem.W.Frag} {mg : Str → Option Value} {base : Heap}
theorem Fun.ok {x qual : Str} {st : Stmt} {f : Addr} {fd : FuncData} {N ps : List Str} {k : Nat} {sp : Sp} (F : Fun K x qual st f fd) (S : FnScope N ps (defScope st)) (len : ∀ vs H Q E, sp vs H Q E → vs.length = ps.length)
    (hbody : ∀ (cdv : Value) (A : Around) (outer : List Env) (s : Shared) (H : Hp) (vs : List V) (Q : VK) (E : XK), Room k (A.deeper (envOfC qual (defScope st) s.heap.objs.size f cdv)) → sp vs H Q E →
      ∃ t, PSs (cxOf CX0 P w K mg base N qual (defScope st) f cdv A outer s H E).nox (defBody st) t ∧ t { nx := fun _ H' => Q .non H', rt := Q } (start N vs) H) : FnOk P w K mg base CX0 (k + 1) f fd ps sp := by
  obtain ⟨oc, od, kV, doc, pm, an, cdv, ct, osl, rfl, lk, hcd⟩ := F.ex
  refine fn_of lk hcd S len fun A outer s H vs Q E hr hsp => ?_
  obtain ⟨t, h, q⟩ := hbody cdv A outer s H vs Q E hr hsp
  exact ⟨t, h.nox, q⟩
theorem Fun.binds {x qual : Str} {st : Stmt} {f : Addr} {fd : FuncData} {ps : List Str} (F : Fun K x qual st f fd)
    (h : ∀ (kV doc pm : Value) (an : Option Addr) (cdv ct : Value) (us : List Value), us.length = ps.length → bindArgs (PySem.W.fnOf x qual (defArgs st) (defBody st) (defScope st) .none kV doc pm an cdv ct) ⟨us, []⟩ = pure (ps.zip us)) : Binds K fd ps [] := by
  obtain ⟨oc, od, kV, doc, pm, an, cdv, ct, osl, rfl, lk, hcd⟩ := F.ex
  exact .all (h kV doc pm an cdv ct)
theorem fun_mk {x qual : Str} {st : Stmt} {f : Addr} {oc : Value} {od an : Option Addr} {osl : Array (Option Value)} {kV doc pm cdv ct : Value} (l : K.lookup f = some ⟨oc, od, .func (PySem.W.fnOf x qual (defArgs st) (defBody st) (defScope st) .none kV doc pm an cdv ct), osl⟩)
    (c : PySem.W.codeIn K cdv qual = true) (k : PySem.W.keepIn K (.ref f) = true) : Fun K x qual st f (PySem.W.fnOf x qual (defArgs st) (defBody st) (defScope st) .none kV doc pm an cdv ct) := ⟨⟨oc, od, kV, doc, pm, an, cdv, ct, osl, rfl, l, c⟩, k⟩
end
theorem hu_of {A : Around} {k : Nat} (hr : Room k A) : A.units + 1 < cLine := Nat.lt_of_le_of_lt (Nat.add_le_add_left (by decide : 1 ≤ 64) _) hr.units
theorem small1000 {n : Nat} (h : n ≤ 1000) : n < sizeLine := Nat.lt_of_le_of_lt h (by decide)
section
variable {X : Cx}
theorem pv (i : Nat) {x : Str} {pos : Pos} (hN : X.N[i]? = some x := by rfl) (hv : Vis X.env.scope x := by first | exact Or.inl rfl | exact Or.inr (Or.inl rfl) | exact Or.inr (Or.inr rfl)) (hd : (x == ("__debug__" : Str)) = false := by decide)
    (hcd : (x == ("__classdict__" : Str)) = false := by decide) : PE X (.Name x pos) (tVar i) := pe_var hN hv hd hcd
end
theorem iteF {A B : Prop} (h : B) : if false = true then A else B := by
  rw [if_neg Bool.false_ne_true]
  exact h
theorem iteT {A B : Prop} (h : A) : if true = true then A else B := by
  rw [if_pos rfl]
  exact h
theorem ite2 {c A B : Prop} [Decidable c] (h1 : c → A) (h2 : ¬ c → B) : if c then A else B := by
  by_cases h : c
  · rw [if_pos h]
    exact h1 h
  · rw [if_neg h]
    exact h2 h
theorem iteNS {c A B : Prop} [Decidable c] (hc : c) (h : B) : if (!decide c) = true then A else B := by
  rw [decide_eq_true hc]
  exact iteF h
def Same (H H' : Hp) : Prop := ∀ b o, H b = some o → H' b = some o
theorem Same.refl (H : Hp) : Same H H := fun _ _ h => h
theorem Same.trans {H H1 H2 : Hp} (a : Same H H1) (b : Same H1 H2) : Same H H2 := fun c o h => b c o (a c o h)
theorem Same.free {H H' : Hp} (e : Same H H') {l : Addr} (h : H' l = Option.none) : H l = Option.none := by
  cases q : H l with
  | none => rfl
  | some o =>
    rw [e l o q] at h
    cases h
theorem Same.seq {K : PySem.W.Frag} {H H' : Hp} {a : Addr} {xs : List V} (e : Same H H') (h : SqL K H a xs) : SqL K H' a xs := by
  rcases h with (h | ⟨o, h⟩) | h
  · exact .inl (.inl (e _ _ h))
  · exact .inl (.inr ⟨o, e _ _ h⟩)
  · exact .inr h
end L2
namespace L2
open PySem PySem.Spec PyProof.Rows
def clF (env : Env) : List (Str × NameKind) → List (Str × Addr) → List (Str × Addr)
  | [], cs => cs
  | (n, k) :: r, cs => clF env r (if k == .free then (n, (env.cells.lookup n).getD 0) :: cs else cs)
theorem closureFor_of {sc : Scope} {env : Env} (h : ∀ n, (n, NameKind.free) ∈ sc.names → ∃ c, env.cells.lookup n = some c) : closureFor sc env = pure (clF env sc.names []) := by
  simp only [closureFor]
  have all : ∀ (ns : List (Str × NameKind)) (cs : List (Str × Addr)), (∀ n, (n, NameKind.free) ∈ ns → ∃ c, env.cells.lookup n = some c) →
      (forIn ns cs fun x r => if (x.2 == NameKind.free) = true then do let a ← cellOf env x.1; pure (ForInStep.yield ((x.1, a) :: r)) else pure (ForInStep.yield r)) = (pure (clF env ns cs) : Sem _) := by
    intro ns
    induction ns with
    | nil => intro cs _; rfl
    | cons x r ih =>
      intro cs hh
      obtain ⟨n, k⟩ := x
      rw [List.forIn_cons]
      by_cases hk : (k == NameKind.free) = true
      · have hk' : k = .free := by simpa using hk
        subst hk'
        obtain ⟨c, hc⟩ := hh n (List.mem_cons_self ..)
        have e : cellOf env n = pure c := by unfold cellOf; rw [hc]
        have z := ih ((n, c) :: cs) fun m hm => hh m (List.mem_cons_of_mem _ hm)
        have e2 : clF env ((n, NameKind.free) :: r) cs = clF env r ((n, c) :: cs) := by
          show clF env r (if (NameKind.free == NameKind.free) = true then (n, (env.cells.lookup n).getD 0) :: cs else cs) = _
          rw [if_pos (by decide), hc]; rfl
        rw [e2, ← z, if_pos (show (NameKind.free == NameKind.free) = true by decide), e]
        rfl
      · have z := ih cs fun m hm => hh m (List.mem_cons_of_mem _ hm)
        have e2 : clF env ((n, k) :: r) cs = clF env r cs := by
          show clF env r (if (k == NameKind.free) = true then _ else cs) = _
          rw [if_neg hk]
        rw [e2, ← z, if_neg hk]
        rfl
  rw [all sc.names [] h]
  rfl
theorem clF_lookup {env : Env} {x : Str} {c : Addr} : ∀ (ns : List (Str × NameKind)) (cs : List (Str × Addr)), (∀ n, (n, NameKind.free) ∈ ns → ∃ c, env.cells.lookup n = some c) → (∀ c, cs.lookup x = some c → env.cells.lookup x = some c) →
    (clF env ns cs).lookup x = some c → env.cells.lookup x = some c
  | [], cs, _, h, e => h c e
  | (n, k) :: r, cs, hf, h, e => by
    refine clF_lookup r (if k == .free then (n, (env.cells.lookup n).getD 0) :: cs else cs) (fun m hm => hf m (List.mem_cons_of_mem _ hm)) (fun c' e' => ?_) e
    by_cases hk : (k == NameKind.free) = true
    · rw [if_pos hk] at e'
      have hk' : k = .free := by simpa using hk
      subst hk'
      obtain ⟨c0, hc⟩ := hf n (List.mem_cons_self ..)
      rw [List.lookup_cons] at e'
      cases hx : x == n with
      | true =>
        rw [hx] at e'
        have := eq_of_beq hx
        subst this
        rw [hc] at e' ⊢
        exact e'
      | false => rw [hx] at e'; exact h c' e'
    · rw [if_neg hk] at e'; exact h c' e'
theorem clF_has {env : Env} {x : Str} : ∀ (ns : List (Str × NameKind)) (cs : List (Str × Addr)), ((x, NameKind.free) ∈ ns ∨ ∃ c, cs.lookup x = some c) → ∃ c, (clF env ns cs).lookup x = some c
  | [], cs, h => by
    rcases h with h | h
    · cases h
    · exact h
  | (n, k) :: r, cs, h => by
    refine clF_has r (if k == .free then (n, (env.cells.lookup n).getD 0) :: cs else cs) ?_
    rcases h with h | ⟨c, h⟩
    · rcases List.mem_cons.mp h with e | h
      · cases e
        exact .inr ⟨_, by rw [if_pos (by decide), List.lookup_cons, beq_self_eq_true]⟩
      · exact .inl h
    · by_cases hk : (k == NameKind.free) = true
      · rw [if_pos hk, List.lookup_cons]
        cases x == n with
        | true => exact .inr ⟨_, rfl⟩
        | false => exact .inr ⟨c, h⟩
      · rw [if_neg hk]; exact .inr ⟨c, h⟩
theorem lookup_keyed {β : Type} (g : Str → β → β) (x : Str) (ns : List (Str × β)) : (ns.map fun y => (y.1, g y.1 y.2)).lookup x = (ns.lookup x).map (g x) := by
  induction ns with
  | nil => rfl
  | cons y ns ih =>
    rw [List.map_cons, List.lookup_cons, List.lookup_cons, ih]
    by_cases e : x = y.1
    · rw [e, beq_self_eq_true]; rfl
    · rw [beq_eq_false_iff_ne.mpr e]
abbrev seenAs (env : Env) (x : Str) (k : NameKind) : NameKind := if (k == NameKind.free && env.scope.kind == .function && env.kindOf x == some .cell) then NameKind.cell else k
theorem lookup_relabel {env : Env} {sc : Scope} {x : Str} : (relabel sc env).names.lookup x = (sc.names.lookup x).map (seenAs env x) := by
  rw [← lookup_keyed]
  show List.lookup x (List.map _ sc.names) = _
  congr 2
  funext y
  by_cases e : (y.2 == NameKind.free && env.scope.kind == .function && env.kindOf y.1 == some .cell) = true
  · simp only [seenAs, e, if_true]
  · simp only [seenAs, e, if_false]; rfl
def Cx.blk (X : Cx) (sc : Scope) (C : Addr) (N' : List Str) (s₀ : Shared) (H₀ : Hp) (fp : List Addr) : Cx :=
  { X with N := N', s₀ := s₀, H₀ := H₀, env := compEnvC sc (clF X.env sc.names []) C X.env, outer := X.stack, stack := X.stack, ex := fp, fn := fun _ => false, pn := [], xe := fun _ _ => False }
structure CompOk (X : Cx) (sc : Scope) (N' : List Str) (cap : List (Option Nat)) : Prop where
  kind : sc.kind = .function
  cell : ∀ y ∈ sc.names, y.2 ≠ .cell
  loc : ∀ y ∈ sc.names, y.2 = .local → sc.names.lookup y.1 = some .local
  free : ∀ y ∈ sc.names, y.2 = .free → X.env.kindOf y.1 = some .cell
  len : cap.length = N'.length
  cap : ∀ (i j : Nat) (x : Str), cap[i]? = some (some j) → N'[i]? = some x → X.N[j]? = some x ∧ X.env.kindOf x = some .cell ∧ sc.names.lookup x = some .free
def capS (cap : List (Option Nat)) (σ : St) : St := cap.map fun o => match o with | some j => (σ[j]?).join | none => none
section
variable {X : Cx} {pins : List (Addr × Obj)} {σ : St} {H : Hp} {s : Shared} {sc : Scope} {N' : List Str} {cap : List (Option Nat)}
theorem mem_of_lk {x : Str} {k : NameKind} : ∀ {ns : List (Str × NameKind)}, ns.lookup x = some k → (x, k) ∈ ns := fun h => PySem.mem_of_lookup h
theorem CompOk.hasC (c : CompOk X sc N' cap) (ok : X.Ok) : ∀ n, (n, NameKind.free) ∈ sc.names → ∃ c, X.env.cells.lookup n = some c := fun n hn => ok.has n (.inl (c.free _ hn rfl))
theorem blk_start (c : CompOk X sc N' cap) (I : Inv X pins σ H s) {fp : List Addr} {h₁ : Heap} {tk : Nat} (hfp : ∀ b ∈ fp, FpOk X pins H b) (hlt : ∀ b ∈ fp, b < s.heap.objs.size)
    (hns : h₁.Ns s.heap.objs.size fun _ => none) (hk : ∀ b o, s.heap.get? b = some o → h₁.get? b = some o) :
    Inv (X.blk sc s.heap.objs.size N' s H fp) [] (capS cap σ) H { s with heap := h₁, toks := tk } := by
  have hasC := c.hasC I.ok
  have cells : ∀ x c, (clF X.env sc.names []).lookup x = some c → X.env.cells.lookup x = some c := fun x c e => clF_lookup sc.names [] hasC (fun _ z => nomatch z) e
  have stk : ∀ b ∈ fp, b ∉ frs X.stack := fun b hb z => by
    rcases List.mem_cons.mp (I.stkSub b z) with e | e
    · exact (hfp b hb).2.1 e
    · exact (hfp b hb).2.2.1 e
  have noP : ∀ p : Addr × Obj, p ∉ (X.blk sc s.heap.objs.size N' s H fp).pn ++ [] := fun p hp => absurd (show p ∈ ([] : List (Addr × Obj)) from by simpa [Cx.blk] using hp) (by simp)
  refine ⟨⟨I.ok.mod, c.kind, I.ok.glob, I.ok.blt, Nat.le_refl _, fun x y a h1 h2 => I.ok.inj x y a (cells x a h1) (cells y a h2), fun x hx => ?_, fun x a hf _ => (by cases hf), I.ok.hd, I.ok.frames, .inl rfl, fun b hb => ⟨?_, fun x a e => ?_⟩, I.bs, Nat.le_trans I.ok.bsz I.sz, fun b o e hb => ?_, fun b hb => stk b hb, I.stack, I.stkFree⟩,
    rfl, I.bare, Un.kept hk, ⟨_, hns, fun i x v e1 e2 e3 => ?_⟩, fun x a e => ?_, I.hok.fresh (Nat.le_refl _), fun x a e => I.freeC x a (cells x a e), fun p hp => absurd hp (noP p), I.hok.kept hk, ?_⟩
  · -- has
    have hx' : (sc.names.lookup x).map (seenAs X.env x) = some .cell ∨ (sc.names.lookup x).map (seenAs X.env x) = some .free := by
      rw [← lookup_relabel]; exact hx
    cases e : sc.names.lookup x with
    | none => rw [e] at hx'; simp at hx'
    | some k =>
      have hm := mem_of_lk e
      have hkf : k = .free := by
        rw [e] at hx'
        cases k with
        | free => rfl
        | cell => exact absurd rfl (c.cell _ hm)
        | _ => rcases hx' with z | z <;> cases z
      subst hkf
      exact clF_has sc.names [] (.inl hm)
  · exact Nat.ne_of_lt (hlt b hb)
  · exact (hfp b hb).2.2.2.2.1 x a (cells x a e)
  · have h1 := (I.bs b o e)
    exact absurd ((hfp b hb).2.2.2.1) (fun z => by
      rcases z with z | z
      · exact I.ok.noex b o e z
      · exact absurd (Nat.lt_of_lt_of_le (Heap.lt_size e) I.ok.bsz) (Nat.not_lt.mpr z))
  · -- loc
    have e2' : (cap.map fun o => match o with | some j => (σ[j]?).join | none => none)[i]? = some (some v) := e2
    rw [List.getElem?_map] at e2'
    cases ec : cap[i]? with
    | none => rw [ec] at e2'; cases e2'
    | some o =>
      rw [ec] at e2'
      cases o with
      | none => cases e2'
      | some j =>
        have e4 : (σ[j]?).join = some v := by simpa using e2'
        have e5 : σ[j]? = some (some v) := by
          cases q : σ[j]? with
          | none => rw [q] at e4; cases e4
          | some w' => rw [q] at e4; simp at e4; rw [e4]
        obtain ⟨n1, k1, f1⟩ := c.cap i j x ec e1
        obtain ⟨m, hn, hl⟩ := I.loc
        obtain ⟨u, r, l⟩ := hl j x v n1 e5 (.inr (.inl k1))
        refine ⟨u, r, ?_⟩
        rcases l with ⟨k, _⟩ | ⟨_, a, ea, ia⟩
        · have : X.env.kindOf x = some .local := k
          rw [k1] at this; cases this
        · have e6 : Vis (relabel sc X.env) x := e3
          obtain ⟨o, ho, hd⟩ := ia
          obtain ⟨a', ha'⟩ := clF_has (env := X.env) sc.names [] (.inl (mem_of_lk f1))
          have q := cells x a' ha'
          rw [ea] at q
          cases q
          refine .inr ⟨.inl ?_, a, ha', o, hk a o ho, hd⟩
          show (relabel sc X.env).names.lookup x = some .cell
          rw [lookup_relabel, f1]
          have k2 : X.env.scope.kind = .function := I.ok.kind
          simp [seenAs, k1, k2]
  · obtain ⟨v, o, ho, hd⟩ := I.cell x a (cells x a e)
    exact ⟨v, o, hk a o ho, hd⟩
  · show (cap.map _).length = N'.length
    rw [List.length_map]; exact c.len
theorem blk_end (I : Inv X pins σ H s) {fp : List Addr} {C : Addr} {σ' : St} {H' : Hp} {s' : Shared} (J : Inv (X.blk sc C N' s H fp) [] σ' H' s') (hfp : ∀ b ∈ fp, FpOk X pins H b) : Inv X pins σ H' s' :=
  I.call' (ch := fp) J.os J.base J.hok J.bare fun b hb => let ⟨_, f1, _, f3, f4, f5⟩ := hfp b hb; ⟨f3, f1, f4, f5⟩
theorem Inv.goes {h' : Heap} {C : Addr} (I : Inv X pins σ H s) (hC : X.s₀.heap.objs.size ≤ C) (hn : H C = none) (hL : C ≠ X.env.locals) (h2 : ∀ x c, X.env.cells.lookup x = some c → c ≠ C) (h3 : ∀ p ∈ X.pn ++ pins, p.1 ≠ C) (sb : Heap.SameBut C s.heap h') : Inv X pins σ H { s with heap := h' } :=
  I.turned (t' := s.toks) (fun b o hb e => (sb.2 b hb).trans e) hn hL (.inr hC) h2 h3
theorem calmly {α : Type} {M : Model} {A : Around} {t : Sem α} {Q Q' : α → Shared → Prop} {E : Value → Shared → Prop} {s : Shared} (h : wpAny M A t Q (fun _ _ => False) s) (hQ : ∀ a s, Q a s → Q' a s) : wpAny M A t Q' E s := wpAny_mono h hQ fun _ _ x => x.elim
def PF (Y : Cx) (ifs : List Expr) (t : TT) : Prop :=
  ∀ (pins : List (Addr × Obj)) (s : Shared) (σ : St) (H : Hp) (Q : Bool → Hp → Prop), Inv Y pins σ H s → t σ H Q →
    wpAny (model Y.prog Y.w) Y.A (forIn ifs true fun c r => if r = true then do let ok ← isTrue c Y.env (eval c Y.env); pure (ForInStep.yield ok) else pure (ForInStep.yield r)) (TP Y pins σ Q) Y.xe s
def tYes : TT := fun _ H Q => Q true H
theorem pf_nil {Y : Cx} : PF Y [] tYes := fun _ _ _ H _ I h => wpAny_tests_nil ⟨H, I, h⟩
def CompRun (J : It) (g : TG) (ti : TT) (te : TE) (l : Addr) (Q : Hp → Prop) (σ0 : St) (H : Hp) : Prop :=
  ∃ W : Nat → Nat → St → Hp → Prop, (∃ m, W 0 m σ0 H) ∧ ∀ i m σ H, W i m σ H →
    (J.stop i H ∧ Q H) ∨ (J.go i H ∧ ∀ x H', J.yld i H x H' → g x σ H' fun σ2 H2 => ti σ2 H2 fun b H3 => if b = true then te σ2 H3 fun v H4 => ∃ ys, H4 l = some (.lst ys) ∧ ys.length < sizeLine ∧ ∃ m', m' < m ∧ W (i + 1) m' σ2 (upd H4 l (.lst (ys ++ [v])))
      else ∃ m', m' < m ∧ W (i + 1) m' σ2 H3)
theorem comp_run {tg elt iter : Expr} {ifs : List Expr} {pos : Pos} {J : It} {fp : List Addr} {it l : Addr} {tn : Nat → Heap → Prop} {g : TG} {ti : TT} {te : TE} {Qe : Hp → Prop} {RR : Result → Shared → Prop} {h₁ : Heap} {tk : Nat}
    (c : CompOk X sc N' cap) (hc : X.calm = true) (I : Inv X pins σ H s) (T : Turn X.prog X.w X.K tg J fp it tn) (hfp : ∀ b ∈ fp, FpOk X pins H b) (st : tn 0 s.heap)
    (hns : h₁.Ns s.heap.objs.size fun _ => none) (hk : ∀ b o, s.heap.get? b = some o → h₁.get? b = some o)
    (hg : PG (X.blk sc s.heap.objs.size N' s H fp) tg g) (hi : PF (X.blk sc s.heap.objs.size N' s H fp) ifs ti) (he : PE (X.blk sc s.heap.objs.size N' s H fp) elt te)
    (run : CompRun J g ti te l Qe (capS cap σ) H)
    (fin : ∀ s' H' m, Inv X pins σ H' s' → s'.heap.Ns s.heap.objs.size m → H' s.heap.objs.size = none → Qe H' → RR (.ok .next) s') :
    codeAny (model X.prog X.w) X.A (.compStart (.ListComp elt [⟨tg, iter, ifs, 0⟩] sc pos) 0 (.ref it) (.ref l) (compEnvC sc (clF X.env sc.names []) s.heap.objs.size X.env)) RR { s with heap := h₁, toks := tk } := by
  have hlt : ∀ b ∈ fp, b < s.heap.objs.size := fun b hb => by obtain ⟨o, e, _⟩ := T.obj 0 _ st b hb; exact Heap.lt_size e
  have J0 := blk_start (tk := tk) c I hfp hlt hns hk
  have st0 : tn 0 h₁ := T.keep 0 _ _ st fun b _ o e => hk b o e
  obtain ⟨W, ⟨m0, w0⟩, turn⟩ := run
  have stat : ∀ {H' : Hp}, (∀ b ∈ fp, H' b = none) → ∀ b ∈ fp, FpOk (X.blk sc s.heap.objs.size N' s H fp) [] H' b := fun hn b hb =>
    ⟨hn b hb, (J0.ok.exf b hb).1, J0.ok.exfs b hb, .inl hb, (J0.ok.exf b hb).2, fun p hp => absurd (show p ∈ ([] : List (Addr × Obj)) from by simpa [Cx.blk] using hp) (by simp)⟩
  have loop : codeAny (model X.prog X.w) X.A (.compLoop (.ListComp elt [⟨tg, iter, ifs, 0⟩] sc pos) 0 (.ref it) (.ref l) (compEnvC sc (clF X.env sc.names []) s.heap.objs.size X.env)) RR { s with heap := h₁, toks := tk } := by
    refine codeAny_loop rfl (fun n s' => ∃ i σ' H', Inv (X.blk sc s.heap.objs.size N' s H fp) [] σ' H' s' ∧ tn i s'.heap ∧ (∀ b ∈ fp, H' b = none) ∧ W i n σ' H') (fun n s3 have3 => ?_) m0 ⟨0, _, H, J0, st0, fun b hb => (hfp b hb).1, w0⟩
    obtain ⟨i, σ3, H3, I3, st3, fr3, w3⟩ := have3
    refine wpAny_noted (m := compTurn _ 0 (.ref it) (.ref l) _) ?_
    rw [compTurn_list]
    refine wpAny_bind (wpAny_standAt (wpAny_bind ?_))
    rcases turn i n σ3 H3 w3 with ⟨stop, qn⟩ | ⟨go, goes⟩
    · refine calmly (T.done (X.blk sc s.heap.objs.size N' s H fp) rfl rfl rfl hc i [] s3 σ3 H3 _ I3 (stat fr3) st3 stop) fun r s4 ⟨hr, I4⟩ => ?_
      subst hr
      obtain ⟨m, hn, _⟩ := I4.loc
      exact wpAny_pure (fin s4 H3 m (blk_end I I4 hfp) hn I4.free qn)
    · refine calmly (T.item (X.blk sc s.heap.objs.size N' s H fp) rfl rfl rfl hc i [] s3 σ3 H3 _ I3 (stat fr3) st3 go) fun r s4 ⟨u, hr, h4⟩ => ?_
      subst hr
      refine wpAny_bind (calmly h4 fun _ s5 ⟨x, H5, I5, r5, y5, st5, fr5⟩ => ?_)
      have I5' := I5.pinned (stat fr5) (T.obj _ _ st5)
      refine wpAny_bind (calmly (hg _ s5 σ3 H5 x u _ I5' r5 (goes x H5 y5)) fun _ s6 ⟨σ6, H6, I6, q6⟩ => ?_)
      refine wpAny_bind (calmly (hi _ s6 σ6 H6 _ I6 q6) fun b s7 ⟨H7, I7, q7⟩ => ?_)
      have again : ∀ {σ8 : St} {H8 : Hp} {s8 : Shared} {m' : Nat}, Inv (X.blk sc s.heap.objs.size N' s H fp) ([] ++ pinsAt fp s5.heap) σ8 H8 s8 → m' < n → W (i + 1) m' σ8 H8 → ∃ m, m < n ∧ ∃ i σ' H', Inv (X.blk sc s.heap.objs.size N' s H fp) [] σ' H' s8 ∧ tn i s8.heap ∧ (∀ b ∈ fp, H' b = none) ∧ W i m σ' H' := fun {σ8 H8 s8 m'} I8 hm w8 => by
        refine ⟨m', hm, i + 1, σ8, H8, I8.unpinned, T.keep _ _ _ st5 fun b hb o e => (I8.pin (b, o) (List.mem_append_right _ (List.mem_append_right _ (mem_pinsAt hb e)))).1, fun b hb => ?_, w8⟩
        obtain ⟨o, e, d⟩ := T.obj _ _ st5 b hb
        exact (I8.pin (b, o) (List.mem_append_right _ (List.mem_append_right _ (mem_pinsAt hb e)))).2.1
      cases b with
      | false =>
        rw [if_neg Bool.false_ne_true] at q7
        obtain ⟨m', hm, w7⟩ := q7
        exact wpAny_pure ⟨rfl, again I7 hm w7⟩
      | true =>
        rw [if_pos rfl] at q7
        refine wpAny_bind (wpAny_bind (calmly (he _ s7 σ6 H7 _ I7 q7) fun xv s8 ⟨v, H8, I8, r8, ys, hys, hz, m', hm, w8⟩ => wpAny_bind ?_))
        refine calmly (mt_append (X := X.blk sc s.heap.objs.size N' s H fp) _ s8 σ6 H8 (.ref l) [v] (.ref l) [xv] (fun _ H9 => H9 = upd H8 l (.lst (ys ++ [v]))) I8 rfl (.cons r8 .nil) ⟨l, ys, v, rfl, rfl, hys, hz, rfl⟩) fun _ s9 ⟨_, H9, I9, _, e9⟩ => ?_
        subst e9
        exact wpAny_pure (wpAny_pure ⟨rfl, again I9 hm w8⟩)
  exact codeAny_compStart_list loop (T.self _ 0 _ _ _ st0 loop)
def tComp (wi : TI) (g : TG) (ti : TT) (te : TE) (cap : List (Option Nat)) : TE := fun σ H Q => wi σ H fun J H1 => ∀ l, H1 l = none → CompRun J g ti te l (Q (.ref l)) (capS cap σ) (upd H1 l (.lst []))
theorem pe_comp {tg elt iter : Expr} {ifs : List Expr} {pos : Pos} {wi : TI} {g : TG} {ti : TT} {te : TE} (c : CompOk X sc N' cap) (hc : X.calm = true) (hit : PI X tg iter wi)
    (hg : ∀ C s H fp, PG (X.blk sc C N' s H fp) tg g) (hi : ∀ C s H fp, PF (X.blk sc C N' s H fp) ifs ti) (he : ∀ C s H fp, PE (X.blk sc C N' s H fp) elt te)
    (hs : ∀ x, foldedSetIterable iter X.env x = pure x := by intro _; rfl) : PE X (.ListComp elt [⟨tg, iter, ifs, 0⟩] sc pos) (tComp wi g ti te cap) := by
  intro pins s σ H Q I h
  rw [eval_ListComp]
  refine wpAny_comprehension_free (use := none) rfl hs (closureFor_of (c.hasC I.ok)) c.kind c.loc (thn (hit pins s σ H _ I h) fun xv s₁ h₁ => thn h₁ fun itv s₂ h₂ => ?_)
  obtain ⟨it, fp, tn, J, H2, rfl, I2, T, st2, f2, q⟩ := h₂
  refine wpAny_newObj_type (wpAny_newFunctionEnv c.cell (by intro y hy; simp at hy) (fun h₁ hns₁ hsb₁ => ?_) c.kind)
  have hfr : H2 s₂.heap.objs.size = none := I2.hok.fresh (Nat.le_refl _)
  have I3 : Inv X pins σ (upd H2 s₂.heap.objs.size (.lst [])) { s₂ with heap := s₂.heap.push { cls := .type "list", dict := none, data := .seq ([] : List Value).toArray } } := I2.lnew (t' := s₂.toks) (its := []) .nil (Nat.zero_le _)
  have hlt : ∀ b ∈ fp, b < s₂.heap.objs.size := fun b hb => by obtain ⟨o, e, _⟩ := T.obj 0 _ st2 b hb; exact Heap.lt_size e
  have f3 : ∀ b ∈ fp, FpOk X pins (upd H2 s₂.heap.objs.size (.lst [])) b := fun b hb => ⟨by rw [upd_ne (Nat.ne_of_lt (hlt b hb))]; exact (f2 b hb).1, (f2 b hb).2⟩
  have st3 : tn 0 (s₂.heap.push { cls := .type "list", dict := none, data := .seq ([] : List Value).toArray }) := T.keep 0 _ _ st2 fun b _ o e => Heap.get?_push_of_some _ e
  have hk : ∀ b o, (s₂.heap.push { cls := .type "list", dict := none, data := .seq ([] : List Value).toArray }).get? b = some o → h₁.get? b = some o := fun b o e =>
    (hsb₁.2 b (Nat.ne_of_lt (Heap.lt_size e))).trans (Heap.get?_push_of_some _ e)
  refine comp_run (X := X) (pins := pins) (σ := σ) (l := s₂.heap.objs.size) c hc I3 T f3 st3 hns₁ hk (hg _ _ _ _) (hi _ _ _ _) (he _ _ _ _) (q _ hfr) fun s' H' m I' hn' hC' q' => ?_
  refine ⟨m, hn', fun h' sb => ⟨.ref s₂.heap.objs.size, H', ?_, rfl, q'⟩⟩
  have hsz : ({ s₂ with heap := s₂.heap.push { cls := .type "list", dict := none, data := .seq ([] : List Value).toArray } } : Shared).heap.objs.size = s₂.heap.objs.size + 1 := Heap.size_push ..
  refine I'.goes (C := ({ s₂ with heap := s₂.heap.push { cls := .type "list", dict := none, data := .seq ([] : List Value).toArray } } : Shared).heap.objs.size) ?_ hC' ?_ (fun x a e => ?_) (fun p hp => ?_) sb
  · exact I3.sz
  · exact Nat.ne_of_gt I3.lt
  · obtain ⟨v, z⟩ := I3.cell x a e
    exact Nat.ne_of_lt z.lt
  · exact Nat.ne_of_lt (Heap.lt_size (I3.pin p hp).1)
theorem ps_comp {tg elt iter : Expr} {ifs : List Expr} {pos spos py : Pos} {wi : TI} {g : TG} {ti : TT} {te : TE} {j : Nat} {y : Str} (hN : X.N.Nodup) (hj : X.N[j]? = some y) (hy : X.env.scope.names.lookup y = some .local) (c : CompOk X sc N' cap) (hc : X.calm = true) (hit : PI X tg iter wi)
    (hg : ∀ C s H fp, PG (X.blk sc C N' s H fp) tg g) (hi : ∀ C s H fp, PF (X.blk sc C N' s H fp) ifs ti) (he : ∀ C s H fp, PE (X.blk sc C N' s H fp) elt te)
    (hsw : swapsWith (.ListComp elt [⟨tg, iter, ifs, 0⟩] sc pos) (some (.Name y py)) spos.line X.env = pure true := by rfl)
    (hs : ∀ x, foldedSetIterable iter X.env x = pure x := by intro _; rfl) : PS X (.Assign [.Name y py] (.ListComp elt [⟨tg, iter, ifs, 0⟩] sc pos) spos) (tAsg (tComp wi g ti te cap) (gName j)) := by
  intro pins s σ H D I h
  rw [exec_Assign_Name_used _ _ _ _ hsw]
  refine wpAny_bind (wpAny_standAt (wpAny_bind ?_))
  show wpAny _ X.A (do let _ ← comprehension (.ListComp elt [⟨tg, iter, ifs, 0⟩] sc pos) sc X.env _ (newList []) false (eval iter X.env) (some (assign (.Name y py) X.env))) _ _ s
  refine wpAny_bind (wpAny_mono (wpAny_comprehension_free (use := some (assign (.Name y py) X.env)) (Q := fun _ s' => SP X pins D .next s') rfl hs (closureFor_of (c.hasC I.ok)) c.kind c.loc
    (thn (hit pins s σ H _ I h) fun xv s₁ h₁ => thn h₁ fun itv s₂ h₂ => ?_)) (fun _ s' hq => wpAny_pure (wpAny_pure hq)) fun _ _ e => e)
  obtain ⟨it, fp, tn, J, H2, rfl, I2, T, st2, f2, q⟩ := h₂
  refine wpAny_newObj_type (wpAny_newFunctionEnv c.cell (by intro y hy; simp at hy) (fun h₁ hns₁ hsb₁ => ?_) c.kind)
  have hfr : H2 s₂.heap.objs.size = none := I2.hok.fresh (Nat.le_refl _)
  have I3 : Inv X pins σ (upd H2 s₂.heap.objs.size (.lst [])) { s₂ with heap := s₂.heap.push { cls := .type "list", dict := none, data := .seq ([] : List Value).toArray } } := I2.lnew (t' := s₂.toks) (its := []) .nil (Nat.zero_le _)
  have hlt : ∀ b ∈ fp, b < s₂.heap.objs.size := fun b hb => by obtain ⟨o, e, _⟩ := T.obj 0 _ st2 b hb; exact Heap.lt_size e
  have f3 : ∀ b ∈ fp, FpOk X pins (upd H2 s₂.heap.objs.size (.lst [])) b := fun b hb => ⟨by rw [upd_ne (Nat.ne_of_lt (hlt b hb))]; exact (f2 b hb).1, (f2 b hb).2⟩
  have st3 : tn 0 (s₂.heap.push { cls := .type "list", dict := none, data := .seq ([] : List Value).toArray }) := T.keep 0 _ _ st2 fun b _ o e => Heap.get?_push_of_some _ e
  have hk : ∀ b o, (s₂.heap.push { cls := .type "list", dict := none, data := .seq ([] : List Value).toArray }).get? b = some o → h₁.get? b = some o := fun b o e =>
    (hsb₁.2 b (Nat.ne_of_lt (Heap.lt_size e))).trans (Heap.get?_push_of_some _ e)
  refine comp_run (X := X) (pins := pins) (σ := σ) (l := s₂.heap.objs.size) c hc I3 T f3 st3 hns₁ hk (hg _ _ _ _) (hi _ _ _ _) (he _ _ _ _) (q _ hfr) fun s' H' m I' hn' hC' q' => ?_
  have c1 := I3.sz
  have c2 : ({ s₂ with heap := s₂.heap.push { cls := .type "list", dict := none, data := .seq ([] : List Value).toArray } } : Shared).heap.objs.size ≠ X.env.locals := Nat.ne_of_gt I3.lt
  have c3 : ∀ x a, X.env.cells.lookup x = some a → a ≠ ({ s₂ with heap := s₂.heap.push { cls := .type "list", dict := none, data := .seq ([] : List Value).toArray } } : Shared).heap.objs.size := fun x a e => by
    obtain ⟨v, z⟩ := I3.cell x a e
    exact Nat.ne_of_lt z.lt
  have c4 : ∀ p ∈ X.pn ++ pins, p.1 ≠ ({ s₂ with heap := s₂.heap.push { cls := .type "list", dict := none, data := .seq ([] : List Value).toArray } } : Shared).heap.objs.size := fun p hp => Nat.ne_of_lt (Heap.lt_size (I3.pin p hp).1)
  refine wpAny_assign_Name (store_ok2 I' hN hj (.inl hy) (v := .ref s₂.heap.objs.size) rfl (fun s'' I'' ⟨a, sb, ha⟩ => ?_) (.inr hy))
  have ha' : ({ s₂ with heap := s₂.heap.push { cls := .type "list", dict := none, data := .seq ([] : List Value).toArray } } : Shared).heap.objs.size ≠ a := by
    rcases ha with z | z
    · rw [z]; exact c2
    · exact (c3 _ _ z).symm
  refine ⟨m, hn'.sameBut sb ha', fun h' sb' => ⟨_, H', I''.goes c1 hC' c2 c3 c4 sb', q'⟩⟩
end
end L2
namespace L2
open PySem PySem.Spec PyProof.Rows
theorem vals_intItems : ∀ {ns : List Int} {us : List Value}, Vals (ns.map V.int) us → IntsAre us ns
  | [], _, .nil => .nil
  | n :: ns, _, .cons r t => by
    obtain ⟨t', rfl⟩ := r
    exact .cons _ _ (vals_intItems t)
section
variable {X : Cx}
theorem tagged : ∀ {ns : List Int} {us : List Value}, Vals (ns.map V.int) us → ∃ ps : List (Int × Tok), us.toArray = intItems ps.toArray ∧ ps.map Prod.fst = ns
  | [], _, .nil => ⟨[], by simp [intItems], rfl⟩
  | n :: _, _, .cons ⟨t, ht⟩ tl => by
    obtain ⟨ps, e, m⟩ := tagged tl
    refine ⟨(n, t) :: ps, ?_, by simp [m]⟩
    subst ht
    simp only [intItems, List.map_toArray, List.map_cons, Array.mk.injEq, List.cons.injEq] at e ⊢
    exact ⟨trivial, e⟩
theorem call_sumL (hc : X.calm = true) : CallR X (.builtin "sum") (fun xs H Q => ∃ (p : Addr) (ns : List Int), xs = [.ref p] ∧ SqL X.K H p (ns.map V.int) ∧ Q (.int ns.sum) H) := by
  rintro pins s σ H xs us Q I rv ⟨p, ns, rfl, hq, q⟩
  obtain ⟨u, rfl, ⟨⟩⟩ := rv.one
  obtain ⟨its, rits, pl, _⟩ := I.list hq
  obtain ⟨ps, e, rfl⟩ := tagged rits
  refine sum_intListG (I.ok.hd hc) (e ▸ pl.isList) fun h' tk t' hk => ⟨.int _, H, I.kept hk, ⟨t', ?_⟩, q⟩
  simp [preSum_eq, List.take_of_length_le]
end
def Ite (K : PySem.W.Frag) (a : Addr) : It :=
  ⟨fun i H => ∃ xs x, SqL K H a xs ∧ xs[i]? = some x, fun i H x H' => ∃ p v, H p = none ∧ x = .ref p ∧ H' = upd H p (.tup [.int i, v]) ∧ ∀ xs, SqL K H a xs → xs[i]? = some v, fun i H => ∃ xs, SqL K H a xs ∧ xs.length ≤ i⟩
section
variable {X : Cx} {elts : List Expr} {x1 : Nat} {tpos : Pos}
def iEnum (K : PySem.W.Frag) (ta : TA) : TI := fun σ H R => ta σ H fun vs H1 => ∃ a, vs = [.ref a] ∧ (∃ xs, SqL K H1 a xs) ∧ R (Ite K a) H1
theorem for_enum {K : PySem.W.Frag} {a : Addr} {xs : List V} {g : TG} {tb : TS} {D : Ends} {σ : St} {H : Hp} (Pv : Nat → St → Hp → Prop) (h0 : Pv 0 σ H) (hl : ∀ i σ H, i ≤ xs.length → Pv i σ H → SqL K H a xs)
    (hs : ∀ i x σ H p, xs[i]? = some x → Pv i σ H → H p = none → g (.ref p) σ (upd H p (.tup [.int i, x])) fun σ2 H2 => tb { D with nx := Pv (i + 1), ct := Pv (i + 1), bk := D.nx } σ2 H2) (hd : ∀ σ H, Pv xs.length σ H → D.nx σ H) :
    ∃ W : Nat → Nat → St → Hp → Prop, (∃ m, W 0 m σ H) ∧ ∀ i m σ H, W i m σ H →
      ((Ite K a).stop i H ∧ D.nx σ H) ∨ ((Ite K a).go i H ∧ ∃ N : St → Hp → Prop, (∀ σ' H', N σ' H' → ∃ m', m' < m ∧ W (i + 1) m' σ' H') ∧ ∀ x H', (Ite K a).yld i H x H' → g x σ H' fun σ2 H2 => tb { D with nx := N, ct := N, bk := D.nx } σ2 H2) := by
  refine ⟨fun i m σ H => m = xs.length - i ∧ i ≤ xs.length ∧ Pv i σ H, ⟨xs.length, by simp, Nat.zero_le _, h0⟩, ?_⟩
  rintro i m σ H ⟨rfl, hi, p⟩
  have q := hl i σ H hi p
  by_cases hlt : i < xs.length
  · refine .inr ⟨⟨xs, xs[i], q, by simp [hlt]⟩, Pv (i + 1), fun σ' H' p' => ⟨xs.length - (i + 1), by omega, rfl, hlt, p'⟩, fun x H' y => ?_⟩
    obtain ⟨pp, v, hn, e1, e2, y⟩ := y
    subst e1 e2
    exact hs i v σ _ pp (y xs q) p hn
  · have e : i = xs.length := by omega
    subst e
    exact .inl ⟨⟨xs, q, Nat.le_refl _⟩, hd σ H p⟩
def CNext (Pv : Nat → List V → St → Hp → Prop) (n i : Nat) (l : Addr) (σ : St) (v : V) (H : Hp) : Prop :=
  ∃ ys, H l = some (.lst ys) ∧ ys.length < sizeLine ∧ ∃ m', m' < n - i ∧ m' = n - (i + 1) ∧ i + 1 ≤ n ∧ ∃ ys', Pv (i + 1) ys' σ (upd H l (.lst (ys ++ [v])))
def CSkip (Pv : Nat → List V → St → Hp → Prop) (n i : Nat) (σ : St) (H : Hp) : Prop := ∃ m', m' < n - i ∧ m' = n - (i + 1) ∧ i + 1 ≤ n ∧ ∃ ys', Pv (i + 1) ys' σ H
theorem CNext.mk' {Pv : Nat → List V → St → Hp → Prop} {n i : Nat} {l : Addr} {σ : St} {v : V} {H : Hp} {ys : List V} (hi : i < n) (h1 : H l = some (.lst ys)) (h2 : ys.length < sizeLine) (h3 : Pv (i + 1) (ys ++ [v]) σ (upd H l (.lst (ys ++ [v])))) : CNext Pv n i l σ v H :=
  ⟨ys, h1, h2, n - (i + 1), by omega, rfl, hi, _, h3⟩
theorem CSkip.mk' {Pv : Nat → List V → St → Hp → Prop} {n i : Nat} {σ : St} {H : Hp} {ys : List V} (hi : i < n) (h3 : Pv (i + 1) ys σ H) : CSkip Pv n i σ H := ⟨n - (i + 1), by omega, rfl, hi, _, h3⟩
theorem comp_list {K : PySem.W.Frag} {a l : Addr} {xs : List V} {g : TG} {ti : TT} {te : TE} {Q : Hp → Prop} {σ0 : St} {H : Hp} (Pv : Nat → List V → St → Hp → Prop) (h0 : Pv 0 [] σ0 H)
    (hl : ∀ i ys σ H, i ≤ xs.length → Pv i ys σ H → SqL K H a xs)
    (hs : ∀ i x ys σ H, i < xs.length → xs[i]? = some x → Pv i ys σ H → g x σ H fun σ2 H2 => ti σ2 H2 fun b H3 => if b = true then te σ2 H3 fun v H4 => CNext Pv xs.length i l σ2 v H4 else CSkip Pv xs.length i σ2 H3)
    (hd : ∀ ys σ H, Pv xs.length ys σ H → Q H) : CompRun (Itl K a) g ti te l Q σ0 H := by
  refine ⟨fun i m σ H => m = xs.length - i ∧ i ≤ xs.length ∧ ∃ ys, Pv i ys σ H, ⟨xs.length, by simp, Nat.zero_le _, [], h0⟩, ?_⟩
  rintro i m σ H ⟨rfl, hi, ys, p⟩
  have q := hl i ys σ H hi p
  by_cases hlt : i < xs.length
  · refine .inr ⟨⟨xs, xs[i], q, by simp [hlt]⟩, fun x H' y => ?_⟩
    obtain ⟨e, y⟩ := y
    subst e
    exact hs i x ys σ _ hlt (y xs q) p
  · have e : i = xs.length := by omega
    subst e
    exact .inl ⟨⟨xs, q, Nat.le_refl _⟩, hd ys σ H p⟩
theorem comp_range {lo : Int} {n : Nat} {l : Addr} {g : TG} {ti : TT} {te : TE} {Q : Hp → Prop} {σ0 : St} {H : Hp} (Pv : Nat → List V → St → Hp → Prop) (h0 : Pv 0 [] σ0 H)
    (hs : ∀ i ys σ H, i < n → Pv i ys σ H → g (.int (lo + i)) σ H fun σ2 H2 => ti σ2 H2 fun b H3 => if b = true then te σ2 H3 fun v H4 => CNext Pv n i l σ2 v H4 else CSkip Pv n i σ2 H3)
    (hd : ∀ ys σ H, Pv n ys σ H → Q H) : CompRun (Itr lo n) g ti te l Q σ0 H := by
  refine ⟨fun i m σ H => m = n - i ∧ i ≤ n ∧ ∃ ys, Pv i ys σ H, ⟨n, by simp, Nat.zero_le _, [], h0⟩, ?_⟩
  rintro i m σ H ⟨rfl, hi, ys, p⟩
  by_cases hlt : i < n
  · refine .inr ⟨hlt, fun x H' y => ?_⟩
    obtain ⟨e, y⟩ := y
    subst e y
    exact hs i ys σ _ hlt p
  · have e : i = n := by omega
    subst e
    exact .inl ⟨Nat.le_refl _, hd ys σ H p⟩
end
section
variable {X : Cx}
theorem call_isi : CallR X (.builtin "isinstance") (fun xs H Q => ∃ x T t b, xs = [x, .ty T] ∧ TyOf X.K H x t ∧ PySem.W.kitOne X.K t (.type T) = some b ∧ Q (.bl b) H) := by
  intro pins s σ H xs us Q I rv h
  obtain ⟨x, T, t, b, rfl, ty, e, q⟩ := h
  obtain ⟨u, v, rfl, ru, rv2⟩ := rv.two
  cases rv2
  exact isinst_ok I ru ty e fun tk => ⟨.bl b, H, I.tok tk, rfl, q⟩
theorem kit_ty {K : PySem.W.Frag} {a b : String} {r : Bool} (h : (if (Value.type a == Value.type b) = true then some true else if PySem.W.kitMeta b = true then (fastBuiltinMro a).map (·.contains (.type b)) else none) = some r) : PySem.W.kitOne K (.type a) (.type b) = some r := h
theorem kit_int_bool {K : PySem.W.Frag} : PySem.W.kitOne K (.type "int") (.type "bool") = some false := kit_ty (by decide +kernel)
theorem kit_int_int {K : PySem.W.Frag} : PySem.W.kitOne K (.type "int") (.type "int") = some true := kit_ty (by decide +kernel)
theorem kit_int_IS {K : PySem.W.Frag} : PySem.W.kitAny K (.type "int") [.type "int", .type "str"] = some true := by unfold PySem.W.kitAny PySem.W.kitAny; rw [kit_int_int]
theorem kit_NoneType_int {K : PySem.W.Frag} : PySem.W.kitOne K (.type "NoneType") (.type "int") = some false := kit_ty (by decide +kernel)
theorem kit_NoneType_str {K : PySem.W.Frag} : PySem.W.kitOne K (.type "NoneType") (.type "str") = some false := kit_ty (by decide +kernel)
theorem kit_NoneType_IS {K : PySem.W.Frag} : PySem.W.kitAny K (.type "NoneType") [.type "int", .type "str"] = some false := by unfold PySem.W.kitAny PySem.W.kitAny; rw [kit_NoneType_int]; show (match PySem.W.kitOne K (.type "NoneType") (.type "str") with | some true => some true | some false => PySem.W.kitAny K (.type "NoneType") [] | none => none) = _; rw [kit_NoneType_str]; try rfl
theorem kit_str_bool {K : PySem.W.Frag} : PySem.W.kitOne K (.type "str") (.type "bool") = some false := kit_ty (by decide +kernel)
theorem kit_str_int {K : PySem.W.Frag} : PySem.W.kitOne K (.type "str") (.type "int") = some false := kit_ty (by decide +kernel)
theorem kit_str_str {K : PySem.W.Frag} : PySem.W.kitOne K (.type "str") (.type "str") = some true := kit_ty (by decide +kernel)
theorem kit_str_IS {K : PySem.W.Frag} : PySem.W.kitAny K (.type "str") [.type "int", .type "str"] = some true := by unfold PySem.W.kitAny PySem.W.kitAny; rw [kit_str_int]; show (match PySem.W.kitOne K (.type "str") (.type "str") with | some true => some true | some false => PySem.W.kitAny K (.type "str") [] | none => none) = _; rw [kit_str_str]; try rfl
theorem kit_list_bool {K : PySem.W.Frag} : PySem.W.kitOne K (.type "list") (.type "bool") = some false := kit_ty (by decide +kernel)
theorem kit_list_int {K : PySem.W.Frag} : PySem.W.kitOne K (.type "list") (.type "int") = some false := kit_ty (by decide +kernel)
theorem kit_list_str {K : PySem.W.Frag} : PySem.W.kitOne K (.type "list") (.type "str") = some false := kit_ty (by decide +kernel)
theorem kit_list_tuple {K : PySem.W.Frag} : PySem.W.kitOne K (.type "list") (.type "tuple") = some false := kit_ty (by decide +kernel)
theorem kit_list_list {K : PySem.W.Frag} : PySem.W.kitOne K (.type "list") (.type "list") = some true := kit_ty (by decide +kernel)
theorem kit_list_IS {K : PySem.W.Frag} : PySem.W.kitAny K (.type "list") [.type "int", .type "str"] = some false := by unfold PySem.W.kitAny PySem.W.kitAny; rw [kit_list_int]; show (match PySem.W.kitOne K (.type "list") (.type "str") with | some true => some true | some false => PySem.W.kitAny K (.type "list") [] | none => none) = _; rw [kit_list_str]; try rfl
theorem kit_tuple_bool {K : PySem.W.Frag} : PySem.W.kitOne K (.type "tuple") (.type "bool") = some false := kit_ty (by decide +kernel)
theorem kit_tuple_int {K : PySem.W.Frag} : PySem.W.kitOne K (.type "tuple") (.type "int") = some false := kit_ty (by decide +kernel)
theorem kit_tuple_str {K : PySem.W.Frag} : PySem.W.kitOne K (.type "tuple") (.type "str") = some false := kit_ty (by decide +kernel)
theorem kit_tuple_tuple {K : PySem.W.Frag} : PySem.W.kitOne K (.type "tuple") (.type "tuple") = some true := kit_ty (by decide +kernel)
theorem kit_tuple_list {K : PySem.W.Frag} : PySem.W.kitOne K (.type "tuple") (.type "list") = some false := kit_ty (by decide +kernel)
theorem kit_tuple_IS {K : PySem.W.Frag} : PySem.W.kitAny K (.type "tuple") [.type "int", .type "str"] = some false := by unfold PySem.W.kitAny PySem.W.kitAny; rw [kit_tuple_int]; show (match PySem.W.kitOne K (.type "tuple") (.type "str") with | some true => some true | some false => PySem.W.kitAny K (.type "tuple") [] | none => none) = _; rw [kit_tuple_str]; try rfl
theorem TyOf.kit {pins : List (Addr × Obj)} {s : Shared} {σ : St} {H : Hp} {x : V} {u t : Value} (I : Inv X pins σ H s) (rx : RelV x u) (ty : TyOf X.K H x t) :
    ∃ P : Heap → Prop, PySem.W.KitX X.K u t P ∧ P s.heap ∧ u ≠ .builtin "__main__.__loader__#opaque" := by
  cases ty with
  | non => cases (show u = Value.none from rx); exact ⟨_, PySem.W.kitx_none, True.intro, fun z => nomatch z⟩
  | bl y => cases (show u = Value.bool y from rx); exact ⟨_, PySem.W.kitx_bool, True.intro, fun z => nomatch z⟩
  | int i => obtain ⟨t, q⟩ := (show ∃ t, u = Value.int i t from rx); cases q; exact ⟨_, PySem.W.kitx_int, True.intro, fun z => nomatch z⟩
  | str y => obtain ⟨t, q⟩ := (show ∃ t, u = Value.str y t from rx); cases q; exact ⟨_, PySem.W.kitx_str, True.intro, fun z => nomatch z⟩
  | flt y => obtain ⟨t, q⟩ := (show ∃ t, u = Value.float y t from rx); cases q; exact ⟨_, PySem.W.kitx_float, True.intro, fun z => nomatch z⟩
  | @lst a xs ea =>
    cases (show u = Value.ref a from rx)
    obtain ⟨_, _, n, _, h1⟩ := (show ObjOk X.prog X.w H s.heap a (.lst xs) from I.hok a _ ea)
    exact ⟨_, PySem.W.kitx_list, ⟨_, h1, rfl⟩, fun z => nomatch z⟩
  | @frz a ob xs ea =>
    cases (show u = Value.ref a from rx)
    obtain ⟨_, _, _, n, _, h1⟩ := (show ObjOk X.prog X.w H s.heap a (.frz ob (.lst xs)) from I.hok a _ ea)
    exact ⟨_, PySem.W.kitx_list, ⟨_, h1, rfl⟩, fun z => nomatch z⟩
  | @tup a xs ea =>
    cases (show u = Value.ref a from rx)
    obtain ⟨_, _, _, p⟩ := (show ObjOk X.prog X.w H s.heap a (.tup xs) from I.hok a _ ea)
    obtain ⟨o, h1, h2, _⟩ := p
    exact ⟨_, PySem.W.kitx_tuple, ⟨o, h1, h2⟩, fun z => nomatch z⟩
  | @dK a kvs ea =>
    cases (show u = Value.ref a from rx)
    obtain ⟨_, _, vs, _, p⟩ := (show ObjOk X.prog X.w H s.heap a (.dK kvs) from I.hok a _ ea)
    obtain ⟨o, es, ep, h1, h2, _⟩ := p
    exact ⟨_, PySem.W.kitx_dict, ⟨o, h1, h2.1⟩, fun z => nomatch z⟩
  | @dT a kvs ea =>
    cases (show u = Value.ref a from rx)
    obtain ⟨_, _, xs, _, o, es, ep, h1, h2, _⟩ := (show ObjOk X.prog X.w H s.heap a (.dT kvs) from I.hok a _ ea)
    exact ⟨_, PySem.W.kitx_dict, ⟨o, h1, h2.1⟩, fun z => nomatch z⟩
  | @ins a C dx fs ea cl ha hn htk hm =>
    cases (show u = Value.ref a from rx)
    obtain ⟨mA, O, _⟩ := ins_get I.hok ea
    obtain ⟨od, J, _⟩ := O.look
    exact ⟨_, PySem.W.kitx_own (cl.get _) cl.hd ha hn htk hm, J, fun z => nomatch z⟩
theorem vals_types : ∀ {Ts : List String} {us : List Value}, Vals (Ts.map V.ty) us → us = Ts.map Value.type
  | [], _, .nil => rfl
  | T :: Ts, _, .cons r t => by
    cases (show _ = Value.type T from r)
    rw [vals_types t]; rfl
theorem call_isiT : CallR X (.builtin "isinstance") (fun xs H Q => ∃ (x : V) (p : Addr) (Ts : List String) (t : Value) (b : Bool), xs = [x, .ref p] ∧ H p = some (.tup (Ts.map V.ty)) ∧ TyOf X.K H x t ∧ PySem.W.kitAny X.K t (Ts.map Value.type) = some b ∧ Q (.bl b) H) := by
  intro pins s σ H xs us Q I rv h
  obtain ⟨x, p, Ts, t, b, rfl, hp, ty, e, q⟩ := h
  obtain ⟨u, v, rfl, ru, rv2⟩ := rv.two
  cases rv2
  obtain ⟨P, k1, k2, k3⟩ := ty.kit I ru
  obtain ⟨_, its, rits, ob, h1, h2, n, h3⟩ := (show ObjOk X.prog X.w H s.heap p (.tup (Ts.map V.ty)) from I.hok p _ hp)
  have eits := vals_types rits
  subst eits
  obtain ⟨c, d, dt, sl⟩ := ob
  cases (show c = _ from h2)
  cases (show dt = _ from h3)
  exact PySem.W.kia_tup k1 I.kIn k2 h1 e k3 fun tk => ⟨.bl b, H, I.tok tk, rfl, q⟩
end
end L2
namespace L2
open PySem PySem.Spec PyProof.Rows
def compChk (sc out : Scope) (N N' : List Str) (cap : List (Option Nat)) : Bool :=
  (sc.kind == .function) && sc.names.all (fun y => y.2 != .cell) && sc.names.all (fun y => y.2 != .local || sc.names.lookup y.1 == some .local) &&
  sc.names.all (fun y => y.2 != .free || out.names.lookup y.1 == some .cell) && (cap.length == N'.length) &&
  (cap.zip N').all fun p => match p.1 with | none => true | some j => N[j]? == some p.2 && out.names.lookup p.2 == some .cell && sc.names.lookup p.2 == some .free
theorem CompOk.of {X : Cx} {sc : Scope} {N' : List Str} {cap : List (Option Nat)} (h : compChk sc X.env.scope X.N N' cap = true) : CompOk X sc N' cap := by
  unfold compChk at h
  simp only [Bool.and_eq_true] at h
  obtain ⟨⟨⟨⟨⟨h1, h2⟩, h3⟩, h4⟩, h5⟩, h6⟩ := h
  refine ⟨by simpa using h1, fun y hy e => ?_, fun y hy e => ?_, fun y hy e => ?_, by simpa using h5, fun i j x hc hn => ?_⟩
  · have := List.all_eq_true.mp h2 y hy
    rw [e] at this; simp at this
  · have := List.all_eq_true.mp h3 y hy
    rw [e] at this; simpa using this
  · have := List.all_eq_true.mp h4 y hy
    rw [e] at this
    have : X.env.scope.names.lookup y.1 = some .cell := by simpa using this
    exact this
  · have hz : (cap.zip N')[i]? = some (some j, x) := by
      rw [List.getElem?_zip_eq_some]; exact ⟨hc, hn⟩
    have := List.all_eq_true.mp h6 _ (List.mem_of_getElem? hz)
    simp only [Bool.and_eq_true, beq_iff_eq] at this
    exact ⟨this.1.1, this.1.2, this.2⟩
theorem pe_gi {X : Cx} {x : Str} {i : Int} {pos : Pos} (hg : Gl X x) (hm : ∃ t, X.mg x = some (.int i t)) (hd : (x == ("__debug__" : Str)) = false := by decide) : PE X (.Name x pos) (tC (.int i)) :=
  let ⟨t, e⟩ := hm; pe_glob hg e ⟨t, rfl⟩ hd
theorem pe_ty {X : Cx} {x : Str} {T : String} {pos : Pos} (hg : Gl X x) (hm : X.mg x = none) (hv : bootBuiltins x = some (.type T)) (hn : x ≠ "__name__" := by decide) (hd : (x == ("__debug__" : Str)) = false := by decide) : PE X (.Name x pos) (tC (.ty T)) := pe_bltn hg hm hv (v := .ty T) rfl hn hd
theorem bb_len : bootBuiltins "len" = some (.builtin "len") := by decide +kernel
theorem bb_sum : bootBuiltins "sum" = some (.builtin "sum") := by decide +kernel
theorem bb_max : bootBuiltins "max" = some (.builtin "max") := by decide +kernel
theorem bb_min : bootBuiltins "min" = some (.builtin "min") := by decide +kernel
theorem bb_isinstance : bootBuiltins "isinstance" = some (.builtin "isinstance") := by decide +kernel
theorem bb_list : bootBuiltins "list" = some (.type "list") := by decide +kernel
theorem bb_bool : bootBuiltins "bool" = some (.type "bool") := by decide +kernel
theorem bb_int : bootBuiltins "int" = some (.type "int") := by decide +kernel
theorem bb_str : bootBuiltins "str" = some (.type "str") := by decide +kernel
theorem bb_tuple : bootBuiltins "tuple" = some (.type "tuple") := by decide +kernel
def Fn (P : Program) (w : World) (K : PySem.W.Frag) (mg : Str → Option Value) (base : Heap) (CX : CXT) (x : Str) (k : Nat) (ps : List Str) (sp : Sp) : Prop :=
  ∃ f fd, mg x = some (.ref f) ∧ PySem.W.keepIn K (.ref f) = true ∧ Binds K fd ps [] ∧ FnOk P w K mg base CX k f fd ps sp
def FnM (P : Program) (w : World) (K : PySem.W.Frag) (mg : Str → Option Value) (base : Heap) (CX : CXT) (C : Addr) (m : Str) (k : Nat) (ps : List Str) (sp : Sp) : Prop :=
  ∃ f fd, Meth K C m f ∧ Binds K fd ps [] ∧ FnOk P w K mg base CX k f fd ps sp
def FnI (P : Program) (w : World) (K : PySem.W.Frag) (mg : Str → Option Value) (base : Heap) (CX : CXT) (x : Str) (C : Addr) (k : Nat) (ps : List Str) (sp : Sp) : Prop :=
  mg x = some (.ref C) ∧ ∃ f fd, Mk K C f ∧ Binds K fd ps [] ∧ FnOk P w K mg base CX k f fd ps sp
section
variable {X : Cx} {CX : CXT} {k : Nat} {C : Addr} {ps : List Str} {sp : Sp} {E : XK} {x m : Str} {p pos apos : Pos} {e o : Expr} {es : List Expr} {ta : TE} {t : TA}
end
section
variable {X : Cx} {a b c d : Expr} {ta tb tc td : TE} {pos : Pos}
def tChain3 (r r' r'' : R2) (ta tb tc td : TE) : TE := fun σ H Q => ta σ H fun x H1 => tb σ H1 fun y H2 => r x y H2 fun z H3 => ∃ k, z = .bl k ∧
  (if k = true then tc σ H3 fun w' H4 => r' y w' H4 fun z' H5 => ∃ k', z' = .bl k' ∧ (if k' = true then td σ H5 fun w2 H6 => r'' w' w2 H6 Q else Q (.bl false) H5) else Q (.bl false) H3)
theorem pt_chain3 {op op' op2 : CmpOp} {r r' r'' : R2} (ho : OpR X (compareOp op) r) (ho' : OpR X (compareOp op') r') (ho2 : OpR X (compareOp op2) r'') (ha : PE X a ta) (hb : PE X b tb) (hc : PE X c tc) (hd : PE X d td)
    (hm : lastMarks [op, op', op2] [b, c, d] = false := by with_unfolding_all rfl) : PT X (.Compare a [op, op', op2] [b, c, d] pos) (tTest (tChain3 r r' r'' ta tb tc td)) := by
  intro pins s σ H Q I h
  refine isTrue_chain (thn (ha pins s σ H _ I h) fun v s1 ⟨x, H1, I1, r1, q1⟩ => test_link (thn (hb pins s1 σ H1 _ I1 q1) fun u s2 ⟨y, H2, I2, r2, q2⟩ =>
    thn (ho pins s2 σ H2 x y v u _ I2 r1 r2 q2) fun d s3 ⟨z, H3, I3, r3, k, e, q3⟩ => ?_)) hm
  subst e
  cases r3
  refine wpAny_truthy_bool ?_
  cases k with
  | false =>
    obtain ⟨k', e', q'⟩ := q3
    cases e'
    exact ite_ff ⟨H3, I3, q'⟩
  | true =>
    refine ite_tt (test_link (thn (hc pins s3 σ H3 _ I3 q3) fun w' s4 ⟨z', H4, I4, r4, q4⟩ => thn (ho' pins s4 σ H4 y z' u w' _ I4 r2 r4 q4) fun d' s5 ⟨z2, H5, I5, r5, k2, e2, q5⟩ => ?_))
    subst e2
    cases r5
    refine wpAny_truthy_bool ?_
    cases k2 with
    | false =>
      obtain ⟨k', e', q'⟩ := q5
      cases e'
      exact ite_ff ⟨H5, I5, q'⟩
    | true =>
      refine ite_tt (test_last (thn (hd pins s5 σ H5 _ I5 q5) fun w2 s6 ⟨z3, H6, I6, r6, q6⟩ => thn (ho2 pins s6 σ H6 z' z3 w' w2 _ I6 r4 r6 q6) fun d3 s7 ⟨z4, H7, I7, r7, k3, e3, q7⟩ => ?_))
      subst e3
      cases r7
      exact wpAny_truthy_bool ⟨H7, I7, q7⟩
end
theorem ps_join {X : Cx} {st : Stmt} {t : TS} (h : PS X st t) : PS X st (fun D σ H => ∃ Pj : St → Hp → Prop, t { D with nx := Pj } σ H ∧ ∀ σ H, Pj σ H → D.nx σ H) := by
  intro pins s σ H D I hw
  obtain ⟨Pj, h2, h1⟩ := hw
  refine thn (h pins s σ H _ I h2) fun f s1 q => ?_
  cases f with
  | next => obtain ⟨σ', H', I', q⟩ := q; exact ⟨σ', H', I', h1 _ _ q⟩
  | ret v => exact q
  | brk => exact q
  | cont => exact q
theorem Same.upd_new {H H' : Hp} {l : Addr} {o : HO} (s : Same H H') (h : H' l = none) : Same H (upd H' l o) := fun b u e => by
  have e' := s b u e
  rw [upd_ne (ne_of_none e' h)]; exact e'
theorem Same.upd_own {H H' : Hp} {l : Addr} {o : HO} (s : Same H H') (h : H l = none) : Same H (upd H' l o) := fun b u e => by
  rw [upd_ne (ne_of_none e h)]; exact s b u e
theorem map_at {ns : List Int} {i : Nat} {x : V} (h : (ns.map V.int)[i]? = some x) : ∃ z, x = V.int z ∧ ns[i]? = some z := by
  rw [List.getElem?_map] at h
  cases e : ns[i]? with
  | none => rw [e] at h; cases h
  | some z => rw [e] at h; exact ⟨z, (Option.some.inj h).symm, rfl⟩
theorem cutV_to (xs : List V) (k : Nat) : cutV xs none (some (k : Int)) = xs.take k := by
  unfold cutV
  rw [HT.sIx_none, HT.sIx_nat, List.drop_zero, Nat.sub_zero]
  by_cases h : k ≤ xs.length
  · rw [Nat.min_eq_left h]
  · rw [Nat.min_eq_right (by omega), List.take_of_length_le (by omega), List.take_of_length_le (by omega)]
theorem comp_mapI {K : PySem.W.Frag} {a l : Addr} {ns : List Int} {te : TE} {Q : Hp → Prop} {Hb : Hp} (f : Int → Int) (hSq : ∀ ys, SqL K (upd Hb l (.lst ys)) a (ns.map V.int)) (hlen : ns.length < sizeLine)
    (hstep : ∀ z, z ∈ ns → ∀ (C : V → Hp → Prop) (H2 : Hp), C (.int (f z)) H2 → te [some (.int z)] H2 C) (hd : Q (upd Hb l (.lst ((ns.map f).map V.int)))) :
    CompRun (Itl K a) (gName 0) tYes te l Q [none] (upd Hb l (.lst [])) := by
  refine comp_list (xs := ns.map V.int) (fun i ys σ H2 => (∃ v, σ = [v]) ∧ ys = ((ns.take i).map f).map V.int ∧ H2 = upd Hb l (.lst ys)) ⟨⟨_, rfl⟩, rfl, rfl⟩ (fun i ys σ H2 _ ⟨_, _, e⟩ => by rw [e]; exact hSq ys) ?_ ?_
  · rintro i x ys σ H2 hi hx ⟨⟨v, rfl⟩, rfl, rfl⟩
    obtain ⟨z, rfl, hz⟩ := map_at hx
    refine hstep z (List.mem_of_getElem? hz) _ _ ?_
    have e : (((ns.take (i + 1)).map f).map V.int) = ((ns.take i).map f).map V.int ++ [V.int (f z)] := by
      rw [List.take_add_one, hz]; simp
    refine CNext.mk' hi upd_same ?_ ⟨⟨_, rfl⟩, e.symm, upd_upd⟩
    rw [List.length_map, List.length_map, List.length_take]
    omega
  · rintro ys σ H2 ⟨_, rfl, rfl⟩
    rw [List.length_map, List.take_of_length_le (Nat.le_refl _)]
    exact hd
theorem comp_rangeI {l : Addr} {n : Nat} {te : TE} {Q : Hp → Prop} {Hb : Hp} {rest : St} (f : Nat → V) (hlen : n < sizeLine)
    (hstep : ∀ i, i < n → ∀ (C : V → Hp → Prop) (H2 : Hp), (∃ ys, H2 = upd Hb l (.lst ys)) → C (f i) H2 → te (some (.int (0 + (i : Int))) :: rest) H2 C) (hd : Q (upd Hb l (.lst ((List.range n).map f)))) :
    CompRun (Itr 0 n) (gName 0) tYes te l Q (none :: rest) (upd Hb l (.lst [])) := by
  refine comp_range (fun i ys σ H2 => (∃ v, σ = v :: rest) ∧ ys = (List.range i).map f ∧ H2 = upd Hb l (.lst ys)) ⟨⟨_, rfl⟩, rfl, rfl⟩ ?_ ?_
  · rintro i ys σ H2 hi ⟨⟨v, rfl⟩, rfl, rfl⟩
    refine hstep i hi _ _ ⟨_, rfl⟩ ?_
    have e : ((List.range (i + 1)).map f) = (List.range i).map f ++ [f i] := by
      rw [List.range_succ]; simp
    refine CNext.mk' hi upd_same ?_ ⟨⟨_, rfl⟩, e.symm, upd_upd⟩
    rw [List.length_map, List.length_range]
    omega
  · rintro ys σ H2 ⟨_, rfl, rfl⟩
    exact hd
end L2
namespace L2
open PySem PySem.Spec PyProof.Rows
theorem ObjOk.there {P : Program} {w : World} {H : Hp} {h : Heap} {a : Addr} {o : HO} (x : ObjOk P w H h a o) : ∃ u, h.get? a = some u := by
  cases o with
  | lst xs => obtain ⟨_, _, _, _, e⟩ := x; exact ⟨_, e⟩
  | tup xs => obtain ⟨_, _, _, ob, e, _⟩ := x; exact ⟨_, e⟩
  | dK kvs => obtain ⟨_, _, _, _, ob, _, _, e, _⟩ := x; exact ⟨_, e⟩
  | dT kvs => obtain ⟨_, _, _, _, ob, _, _, e, _⟩ := x; exact ⟨_, e⟩
  | set S n => obtain ⟨ob, _, _, _, e, _⟩ := x; exact ⟨_, e⟩
  | ins C dx fs => obtain ⟨_, _, _, e, _⟩ := x; exact ⟨_, e⟩
  | own y => obtain ⟨_, e⟩ := x; exact ⟨_, e⟩
  | xd fs => obtain ⟨_, ⟨_, _, _, e, _⟩, _⟩ := x; exact ⟨_, e⟩
  | rng lo hi => obtain ⟨_, _, _, e⟩ := x; exact ⟨_, e⟩
  | frz ob u => obtain ⟨e, _⟩ := x; exact ⟨_, e⟩
  | tbl ps => exact ⟨_, (show h.get? a = some _ from x)⟩
  | met f y => exact ⟨_, (show h.get? a = some _ from x)⟩
  | ext φ => obtain ⟨_, ⟨_, e⟩, _⟩ := x; exact ⟨_, e⟩
def XAt (g : Heap) (H : Hp) (h : Heap) (e : Addr) (cls : Value) (fl : Option Value) : Prop :=
  ∃ oe vs a0, h.get? e = some oe ∧ oe.cls = cls ∧ oe.data = .fields vs ∧ vs[0]? = some a0 ∧ g.get? e = none ∧ H e = none ∧
    (match fl with
     | none => vs[1]? = some Value.none
     | some f => ∃ T oT ts, vs[1]? = some (.ref T) ∧ T ≠ e ∧ g.get? T = none ∧ H T = none ∧ h.get? T = some oT ∧ oT.data = .fields ts ∧ ts[3]? = some f)
structure Std (X : Cx) : Prop where
  stk : X.stack = X.env :: X.outer
  frm : X.env.frame = some X.env.locals
  pn : X.pn = []
  ex : X.ex = []
section
variable {X : Cx} {σ : St} {H : Hp} {s : Shared}
theorem Std.frs (S : Std X) : frs X.stack = X.env.locals :: X.fs := by
  rw [S.stk]
  show List.filterMap _ (X.env :: X.outer) = _
  rw [List.filterMap_cons, S.frm]
  rfl
theorem Inv.moved {ch : List Addr} {h' : Heap} (I : Inv X [] σ H s) (S : Std X) (hch : ∀ b ∈ ch, X.s₀.heap.get? b = none ∧ H b = none ∧ ∀ o, s.heap.get? b = some o → ∃ vs, o.data = .fields vs)
    (keep : ∀ b o, b ∉ frs X.stack → b ∉ ch → s.heap.get? b = some o → h'.get? b = some o) (slot : ∀ b o, b ∈ frs X.stack → s.heap.get? b = some o → ∃ sl, h'.get? b = some { o with slots := sl }) :
    Inv X [] σ H { s with heap := h' } := by
  have neL : ∀ b o, X.s₀.heap.get? b = some o → b ≠ X.env.locals := fun b o e => Nat.ne_of_lt (Nat.lt_of_lt_of_le (Heap.lt_size e) I.ok.above)
  have neC : ∀ b o, X.s₀.heap.get? b = some o → b ∉ ch := fun b o e hb => by rw [(hch b hb).1] at e; cases e
  have inF : ∀ b, b ∈ X.fs → b ∈ frs X.stack := fun b hb => by rw [S.frs]; exact List.mem_cons_of_mem _ hb
  have notF : ∀ b, b ≠ X.env.locals → b ∉ X.fs → b ∉ frs X.stack := fun b h1 h2 hb => by
    rw [S.frs] at hb
    rcases List.mem_cons.mp hb with z | z
    · exact h1 z
    · exact h2 z
  have any : ∀ b o, b ∉ ch → s.heap.get? b = some o → ∃ sl, h'.get? b = some { o with slots := sl } := fun b o hc e => by
    by_cases hb : b ∈ frs X.stack
    · exact slot b o hb e
    · exact ⟨o.slots, keep b o hb hc e⟩
  have cellK : ∀ c v, s.heap.IsCell c v → h'.IsCell c v := fun c v ⟨o, ho, hd⟩ => by
    have nc : c ∉ ch := fun z => by
      obtain ⟨vs, q⟩ := (hch c z).2.2 o ho
      rw [hd] at q; cases q
    obtain ⟨sl, q⟩ := any c o nc ho
    exact ⟨_, q, hd⟩
  have noP : ∀ p : Addr × Obj, p ∉ X.pn ++ [] := fun p hp => by rw [S.pn] at hp; cases hp
  refine ⟨I.ok, I.os, I.bare, ⟨fun b o e n hb hx => ?_, fun b o e n hb hx => ?_, I.base.free, fun b o e hx => ?_, I.base.tups, I.base.frzs, I.base.tbls⟩, ?_, fun x c e => ?_, I.free, I.freeC, fun p hp => absurd hp (noP p), fun b u e => ?_, I.len⟩
  · exact keep b o (notF b (neL b o e) hb) (neC b o e) (I.base.keep b o e n hb hx)
  · obtain ⟨sl, e1⟩ := I.base.slot b o e n hb hx
    obtain ⟨sl', e2⟩ := slot b _ (inF b hb) e1
    exact ⟨sl', e2⟩
  · obtain ⟨o', e1⟩ := I.base.there b o e hx
    obtain ⟨sl, e2⟩ := any b o' (neC b o e) e1
    exact ⟨_, e2⟩
  · obtain ⟨m, ⟨o, es, ep, ho, r⟩, hl⟩ := I.loc
    obtain ⟨sl, hL⟩ := slot X.env.locals o (by rw [S.frs]; exact List.mem_cons_self ..) ho
    refine ⟨m, ⟨_, es, ep, hL, r⟩, fun i x v e1 e2 e3 => ?_⟩
    obtain ⟨u, r, l⟩ := hl i x v e1 e2 e3
    refine ⟨u, r, ?_⟩
    rcases l with l | ⟨k, c, e, z⟩
    · exact .inl l
    · exact .inr ⟨k, c, e, cellK c _ z⟩
  · obtain ⟨v, z⟩ := I.cell x c e
    exact ⟨v, cellK c v z⟩
  · refine (I.hok b u e).stay (fun c v hc q => ?_) (fun _ q => q) fun _ _ q => q
    have hne : H c ≠ none := by
      rcases hc with z | z
      · rw [z, e]; exact fun z => nomatch z
      · rw [z]; exact fun z => nomatch z
    exact keep c v (fun z => hne (I.stkFree c z)) (fun z => hne (hch c z).2.1) q
def hidX (X : Cx) (h : Heap) (ch : List Addr) : Heap := PySem.W.hideAll h (frs X.stack ++ ch)
theorem hidX_get {h : Heap} {ch : List Addr} {b : Addr} {o : Obj} (e : h.get? b = some o) (h1 : b ∉ frs X.stack) (h2 : b ∉ ch) : (hidX X h ch).get? b = some o :=
  PySem.W.hideAll_get _ e fun hm => (List.mem_append.mp hm).elim h1 h2
theorem hidX_none {h : Heap} {ch : List Addr} {b : Addr} (h2 : b ∈ ch) : (hidX X h ch).get? b = none := PySem.W.hideAll_none _ (List.mem_append_right _ h2)
theorem hidX_of {h : Heap} {ch : List Addr} {b : Addr} {o : Obj} (e : (hidX X h ch).get? b = some o) : h.get? b = some o := PySem.W.of_hideAll _ e
theorem Inv.framesX (I : Inv X [] σ H s) (S : Std X) (ch : List Addr) : s.heap.FunFrames (hidX X s.heap ch) (X.env :: X.outer) := by
  have h := I.stack
  rw [S.stk] at h
  refine PySem.W.funFrames_hide h fun env he a ha => List.mem_append_left _ ?_
  unfold frs
  rw [S.stk]
  exact List.mem_filterMap.mpr ⟨env, he, ha⟩
theorem Inv.flown {ch : List Addr} {h' : Heap} {e : Addr} {cls a0 fl : Value} (I : Inv X [] σ H s) (S : Std X) (he : e ∈ ch) (hge : X.s₀.heap.get? e = none) (hHe : H e = none)
    (hch : ∀ b ∈ ch, X.s₀.heap.get? b = none ∧ H b = none ∧ ∀ o, s.heap.get? b = some o → ∃ vs, o.data = .fields vs)
    (hN : Heap.NotedW (hidX X s.heap ch) (X.env :: X.outer) e cls a0 fl s.heap h') : Inv X [] σ H { s with heap := h' } ∧ XAt X.s₀.heap H h' e cls (some fl) := by
  obtain ⟨k1, k2, k3, k4⟩ := hN
  have hfr := I.framesX S ch
  have keep : ∀ b o, b ∉ frs X.stack → b ∉ ch → s.heap.get? b = some o → h'.get? b = some o := fun b o h1 h2 q => k1 b o (hidX_get q h1 h2)
  have slot : ∀ b o, b ∈ frs X.stack → s.heap.get? b = some o → ∃ sl, h'.get? b = some { o with slots := sl } := fun b o hb q => by
    have hm : b ∈ (X.env :: X.outer).filterMap (·.frame) := by have := hb; unfold frs at this; rw [S.stk] at this; exact this
    obtain ⟨_, o', ho', hnf⟩ := hfr.mem hm
    rw [q] at ho'; cases ho'
    exact k4 b o q hnf
  refine ⟨I.moved S hch keep slot, ?_⟩
  obtain ⟨oe, vs, T', oT, ts, q1, ⟨q2, q3⟩, q4, q5, q6, q7, q8, q9, q10⟩ := k3
  have fresh : ∀ o', s.heap.get? T' = some o' → (∃ z ∈ ch, z = T') := fun o' q => by
    by_cases hc : T' ∈ ch
    · exact ⟨T', hc, rfl⟩
    · by_cases hf : T' ∈ frs X.stack
      · exfalso
        have hm : T' ∈ (X.env :: X.outer).filterMap (·.frame) := by have := hf; unfold frs at this; rw [S.stk] at this; exact this
        obtain ⟨_, o2, ho2, hnf⟩ := k2.mem hm
        rw [q8] at ho2; cases ho2
        exact hnf ts q9
      · rw [hidX_get q hf hc] at q6; cases q6
  refine ⟨oe, vs, a0, q1, q2, q4, q3, hge, hHe, T', oT, ts, q5, q7, ?_, ?_, q8, q9, q10⟩
  · cases g : X.s₀.heap.get? T' with
    | none => rfl
    | some o =>
      obtain ⟨o', e1⟩ := I.base.there T' o g (by rw [S.ex]; exact fun z => nomatch z)
      obtain ⟨z, hz, rfl⟩ := fresh o' e1
      rw [(hch _ hz).1] at g; cases g
  · cases g : H T' with
    | none => rfl
    | some o =>
      obtain ⟨o', e1⟩ := (I.hok T' o g).there
      obtain ⟨z, hz, rfl⟩ := fresh o' e1
      rw [(hch _ hz).2.1] at g; cases g
variable {M : Model} {A : Around} {E : Value → Shared → Prop} {e : Addr} {cls : Value} {fl : Option Value} {Q : Unit → Shared → Prop}
theorem XAt.ch1 {g : Heap} {h : Heap} (x : XAt g H h e cls none) : ∀ b ∈ [e], g.get? b = none ∧ H b = none ∧ ∀ o, h.get? b = some o → ∃ vs, o.data = .fields vs := by
  obtain ⟨oe, vs, a0, h1, h2, h3, h4, h5, h6, _⟩ := x
  intro b hb
  have z : b = e := by simpa using hb
  subst z
  exact ⟨h5, h6, fun o q => by rw [h1] at q; cases q; exact ⟨vs, h3⟩⟩
theorem note_any (I : Inv X [] σ H s) (S : Std X) (hfr : A.frames = some (X.env :: X.outer)) (x : XAt X.s₀.heap H s.heap e cls fl) (hfl : fl = none ∨ fl = some .none ∨ fl = some (rawInt X.env.locals))
    (hQ : ∀ h', Inv X [] σ H { s with heap := h' } → XAt X.s₀.heap H h' e cls (some (rawInt X.env.locals)) → Q () { s with heap := h' }) : wpAny M A (noteFrame (.ref e) X.env) Q E s := by
  rcases hfl with rfl | rfl | rfl
  · have hch := x.ch1
    obtain ⟨oe, vs, a0, h1, h2, h3, h4, h5, h6, h7⟩ := x
    have hsz : 1 < vs.size := (Array.getElem?_eq_some_iff.mp h7).1
    unfold noteFrame
    simp only [S.frm]
    refine wpAny_bind (wpAny_field h1 h3 h7 ?_)
    rw [if_neg (show ¬ ((Value.none != Value.none) = true) by simp)]
    refine wpAny_entryW (base := hidX X s.heap [e]) (hadNext := (Value.none != Value.none)) hfr (I.framesX S _) S.frm h1 (fun b o q => hidX_of q) (hidX_none (by simp)) h3 hsz h4 fun h' hN => ?_
    rw [h2] at hN
    obtain ⟨I', x'⟩ := I.flown S (by simp) h5 h6 hch hN
    exact hQ h' I' x'
  · obtain ⟨oe, vs, a0, h1, h2, h3, h4, h5, h6, T, oT, ts, t1, t2, t3, t4, t5, t6, t7⟩ := x
    have hch : ∀ b ∈ [e, T], X.s₀.heap.get? b = none ∧ H b = none ∧ ∀ o, s.heap.get? b = some o → ∃ vs, o.data = .fields vs := fun b hb => by
      rcases List.mem_cons.mp hb with z | z
      · subst z; exact ⟨h5, h6, fun o q => by rw [h1] at q; cases q; exact ⟨vs, h3⟩⟩
      · have z' : b = T := by simpa using z
        subst z'; exact ⟨t3, t4, fun o q => by rw [t5] at q; cases q; exact ⟨ts, t6⟩⟩
    refine wpAny_noteFrame_onW (base := hidX X s.heap [e, T]) (cls := cls) (a0 := a0) hfr (I.framesX S _) S.frm ⟨oe, vs, T, oT, ts, h1, ⟨h2, h4⟩, h3, t1, hidX_none (by simp), t2, t5, t6, t7⟩ (fun b o q => hidX_of q) (hidX_none (by simp)) fun h' hN => ?_
    obtain ⟨I', x'⟩ := I.flown S (by simp) h5 h6 hch hN
    exact hQ h' I' x'
  · obtain ⟨oe, vs, a0, h1, h2, h3, h4, h5, h6, T, oT, ts, t1, t2, t3, t4, t5, t6, t7⟩ := id x
    refine wpAny_noteFrame_againW (base := hidX X s.heap [e, T]) (cls := cls) (a0 := a0) S.frm ⟨oe, vs, T, oT, ts, h1, ⟨h2, h4⟩, h3, t1, hidX_none (by simp), t2, t5, t6, t7⟩ ?_
    exact hQ s.heap I x
theorem land_any {f : Value} (I : Inv X [] σ H s) (S : Std X) (x : XAt X.s₀.heap H s.heap e cls (some f))
    (hQ : ∀ h', Inv X [] σ H { s with heap := h' } → XAt X.s₀.heap H h' e cls (some .none) → Q () { s with heap := h' }) : wpAny M A (setFlight (.ref e) none) Q E s := by
  obtain ⟨oe, vs, a0, h1, h2, h3, h4, h5, h6, T, oT, ts, t1, t2, t3, t4, t5, t6, t7⟩ := x
  have hch : ∀ b ∈ [e, T], X.s₀.heap.get? b = none ∧ H b = none ∧ ∀ o, s.heap.get? b = some o → ∃ vs, o.data = .fields vs := fun b hb => by
    rcases List.mem_cons.mp hb with z | z
    · subst z; exact ⟨h5, h6, fun o q => by rw [h1] at q; cases q; exact ⟨vs, h3⟩⟩
    · have z' : b = T := by simpa using z
      subst z'; exact ⟨t3, t4, fun o q => by rw [t5] at q; cases q; exact ⟨ts, t6⟩⟩
  refine wpAny_setFlight_noneW (base := hidX X s.heap [e, T]) (cls := cls) (a0 := a0) (fl := f) (fun b o q => hidX_of q) (I.framesX S _) ⟨oe, vs, T, oT, ts, h1, ⟨h2, h4⟩, h3, t1, hidX_none (by simp), t2, t5, t6, t7⟩ fun h' k1 k2 k3 k4 => ?_
  obtain ⟨I', x'⟩ := I.flown S (fl := .none) (a0 := a0) (cls := cls) (by simp) h5 h6 hch ⟨k1, k2, k3, fun b o q hn => ⟨o.slots, k4 b o q hn⟩⟩
  exact hQ h' I' x'
theorem mark_any {f : Value} {L : Addr} (I : Inv X [] σ H s) (S : Std X) (x : XAt X.s₀.heap H s.heap e cls (some f))
    (hQ : ∀ h', Inv X [] σ H { s with heap := h' } → XAt X.s₀.heap H h' e cls (some (rawInt L)) → Q () { s with heap := h' }) : wpAny M A (setFlight (.ref e) (some L)) Q E s := by
  obtain ⟨oe, vs, a0, h1, h2, h3, h4, h5, h6, T, oT, ts, t1, t2, t3, t4, t5, t6, t7⟩ := x
  have hsz3 : 3 < ts.size := (Array.getElem?_eq_some_iff.mp t7).1
  unfold setFlight
  refine wpAny_bind (wpAny_field h1 h3 t1 ?_)
  rw [if_pos (show (Value.ref T != Value.none) = true by simp)]
  refine wpAny_setField t5 t6 hsz3 (hQ _ ?_ ?_)
  · refine I.moved S (ch := [T]) (fun b hb => ?_) (fun b o _ hb q => ?_) fun b o hb q => ?_
    · have z' : b = T := by simpa using hb
      subst z'; exact ⟨t3, t4, fun o q => by rw [t5] at q; cases q; exact ⟨ts, t6⟩⟩
    · exact (Heap.get?_update_other _ _ (Ne.symm (by simpa using hb))).trans q
    · have nb : b ≠ T := fun z => by
        have hfr := I.framesX S [T]
        have hm : b ∈ (X.env :: X.outer).filterMap (·.frame) := by have := hb; unfold frs at this; rw [S.stk] at this; exact this
        obtain ⟨_, o', ho', hnf⟩ := hfr.mem hm
        rw [z, t5] at ho'; cases ho'
        exact hnf ts t6
      exact ⟨o.slots, (Heap.get?_update_other _ _ (Ne.symm nb)).trans q⟩
  · refine ⟨oe, vs, a0, (Heap.get?_update_other _ _ t2).trans h1, h2, h3, h4, h5, h6, T, _, _, t1, t2, t3, t4, Heap.get?_update_self _ t5 (Obj.isFreed_of_fields (Obj.data_mapFields t6 _)), Obj.data_mapFields t6 _, by simp [hsz3]⟩
def XB (X : Cx) (E : St → XK) (v : Value) (s : Shared) : Prop :=
  ∃ σ H e cls fl, v = .ref e ∧ Inv X [] σ H s ∧ XAt X.s₀.heap H s.heap e cls fl ∧ (fl = none ∨ fl = some .none ∨ fl = some (rawInt X.env.locals)) ∧ E σ cls none H
def CX1 (P : Program) (w : World) : CXT := fun outer H s E v s' =>
  ∃ H' e cls, v = .ref e ∧ s'.os = s.os ∧ AllBare s'.gens ∧ Un (frs outer) [] H H' s.heap s'.heap ∧ HOk P w H' s'.heap ∧ XAt s.heap H' s'.heap e cls (some .none) ∧ E cls none H'
abbrev Cx.thr (X : Cx) (E : St → XK) : Cx := X.wish (XB X E)
theorem leave_any {EE : St → XK} {v : Value} {E' : Value → Shared → Prop} (S : Std X) (hfr : A.frames = some (X.env :: X.outer)) (h : XB X EE v s) (hE : ∀ σ cls H, EE σ cls none H → (EE [] cls none H)) :
    wpAny M A (leaving X.env v) (fun _ s' => CX1 X.prog X.w X.outer X.H₀ X.s₀ (EE []) v s') E' s := by
  obtain ⟨σ, H, e, cls, fl, rfl, I, x, hfl, q⟩ := h
  unfold leaving
  refine wpAny_bind (note_any I S hfr x hfl fun h1 I1 x1 => land_any I1 S x1 fun h2 I2 x2 => ?_)
  have b := I2.base
  rw [S.ex] at b
  exact ⟨H, e, cls, rfl, I2.os, I2.bare, b, I2.hok, x2, hE σ cls H q⟩
theorem passes_own {EE : St → XK} (S : Std X) (hfr : A.frames = some (X.env :: X.outer)) : PassesOwn M A X.env (XB X EE) := by
  rintro v s ⟨σ, H, e, cls, fl, rfl, I, x, hfl, q⟩
  refine note_any I S hfr x hfl fun h1 I1 x1 => ?_
  obtain ⟨oe, vs, a0, y1, y2, y3, y4, y5, y6, T, oT, ts, t1, t2, t3, t4, t5, t6, t7⟩ := id x1
  unfold cameBackBy
  refine wpAny_bind (wpAny_field (s := { s with heap := h1 }) y1 y3 t1 ?_)
  rw [if_neg (show ¬ ((Value.ref T == Value.none) = true) by simp)]
  rw [S.frm]
  exact mark_any I1 S x1 fun h2 I2 x2 => ⟨σ, H, e, cls, _, rfl, I2, x2, .inr (.inr rfl), q⟩
theorem Std.wish (S : Std X) (E : Value → Shared → Prop) : Std (X.wish E) := ⟨S.stk, S.frm, S.pn, S.ex⟩
def PassesS (CX : CXT) (X : Cx) (E : St → XK) : Prop := ∀ (pins : List (Addr × Obj)) (σ : St) (H : Hp) (s : Shared) (e : Value) (s' : Shared), Inv X pins σ H s → CX X.stack H s (E σ) e s' → X.xe e s'
theorem Inv.nopins {pins : List (Addr × Obj)} (I : Inv X pins σ H s) : Inv X [] σ H s := I.pins_of fun p hp => nomatch hp
theorem passS {EE : St → XK} (S : Std X) : PassesS (CX1 X.prog X.w) (X.thr EE) EE := by
  rintro pins σ H s v s' I ⟨H', e, cls, rfl, h1, h2, h3, h4, x, q⟩
  have I0 : Inv X [] σ H s := (I.unwish).nopins
  have I1 : Inv X [] σ H' s' := I0.call' (ch := []) h1 h3 h4 h2 fun b z => nomatch z
  have old : ∀ b, s.heap.get? b = none → X.s₀.heap.get? b = none := fun b hb => by
    cases g : X.s₀.heap.get? b with
    | none => rfl
    | some o =>
      obtain ⟨o', e1⟩ := I0.base.there b o g (by rw [S.ex]; exact fun z => nomatch z)
      rw [hb] at e1; cases e1
  obtain ⟨oe, vs, a0, y1, y2, y3, y4, y5, y6, T, oT, ts, t1, t2, t3, t4, t5, t6, t7⟩ := x
  exact ⟨σ, H', e, cls, some .none, rfl, I1, ⟨oe, vs, a0, y1, y2, y3, y4, old e y5, y6, T, oT, ts, t1, t2, old T t3, t4, t5, t6, t7⟩, .inr (.inl rfl), q⟩
end
end L2
namespace L2
open PySem PySem.Spec PyProof.Rows
def PS0 (X : Cx) (st : Stmt) (t : TS) : Prop :=
  ∀ (s : Shared) (σ : St) (H : Hp) (D : Ends), Inv X [] σ H s → t D σ H → wpAny (model X.prog X.w) X.A (exec st X.env) (SP X [] D) X.xe s
def PSs0 (X : Cx) (st : List Stmt) (t : TS) : Prop :=
  ∀ (s : Shared) (σ : St) (H : Hp) (D : Ends), Inv X [] σ H s → t D σ H → wpAny (model X.prog X.w) X.A (execs st X.env) (SP X [] D) X.xe s
theorem PS.p0 {X : Cx} {st : Stmt} {t : TS} (h : PS X st t) : PS0 X st t := fun s σ H D I q => h [] s σ H D I q
theorem PSs.p0 {X : Cx} {st : List Stmt} {t : TS} (h : PSs X st t) : PSs0 X st t := fun s σ H D I q => h [] s σ H D I q
theorem std_cx {CX : CXT} {P : Program} {w : World} {K : PySem.W.Frag} {mg : Str → Option Value} {base : Heap} {N : List Str} {qual : Str} {sc : Scope} {f : Addr} {cdv : Value} {A : Around} {outer : List Env} {s : Shared} {H : Hp} {E : XK} :
    Std (cxOf CX P w K mg base N qual sc f cdv A outer s H E) := ⟨rfl, rfl, rfl, rfl⟩
section
variable {P : Program} {w : World} {K : PySem.W.Frag} {mg : Str → Option Value} {base : Heap}
theorem Fun.okX {x qual : Str} {st : Stmt} {f : Addr} {fd : FuncData} {N ps : List Str} {k : Nat} {sp : Sp} (F : Fun K x qual st f fd) (S : FnScope N ps (defScope st)) (len : ∀ vs H Q E, sp vs H Q E → vs.length = ps.length)
    (hbody : ∀ (cdv : Value) (A : Around) (outer : List Env) (s : Shared) (H : Hp) (vs : List V) (Q : VK) (E : XK), (A.deeper (envOfC qual (defScope st) s.heap.objs.size f cdv)).frames = some (envOfC qual (defScope st) s.heap.objs.size f cdv :: outer) → Room k (A.deeper (envOfC qual (defScope st) s.heap.objs.size f cdv)) → sp vs H Q E →
      ∃ t, PSs0 ((cxOf (CX1 P w) P w K mg base N qual (defScope st) f cdv A outer s H E).thr (fun _ => E)) (defBody st) t ∧ t { nx := fun _ H' => Q .non H', rt := Q } (start N vs) H) : FnOk P w K mg base (CX1 P w) (k + 1) f fd ps sp := by
  obtain ⟨oc, od, kV, doc, pm, an, cdv, ct, osl, rfl, lk, hcd⟩ := F.ex
  refine ⟨len, fun A outer s H args us vs Q E hr e0 hb r hsp => ?_⟩
  have hl := len _ _ _ _ hsp
  have KX : K.In s.heap := e0.mod.kin.keeps fun b o e => (e0.bs b o e).1
  have lim : s.heap.NoLimit := e0.mod.nolimit.keeps fun b o e => (e0.bs b o e).1
  have hkd : ∀ y ∈ ps.zip us, (defScope st).names.lookup y.1 = some .local ∨ ((defScope st).names.lookup y.1 = some .cell ∧ ((cellsFrom (s.heap.objs.size + 1) (defScope st).names []).lookup y.1).isSome = true) := fun ⟨n, v⟩ hy => by
    rcases S.par n (List.of_mem_zip hy).1 with q | q
    · exact .inl q
    · exact .inr ⟨q, PySem.W.cellsFrom_some _ _ _ (.inl q)⟩
  refine codeAny_call_function hr.depth (KX _ _ lk) rfl S.co S.gen rfl (PySem.W.codeRec_of KX hcd) (hb _ _ _ _ ?_)
  refine wpAny_newFunctionEnv_cells S.kind hkd fun env he s1 y => ?_
  subst he
  refine ⟨lim.keeps y.toInCall.keep, codeAny_func ?_⟩
  obtain ⟨t, ht, hq⟩ := hbody cdv A outer s H vs Q E (Around.frames_deeper e0.frames) (hr.deeper _) hsp
  have I : Inv (cxOf (CX1 P w) P w K mg base N qual (defScope st) f cdv A outer s H E) [] (start N vs) H s1 := inv_start S hr.hd e0 hl r y
  refine wpAny_mono (ht s1 (start N vs) H _ (I.wish _) hq) (fun fl s' hs => ?_) fun e s' hs => ?_
  · have fin : ∀ {σ' : St} {H' : Hp} {v : V} {u : Value}, Inv ((cxOf (CX1 P w) P w K mg base N qual (defScope st) f cdv A outer s H E).thr (fun _ => E)) [] σ' H' s' → RelV v u → Q v H' → CE outer P w H s Q u s' :=
      fun {σ' H' v u} J rv q => ⟨v, H', J.os, J.bare, J.base, J.hok, rv, q⟩
    cases fl with
    | ret u => obtain ⟨v, σ', H', J, rv, q⟩ := hs; exact fin J rv q
    | next => obtain ⟨σ', H', J, q⟩ := hs; exact fin (v := V.non) (u := Value.none) J rfl q
    | brk => obtain ⟨_, _, _, q⟩ := hs; exact False.elim q
    | cont => obtain ⟨_, _, _, q⟩ := hs; exact False.elim q
  · exact leave_any (EE := fun _ => E) std_cx I.ok.frames hs fun _ _ _ q => q
end
def tCallS (sp : Sp) (EE : St → XK) (t : TA) : TE := fun σ H Q => t σ H fun vs H1 => sp vs H1 Q (EE σ)
def tMethS (C : Addr) (m : Str) (sp : Sp) (EE : St → XK) (ta : TE) (t : TA) : TE := fun σ H Q => ta σ H fun x H1 => ∃ a dx fs, x = .ref a ∧ H1 a = some (.ins C dx fs) ∧ fs.lookup m = none ∧
  t σ H1 fun vs H2 => sp (x :: vs) H2 Q (EE σ)
def tMakeS (C : Addr) (sp : Sp) (EE : St → XK) (t : TA) : TE := fun σ H Q => t σ H fun vs H1 => ∀ x dx, H1 x = none → H1 dx = none → dx ≠ x →
  sp (.ref x :: vs) (upd (upd H1 dx (.own x)) x (.ins C dx [])) (fun v H2 => v = .non ∧ Q (.ref x) H2) (EE σ)
section
variable {X : Cx} {CX : CXT} {k : Nat} {f C : Addr} {fd : FuncData} {ps : List Str} {sp : Sp} {EE : St → XK} {x m : Str} {p pos apos : Pos} {e o : Expr} {es : List Expr} {ta : TE} {t : TA}
theorem run_fnS {pins : List (Addr × Obj)} {σ : St} {H : Hp} {s : Shared} {Q : VK} {us : List Value} {vs : List V} (F : FnOk X.prog X.w X.K X.mg X.base CX k f fd ps sp) (hr : Room k X.A) (hb : Binds X.K fd ps []) (hx : PassesS CX X EE)
    (I : Inv X pins σ H s) (r : Vals vs us) (h : sp vs H Q (EE σ)) : wpAny (model X.prog X.w) X.A (call (.ref f) us) (EP X pins σ Q) X.xe s := by
  have hl : us.length = ps.length := by rw [← r.length]; exact F.len _ _ _ _ h
  have hb' := hb s us I.kIn (by rw [List.append_nil]; exact hl)
  rw [List.append_nil] at hb'
  refine wpAny_call (codeAny_mono (F.run X.A X.stack s H ⟨us, []⟩ us vs Q (EE σ) hr I.env0 hb' r h) fun r s' hq => ?_)
  match r, hq with
  | .error e, hq => exact hx pins σ H s e s' I hq
  | .ok (.ret u), hq => exact I.after hq
  | .ok .next, hq => exact False.elim hq
  | .ok .brk, hq => exact False.elim hq
  | .ok .cont, hq => exact False.elim hq
theorem run_makeS {pins : List (Addr × Obj)} {σ : St} {H : Hp} {s : Shared} {Q : VK} {us : List Value} {vs : List V} (M : Mk X.K C f) (F : FnOk X.prog X.w X.K X.mg X.base CX k f fd ps sp) (hr : Room (k + 1) X.A) (hb : Binds X.K fd ps [])
    (hx : PassesS CX X EE) (I : Inv X pins σ H s) (r : Vals vs us)
    (h : ∀ x dx, H x = none → H dx = none → dx ≠ x → sp (.ref x :: vs) (upd (upd H dx (.own x)) x (.ins C dx [])) (fun v H2 => v = .non ∧ Q (.ref x) H2) (EE σ)) :
    wpAny (model X.prog X.w) X.A (call (.ref C) us) (EP X pins σ Q) X.xe s := by
  have hq := h (s.heap.objs.size + 1) s.heap.objs.size (I.hok.fresh (Nat.le_succ _)) (I.hok.fresh (Nat.le_refl _)) (Nat.ne_of_lt (Nat.lt_succ_self _))
  have I2 := Inv.made (C := C) I
  have r2 : Vals (V.ref (s.heap.objs.size + 1) :: vs) (Value.ref (s.heap.objs.size + 1) :: us) := .cons rfl r
  have hl : (Value.ref (s.heap.objs.size + 1) :: us).length = ps.length := by rw [← r2.length]; exact F.len _ _ _ _ hq
  have hb' := hb _ (Value.ref (s.heap.objs.size + 1) :: us) I2.kIn (by rw [List.append_nil]; exact hl)
  rw [List.append_nil] at hb'
  refine wpAny_call (make_map (f := f) I.kIn M.makes M.init (beq_iff_eq.mp M.fn) (codeAny_mono (F.run _ X.stack _ _ ⟨Value.ref (s.heap.objs.size + 1) :: us, []⟩ (Value.ref (s.heap.objs.size + 1) :: us) _ _ (EE σ) (hr.make C us [])
    (I2.env0.make C us []) hb' r2 hq) fun r s' hq' => ?_))
  match r, hq' with
  | .error e, hq' => exact hx pins σ _ _ e s' I2 hq'
  | .ok (.ret u), hq' =>
    obtain ⟨v, H', I3, rv, ev, q3⟩ := I2.after hq'
    subst ev
    exact ⟨rv, ⟨V.ref (s.heap.objs.size + 1), H', I3, rfl, q3⟩⟩
  | .ok .next, hq' => exact False.elim hq'
  | .ok .brk, hq' => exact False.elim hq'
  | .ok .cont, hq' => exact False.elim hq'
theorem pe_fnS (F : Fn X.prog X.w X.K X.mg X.base CX x k ps sp) (hr : Room k X.A) (hx : PassesS CX X EE) (ha : PA X (e :: es) t) (hg : Gl X x := by rfl)
    (hdb : (x == ("__debug__" : Str)) = false := by decide) (he : starEach (e :: es) X.env = (false, eval e X.env) :: starEach es X.env := by rfl) (hpl : (backTo pos (starEach es X.env)).any (·.1) = false := by rfl) :
    PE X (.Call (.Name x p) (e :: es) [] pos) (tCallS sp EE t) := by
  obtain ⟨f, fd, h1, h2, h3, h4⟩ := F
  intro pins s σ H Q I h
  refine wpAny_Call_Name_kw (ld_glob I hg h1 ?_ hdb)
  refine PySem.W.callWith_K (h₀ := X.base) I.ok.mod.kin h2 (thn (ha pos pins s σ H _ I h) fun us s1 ⟨vs, H1, I1, r, q⟩ => ⟨I1.kIn, ?_⟩) he hpl
  exact run_fnS h4 hr h3 hx I1 r q
theorem pe_mtS {pl : Sem Bool} (he : PE X o ta) (F : FnM X.prog X.w X.K X.mg X.base CX C m k ps sp) (hr : Room k X.A) (hx : PassesS CX X EE) (ha : PA X (e :: es) t) (c : Cls X.K C)
    (hst : starEach (e :: es) X.env = (false, eval e X.env) :: starEach es X.env := by rfl) (hpl : (backTo pos (starEach es X.env)).any (·.1) = false := by rfl)
    (ht : eval (.Call (.Attribute o m apos) (e :: es) [] pos) X.env = (do
      let ov ← eval o X.env
      standAt apos.atName
      let (f, first) ← holding [ov] (getMethod ov m pl)
      callWith pos f first (backTo pos (starEach (e :: es) X.env)) (backToKw pos (keywordEach [] X.env))) := by rfl) :
    PE X (.Call (.Attribute o m apos) (e :: es) [] pos) (tMethS C m sp EE ta t) := by
  obtain ⟨f, fd, h1, h3, h4⟩ := F
  intro pins s σ H Q I h
  refine PySem.W.methodCall_KW (pl := pl) (thn (he pins s σ H _ I h) fun u s1 ⟨x, H1, I1, rx, a, dx, fs, ex, ea, l, q⟩ => ?_) ht
  subst ex
  obtain rfl : u = Value.ref a := rx
  refine getmeth_ok I1 ea c h1 l ?_
  refine PySem.W.callWith_K (first := [.ref a]) (h₀ := X.base) I.ok.mod.kin h1.kp (thn (ha pos pins s1 σ H1 _ I1 q) fun us s2 ⟨vs, H2, I2, r, q2⟩ => ⟨I2.kIn, ?_⟩) hst hpl
  exact run_fnS (us := .ref a :: us) (vs := .ref a :: vs) h4 hr h3 hx I2 (.cons rfl r) q2
theorem pe_mt0S {pl : Sem Bool} (he : PE X o ta) (F : FnM X.prog X.w X.K X.mg X.base CX C m k ps sp) (hr : Room k X.A) (hx : PassesS CX X EE) (c : Cls X.K C)
    (ht : eval (.Call (.Attribute o m apos) [] [] pos) X.env = (do
      let ov ← eval o X.env
      standAt apos.atName
      let (f, first) ← holding [ov] (getMethod ov m pl)
      callWith pos f first (backTo pos (starEach [] X.env)) (backToKw pos (keywordEach [] X.env))) := by rfl) :
    PE X (.Call (.Attribute o m apos) [] [] pos) (tMethS C m sp EE ta tNil) := by
  obtain ⟨f, fd, h1, h3, h4⟩ := F
  intro pins s σ H Q I h
  refine PySem.W.methodCall_KW (pl := pl) (thn (he pins s σ H _ I h) fun u s1 ⟨x, H1, I1, rx, a, dx, fs, ex, ea, l, q⟩ => ?_) ht
  subst ex
  obtain rfl : u = Value.ref a := rx
  refine getmeth_ok I1 ea c h1 l ?_
  exact PySem.W.callWith_K0 (first := [.ref a]) I1.kIn h1.kp (run_fnS (us := [.ref a]) (vs := [.ref a]) h4 hr h3 hx I1 (.cons rfl .nil) q)
theorem pe_mkS (F : FnI X.prog X.w X.K X.mg X.base CX x C k ps sp) (hr : Room (k + 1) X.A) (hx : PassesS CX X EE) (ha : PA X (e :: es) t) (hg : Gl X x := by rfl)
    (hdb : (x == ("__debug__" : Str)) = false := by decide) (he : starEach (e :: es) X.env = (false, eval e X.env) :: starEach es X.env := by rfl) (hpl : (backTo pos (starEach es X.env)).any (·.1) = false := by rfl) :
    PE X (.Call (.Name x p) (e :: es) [] pos) (tMakeS C sp EE t) := by
  obtain ⟨h1, f, fd, h2, h3, h4⟩ := F
  intro pins s σ H Q I h
  refine wpAny_Call_Name_kw (ld_glob I hg h1 ?_ hdb)
  refine PySem.W.callWith_K (h₀ := X.base) I.ok.mod.kin h2.kp (thn (ha pos pins s σ H _ I h) fun us s1 ⟨vs, H1, I1, r, q⟩ => ⟨I1.kIn, ?_⟩) he hpl
  exact run_makeS h2 h4 hr h3 hx I1 r q
end
def PJ (X : Cx) (vs : List Expr) (n : Nat) (t : St → Hp → (Hp → Prop) → Prop) : Prop :=
  ∀ (pins : List (Addr × Obj)) (s : Shared) (σ : St) (H : Hp) (Q : Hp → Prop) (acc : Str), Inv X pins σ H s → t σ H Q → acc.length + n * 2000 ≤ sizeLine →
    Joins (model X.prog X.w) X.A X.xe (evalEach vs X.env) acc (fun out s₁ => out.length ≤ sizeLine ∧ ∃ H', Inv X pins σ H' s₁ ∧ Q H') s
section
variable {X : Cx} {v : Expr} {vs : List Expr} {n : Nat} {t : St → Hp → (Hp → Prop) → Prop} {te : TE} {pos : Pos}
def jNil : St → Hp → (Hp → Prop) → Prop := fun _ H Q => Q H
def jInt (te : TE) (t : St → Hp → (Hp → Prop) → Prop) : St → Hp → (Hp → Prop) → Prop := fun σ H Q => te σ H fun x H1 => ∃ i : Int, x = .int i ∧ i.natAbs.log2 < 1920 ∧ t σ H1 Q
theorem pj_nil : PJ X [] 0 jNil := fun _ _ _ H _ _ I h hz => ⟨by omega, H, I, h⟩
theorem pj_str {x : Str} {j} (h : PJ X vs n t) (hx : x.length ≤ 2000 := by decide) : PJ X (.Constant (.str x) j pos :: vs) (n + 1) t := by
  intro pins s σ H Q acc I hw hz
  refine Calls.Constant_str ⟨x, _, rfl, ?_, h pins _ σ H Q _ (I.tok _) hw ?_⟩
  · rw [strLen_append]; omega
  · rw [strLen_append]; omega
theorem pj_int (he : PE X v te) (h : PJ X vs n t) : PJ X (.FormattedValue v (-1) none pos :: vs) (n + 1) (jInt te t) := by
  intro pins s σ H Q acc I hw hz
  refine wpAny_FormattedValue_plain (thn (he pins s σ H _ I hw) fun u s1 ⟨x, H1, I1, r1, i, e, hi, q⟩ => ?_)
  subst e
  obtain ⟨tk, rfl⟩ := r1
  have hl := int_text_length_le (k := 1920) (by decide) hi
  have hl2 : (Str.ofString (toString i)).length ≤ 1921 := by rw [PySem.ofString_length]; exact hl
  refine wpAny_formatField_int hi ⟨Str.ofString (toString i), _, rfl, ?_, h pins _ σ H1 Q _ ((I1.tok _)) q ?_⟩
  · rw [strLen_append]; omega
  · rw [strLen_append]; omega
def tFstr (t : St → Hp → (Hp → Prop) → Prop) : TE := fun σ H Q => t σ H fun H' => ∀ z : Str, Q (.str z) H'
theorem pe_fstr {v2 : Expr} (h : PJ X (v :: v2 :: vs) n t) (hn : n * 2000 ≤ sizeLine := by decide) : PE X (.JoinedStr (v :: v2 :: vs) pos) (tFstr t) := by
  intro pins s σ H Q I hw
  refine wpAny_JoinedStr ?_
  have hz : Str.empty.length + n * 2000 ≤ sizeLine := by
    have : Str.empty.length = 0 := rfl
    omega
  have go : ∀ (ps : List (Sem Value)) (acc : Str) (s : Shared) (R R' : Str → Shared → Prop), (∀ a s, R a s → R' a s) → Joins (model X.prog X.w) X.A X.xe ps acc R s → Joins (model X.prog X.w) X.A X.xe ps acc R' s := by
    intro ps
    induction ps with
    | nil => intro acc s R R' hR h; exact hR _ _ h
    | cons x r ih => intro acc s R R' hR h; exact wpAny_mono h (fun v s1 ⟨y, tk, e, hl, q⟩ => ⟨y, tk, e, hl, ih _ _ R R' hR q⟩) fun _ _ z => z
  exact go _ _ _ _ _ (fun out s1 ⟨hl, H', I', q⟩ => ⟨hl, .str out, H', I'.tok _, ⟨_, rfl⟩, q out⟩) (h pins s σ H _ Str.empty I hw hz)
theorem small_log {i : Int} (h1 : -(10 ^ 40) < i) (h2 : i < 10 ^ 40) : i.natAbs.log2 < 1920 := by
  by_cases h0 : i.natAbs = 0
  · rw [h0]; decide
  · refine (Nat.log2_lt h0).mpr (Nat.lt_of_lt_of_le (show i.natAbs < 10 ^ 40 by omega) (Nat.le_trans (show 10 ^ 40 ≤ 2 ^ 200 by decide) (Nat.pow_le_pow_right (by decide) (by decide))))
end
end L2
namespace L2
open PySem PySem.Spec PyProof.Rows
abbrev bmVE : List Value := [.type "ValueError", .type "Exception", .type "BaseException", .type "object"]
structure ExcC (K : PySem.W.Frag) (mg : Str → Option Value) (x : Str) (C : Addr) : Prop where
  at_ : mg x = some (.ref C)
  ex : PySem.W.excIn K C bmVE "ValueError.__new__" = true
theorem exc_parts {cd : ClassData} {sl : Array (Option Value)} {dd : Option Addr} {C : Addr} {bm : List Value} {k0 k1 k2 k3 k5 : Option Value} {i : String} (m : cd.mro = .ref C :: bm) (d : cd.hasDel = false) (l : sl.toList = [k0, k1, k2, k3, some (.builtin i), k5]) :
    (⟨.type "type", dd, .cls cd, sl⟩ : Obj) = excClassObj cd.name cd.qualname C cd.ns cd.bases bm cd.hasDict cd.slotNames cd.subclasses cd.abstract cd.collection dd k0 k1 k2 k3 k5 i := by
  cases sl
  cases cd
  cases m
  cases d
  cases l
  rfl
theorem exc_obj {K : PySem.W.Frag} {h : Heap} {C : Addr} {bmB : List Value} {newId : String} (X : K.In h) (q : PySem.W.excIn K C bmB newId = true) :
    ∃ bm N nm qn bs hdct sn sub ab col dd k0 k1 k2 k3 k5 mN, h.get? C = some (excClassObj nm qn C N bs bm hdct sn sub ab col dd k0 k1 k2 k3 k5 newId) ∧ h.Ns N mN ∧ mN "__init__" = none ∧ OwnTail h bmB bm := by
  unfold PySem.W.excIn at q
  split at q
  case h_2 => cases q
  case h_1 o =>
    split at q
    case h_2 => cases q
    case h_1 m l =>
      simp only [Bool.and_eq_true, beq_iff_eq, Bool.not_eq_true'] at q
      obtain ⟨⟨⟨⟨⟨rfl, rfl⟩, d⟩, t⟩, ok⟩, i⟩ := q
      have r := X _ _ o
      rw [exc_parts m d l] at r
      exact ⟨_, _, _, _, _, _, _, _, _, _, _, _, _, _, _, _, _, r, .of_isNs (PySem.W.isNs_of_in X ok), PySem.W.nsMap_none_of_in X ok i, PySem.W.tail_of_in X t⟩
section
variable {X : Cx} {EE : St → XK}
def tRaise (C : Addr) (EE : St → XK) (ta : TA) : TS := fun _ σ H => ta σ H fun vs H1 => vs.length ≤ sizeLine ∧ EE σ (.ref C) none H1
theorem ps_raise {x : Str} {C : Addr} {e : Expr} {es : List Expr} {ta : TA} {np cpos pos : Pos} (c : ExcC X.K X.mg x C) (S : Std X) (hc : X.calm = true) (ha : PA (X.thr EE) (e :: es) ta) (hg : Gl X x := by rfl)
    (hdb : (x == ("__debug__" : Str)) = false := by decide) (he : starEach (e :: es) X.env = (false, eval e X.env) :: starEach es X.env := by rfl) (hpl : (backTo cpos (starEach es X.env)).any (·.1) = false := by rfl) :
    PS (X.thr EE) (.Raise (some (.Call (.Name x np) (e :: es) [] cpos)) none pos) (tRaise C EE ta) := by
  intro pins s σ H D I h
  obtain ⟨bm, N, nm, qn, bs, hdct, sn, sub, ab, col, dd, k0, k1, k2, k3, k5, mN, hC, hN, hni, T⟩ := exc_obj I.ok.mod.kin c.ex
  refine wpAny_Raise_call_subT (C := C) (nm := nm) (q := qn) (N := N) (bs := bs) (bm := bm) (hdct := hdct) (sn := sn) (sub := sub) (ab := ab) (col := col) (dd := dd) (k0 := k0) (k1 := k1) (k2 := k2) (k3 := k3) (k5 := k5)
    PySem.F.excBase_ValueError (mN := mN) (T.hasType PySem.F.excBase_ValueError.hasBase) (I.ok.hd hc) ?_ hni (ld_glob (X := X.thr EE) I hg c.at_ ⟨rfl, ?_⟩ hdb)
  · rw [he]
    show (false || (backTo cpos (starEach es X.env)).any (·.1)) = false
    rw [hpl]; rfl
  · have h0 := ha cpos pins s σ H _ I h
    rw [he] at h0 ⊢
    refine Calls.evalArgs_plain (thn h0 fun us s2 ⟨vs, H2, I2, r2, hz, q2⟩ => ?_)
    have I2' : Inv X [] σ H2 s2 := I2.unwish.nopins
    refine ⟨rfl, by rw [← r2.length]; exact hz, I2'.bk _ _ hC, hN.keeps I2'.bk, T.keeps I2'.bk, fun h' a hm => ?_⟩
    obtain ⟨tt, hm1, hm2, hm3⟩ := hm.there
    refine ⟨σ, H2, a, .ref C, none, rfl, I2'.kept (t' := s2.toks) hm.keeps, ⟨_, _, _, hm1, rfl, rfl, rfl, ?_, ?_, rfl⟩, .inl rfl, q2⟩
    · cases g : X.s₀.heap.get? a with
      | none => rfl
      | some o =>
        obtain ⟨o', e1⟩ := I2'.base.there a o g (by rw [S.ex]; exact fun z => nomatch z)
        rw [hm.new] at e1; cases e1
    · cases g : H2 a with
      | none => rfl
      | some o =>
        obtain ⟨o', e1⟩ := (I2'.hok a o g).there
        rw [hm.new] at e1; cases e1
def Cx.hnd (X : Cx) (e : Addr) : Cx := { X with A := X.A.mark (some (.ref e)), calm := false, xe := fun _ _ => False }
theorem Inv.hnd {σ : St} {H : Hp} {s : Shared} (I : Inv X [] σ H s) (e : Addr) : Inv (X.hnd e) [] σ H s :=
  ⟨⟨I.ok.mod, I.ok.kind, I.ok.glob, I.ok.blt, I.ok.above, I.ok.inj, I.ok.has, I.ok.cab, (fun z => (nomatch z)), I.ok.frames, I.ok.stk, I.ok.exf, I.ok.bs, I.ok.bsz, I.ok.noex, I.ok.exfs, I.ok.funs, I.ok.frf⟩, I.os, I.bare, I.base, I.loc, I.cell, I.free, I.freeC, I.pin, I.hok, I.len⟩
def PH (X : Cx) (EE : St → XK) (hs : List ExceptHandler) (th : Value → TS) : Prop :=
  ∀ (s : Shared) (σ : St) (H : Hp) (D : Ends) (e : Addr) (cls : Value), Inv X [] σ H s → XAt X.s₀.heap H s.heap e cls (some .none) → th cls D σ H →
    wpAny (model X.prog X.w) X.A (handleBy (.ref e) X.env hs) (SP (X.thr EE) [] D) (XB X EE) s
def hNil (EE : St → XK) : Value → TS := fun cls _ σ H => EE σ cls none H
def hCons (K : PySem.W.Frag) (C : Value) (t : TS) (th : Value → TS) : Value → TS := fun cls D σ H => ∃ b, PySem.W.exmOne K cls C = some b ∧ if b = true then t D σ H else th cls D σ H
def tTry (tb : (St → XK) → TS) (th : Value → TS) : TS := fun D σ H => tb (fun σ' cls _ H' => th cls D σ' H') D σ H
end
end L2
namespace L2
open PySem PySem.Spec PyProof.Rows
end L2
namespace L2
open PySem PySem.Spec PyProof.Rows
section
variable {X : Cx} {K : PySem.W.Frag}
theorem ix_listK (h : X.K = K) : IxR X (rIxL K) := h ▸ ix_list
end
end L2
set_option maxHeartbeats 4000000
namespace L2
open PySem PySem.Spec PyProof.Rows
def Itv (K : PySem.W.Frag) (a : Addr) (n : Nat) : It :=
  ⟨fun i H => ∃ xs, SqL K H a xs ∧ xs.length = n ∧ i < n, fun i H x H' => H' = H ∧ ∀ xs, SqL K H a xs → xs[n - 1 - i]? = some x, fun i _ => i = n⟩
section
variable {X : Cx} {tg : Expr}
def iRev (K : PySem.W.Frag) (ta : TA) : TI := fun σ H R => ta σ H fun vs H1 => ∃ a xs, vs = [.ref a] ∧ SqL K H1 a xs ∧ R (Itv K a xs.length) H1
end
def tRev (K : PySem.W.Frag) (te tk : TE) : TE := fun σ H Q => te σ H fun x H1 => tk σ H1 fun y H2 => y = .int (-1) ∧ ∃ a xs, x = .ref a ∧ SqL K H2 a xs ∧ ∀ p, H2 p = none → Q (.ref p) (upd H2 p (.lst xs.reverse))
def Itc (lo st : Int) (n : Nat) : It := ⟨fun i _ => i < n, fun i H x H' => H' = H ∧ x = .int (lo + i * st), fun i _ => n ≤ i⟩
section
variable {X : Cx} {tg : Expr}
def rngN (lo hi st : Int) : Nat := (Builtin.Range.rangeSize lo hi st).toNat
def iRng3 (ta : TA) : TI := fun σ H R => ta σ H fun vs H1 => ∃ i j c : Int, vs = [.int i, .int j, .int c] ∧ (0 < c ∧ c < 1000 ∧ 0 ≤ i ∧ i < 1000 ∧ 0 ≤ j ∧ j < 1000) ∧ R (Itc i c (rngN i j c)) H1
end
end L2
set_option maxHeartbeats 4000000
namespace L2
open PySem PySem.Spec PyProof.Rows
end L2
namespace L2
open PySem PySem.Spec PyProof.Rows
section
variable (P : Program) (w : World)
end
section
variable {P : Program} {w : World} {H H' : Hp} {h h' : Heap} {a : Addr} {o : HO}
end
section
variable {P : Program} {w : World} {H : Hp} {h h' : Heap} {x e : Addr} {o' : HO}
end
section
variable {fs fs' ex ex' : List Addr} {H H1 H2 : Hp} {h h1 h2 h' : Heap} {a x e : Addr} {o : HO}
end
end L2
namespace L2
open PySem PySem.Spec PyProof.Rows
section
variable {X : Cx} {pins : List (Addr × Obj)} {σ : List (Option V)} {H H' : Hp} {s : Shared} {h' : Heap}
end
end L2
namespace L2
open PySem PySem.Spec PyProof.Rows
section
variable {X : Cx}
variable {a b : Expr} {ta tb : TE} {pos : Pos}
variable {tA tB' : TT} {rest : List Expr}
end
end L2
namespace L2
open PySem PySem.Spec PyProof.Rows
section
variable {X : Cx} {pins : List (Addr × Obj)} {σ : St} {H : Hp} {s : Shared} {a : Addr} {xs ys : List V}
end
section
variable {X : Cx} {pins : List (Addr × Obj)} {σ : St} {H : Hp} {s : Shared} {E : Value → Shared → Prop}
end
section
variable {X : Cx} {st : Stmt} {rest : List Stmt} {t u : TS} {e : Expr} {te : TE} {pos : Pos}
end
section
variable {X : Cx} {pos : Pos}
end
section
variable {X : Cx} {pos : Pos}
end
end L2
namespace L2
open PySem PySem.Spec PyProof.Rows
section
variable {X : Cx} {tg : Expr}
end
end L2
namespace L2
open PySem PySem.Spec PyProof.Rows
section
variable {X : Cx} {a b c : Expr} {ta tb tc : TE} {pos : Pos}
end
section
variable {X : Cx} {a b c : Expr} {ta tb tc : TE} {pos : Pos}
end
end L2
namespace L2
open PySem PySem.Spec PyProof.Rows
section
variable {prog : Program} {w : World} {A : Around} {E : Value → Shared → Prop} {s : Shared} {K : PySem.W.Frag} {x dx C f : Addr} {mA : Str → Option Value} {name : Str} {v : Value}
end
section
variable {P : Program} {w : World} {H H' : Hp} {h h' : Heap} {a C dx : Addr} {fs fs' : List (Str × V)}
end
section
variable {X : Cx} {pins : List (Addr × Obj)} {σ : St} {H : Hp} {s : Shared} {a C dx : Addr} {fs : List (Str × V)} {f : Str} {v : V} {A : Around} {E : Value → Shared → Prop}
end
section
variable {X : Cx} {o e value : Expr} {f : Str} {pos pos' tpos : Pos} {ta tv : TE}
end
section
variable {X : Cx} {pins : List (Addr × Obj)} {σ : St} {H : Hp} {s : Shared} {A : Around} {E : Value → Shared → Prop} {Q : Value → Shared → Prop} {c : Value} {b : Bool}
end
end L2
namespace L2
open PySem PySem.Spec PyProof.Rows
section
variable {X : Cx} {e : Expr} {es : List Expr} {te : TE} {t : TA} {pos : Pos}
end
section
variable {X : Cx} {pins : List (Addr × Obj)} {σ : St} {H : Hp} {s s' : Shared}
end
section
variable {X : Cx} {CX : CXT} {k : Nat} {f C : Addr} {fd : FuncData} {ps : List Str} {sp : Sp} {dvs : List V} {ds : List Value} {E : XK} {x m : Str} {p pos apos : Pos} {e o : Expr} {es : List Expr} {ta : TE} {t : TA}
end
section
variable {X : Cx} {CX : CXT} {k : Nat} {f C : Addr} {fd : FuncData} {ps ks : List Str} {sp : Sp} {E : XK} {x m : Str} {p pos apos kpos : Pos} {e o : Expr} {es : List Expr} {kws : List Keyword} {te ta : TE} {t tk : TA} {nm : Option Str}
variable {g : List Value → List Value → List Value} {gV : List V → List V → List V}
end
end L2
namespace L2
open PySem PySem.Spec PyProof.Rows
section
variable {X : Cx} {x : Str} {p pos : Pos} {e : Expr} {es : List Expr} {t : TA} {id T : String} {r : List V → Hp → VK → Prop}
end
end L2
namespace L2
open PySem PySem.Spec PyProof.Rows
section
variable {κ : Type} [DecidableEq κ]
def valV (kvs : List (κ × V)) (k : κ) : Option V := (kvs.find? fun kv => decide (kv.1 = k)).map (·.2)
def putK (kvs : List (κ × V)) (k : κ) (v : V) : List (κ × V) :=
  if (kvs.any fun kv => decide (kv.1 = k)) = true then kvs.map (fun kv => if kv.1 = k then (kv.1, v) else kv) else kvs ++ [(k, v)]
def dropK (kvs : List (κ × V)) (k : κ) : List (κ × V) := kvs.filter fun kv => decide (kv.1 ≠ k)
theorem valV_pos {p : κ × V} {r : List (κ × V)} {k : κ} (e : p.1 = k) : valV (p :: r) k = some p.2 := by simp [valV, List.find?_cons, e]
theorem valV_neg {p : κ × V} {r : List (κ × V)} {k : κ} (e : ¬ p.1 = k) : valV (p :: r) k = valV r k := by simp [valV, List.find?_cons, e]
theorem valV_any (k : κ) : ∀ kvs : List (κ × V), (kvs.any fun kv => decide (kv.1 = k)) = (valV kvs k).isSome
  | [] => rfl
  | p :: r => by
    rw [List.any_cons]
    by_cases e : p.1 = k
    · simp only [valV_pos e, decide_eq_true e, Bool.true_or, Option.isSome_some]
    · rw [valV_neg e, decide_eq_false e, Bool.false_or]; exact valV_any k r
theorem length_putK (kvs : List (κ × V)) (k : κ) (v : V) : (putK kvs k v).length ≤ kvs.length + 1 := by
  unfold putK
  split
  · rw [List.length_map]; omega
  · rw [List.length_append, List.length_cons, List.length_nil]; omega
theorem RelO.isSome_eq {o : Option V} {u : Option Value} (r : RelO o u) : o.isSome = u.isSome := by
  cases o with
  | none => cases u with
    | none => rfl
    | some _ => exact (show False from r).elim
  | some _ => cases u with
    | none => exact (show False from r).elim
    | some _ => rfl
theorem KV.val {kvs : List (κ × V)} {vs : List (κ × Value)} (r : KV kvs vs) (k : κ) : RelO (valV kvs k) (valueAt vs k) := by
  unfold KV at r
  induction r with
  | nil => exact True.intro
  | @cons p q ps qs h t ih =>
    obtain ⟨h1, h2⟩ := h
    by_cases e : p.1 = k
    · have e' : q.1 = k := h1.symm.trans e
      have b : valueAt (q :: qs) k = some q.2 := by simp [valueAt, List.find?_cons, e']
      rw [valV_pos e, b]; exact h2
    · have e' : ¬ q.1 = k := fun z => e (h1.trans z)
      have b : valueAt (q :: qs) k = valueAt qs k := by simp [valueAt, List.find?_cons, e']
      rw [valV_neg e, b]; exact ih
theorem KV.any {kvs : List (κ × V)} {vs : List (κ × Value)} (r : KV kvs vs) (k : κ) : (kvs.any fun kv => decide (kv.1 = k)) = vs.any fun kv => decide (kv.1 = k) := by
  unfold KV at r
  induction r with
  | nil => rfl
  | cons h t ih => rw [List.any_cons, List.any_cons, ih, h.1]
theorem KV.repl {kvs : List (κ × V)} {vs : List (κ × Value)} (r : KV kvs vs) (k : κ) {y : V} {u : Value} (ry : RelV y u) :
    KV (kvs.map fun kv => if kv.1 = k then (kv.1, y) else kv) (vs.map fun kv => if kv.1 = k then (kv.1, u) else kv) := by
  unfold KV at r ⊢
  induction r with
  | nil => exact .nil
  | @cons p q ps qs h t ih =>
    rw [List.map_cons, List.map_cons]
    refine .cons ?_ ih
    obtain ⟨h1, h2⟩ := h
    by_cases e : p.1 = k
    · rw [if_pos e, if_pos (h1.symm.trans e)]; exact ⟨h1, ry⟩
    · rw [if_neg e, if_neg (fun z => e (h1.trans z))]; exact ⟨h1, h2⟩
theorem KV.put {kvs : List (κ × V)} {vs : List (κ × Value)} (r : KV kvs vs) (k : κ) {y : V} {u : Value} (ry : RelV y u) : KV (putK kvs k y) (stored vs k u) := by
  unfold putK stored
  rw [r.any k]
  by_cases e : (vs.any fun kv => decide (kv.1 = k)) = true
  · rw [if_pos e, if_pos e]; exact r.repl k ry
  · rw [if_neg e, if_neg e]; exact Paired.snoc r ⟨rfl, ry⟩
theorem KV.drop {kvs : List (κ × V)} {vs : List (κ × Value)} (r : KV kvs vs) (k : κ) : KV (dropK kvs k) (without vs k) := by
  unfold KV at r ⊢
  unfold dropK without
  induction r with
  | nil => exact .nil
  | @cons p q ps qs h t ih =>
    obtain ⟨h1, h2⟩ := h
    rw [List.filter_cons, List.filter_cons]
    by_cases e : p.1 = k
    · have a : ¬ decide (p.1 ≠ k) = true := by simp [e]
      have b : ¬ decide (q.1 ≠ k) = true := by simp [h1.symm.trans e]
      rw [if_neg a, if_neg b]; exact ih
    · have e' : ¬ q.1 = k := fun z => e (h1.trans z)
      have a : decide (p.1 ≠ k) = true := by simp [e]
      have b : decide (q.1 ≠ k) = true := by simp [e']
      rw [if_pos a, if_pos b]; exact .cons ⟨h1, h2⟩ ih
theorem KV.length {kvs : List (κ × V)} {vs : List (κ × Value)} (r : KV kvs vs) : kvs.length = vs.length := Paired.length r
end
theorem kV_is {P : Program} {w : World} {k : Key} {u : Value} (r : RelV (kV k) u) : (mixKind P w).is k u = true := by
  cases k with
  | inl i => obtain ⟨t, e⟩ := (show ∃ t, u = Value.int i t from r); subst e; exact mixKind_int P w i t
  | inr x => obtain ⟨t, e⟩ := (show ∃ t, u = Value.str x t from r); subst e; exact mixKind_str P w x t
theorem items_are {P : Program} {w : World} : ∀ {ks : List Key} {us : List Value}, Vals (ks.map kV) us → ItemsAre (mixKind P w) ks us
  | [], _, r => by rw [List.map_nil] at r; cases r; exact .nil
  | k :: ks, _, r => by
    rw [List.map_cons] at r
    cases r with
    | cons h t => exact .cons (kV_is h) (items_are t)
abbrev KT (H : Hp) : List (List Key × V) → List (List Key × Addr × Value) → Prop := Paired fun p q => p.1 = q.1 ∧ H q.2.1 = some (.tup (p.1.map kV)) ∧ RelV p.2 q.2.2
theorem KT.val {H : Hp} {kvs : List (List Key × V)} {xs : List (List Key × Addr × Value)} (r : KT H kvs xs) (k : List Key) : RelO (valV kvs k) ((atKey xs k).map (·.2)) := by
  induction r with
  | nil => exact True.intro
  | @cons p q ps qs h t ih =>
    obtain ⟨h1, _, h2⟩ := h
    by_cases e : p.1 = k
    · have e' : q.1 = k := h1.symm.trans e
      have b : atKey (q :: qs) k = some q.2 := by simp [atKey, List.find?_cons, e']
      rw [valV_pos e, b]; exact h2
    · have e' : ¬ q.1 = k := fun z => e (h1.trans z)
      have b : atKey (q :: qs) k = atKey qs k := by simp [atKey, List.find?_cons, e']
      rw [valV_neg e, b]; exact ih
theorem KT.repl {H : Hp} {kvs : List (List Key × V)} {xs : List (List Key × Addr × Value)} (r : KT H kvs xs) (k : List Key) {y : V} {u : Value} (ry : RelV y u) :
    KT H (kvs.map fun kv => if kv.1 = k then (kv.1, y) else kv) (xs.map (putAt k u)) := by
  induction r with
  | nil => exact .nil
  | @cons p q ps qs h t ih =>
    rw [List.map_cons, List.map_cons]
    refine .cons ?_ ih
    obtain ⟨h1, h2, h3⟩ := h
    unfold putAt
    by_cases e : p.1 = k
    · rw [if_pos e, if_pos (h1.symm.trans e)]; exact ⟨h1, h2, ry⟩
    · rw [if_neg e, if_neg (fun z => e (h1.trans z))]; exact ⟨h1, h2, h3⟩
theorem KT.put {H : Hp} {kvs : List (List Key × V)} {xs : List (List Key × Addr × Value)} (r : KT H kvs xs) (k : List Key) {b : Addr} {y : V} {u : Value} (hb : H b = some (.tup (k.map kV))) (ry : RelV y u) :
    KT H (putK kvs k y) (storedH xs k b u) := by
  have e : (kvs.any fun kv => decide (kv.1 = k)) = (atKey xs k).isSome := by
    rw [valV_any, (r.val k).isSome_eq, Option.isSome_map]
  unfold putK storedH
  rw [e]
  by_cases q : (atKey xs k).isSome = true
  · rw [if_pos q, if_pos q]; exact r.repl k ry
  · rw [if_neg q, if_neg q]; exact Paired.snoc r ⟨rfl, hb, ry⟩
theorem KT.keeps {H H' : Hp} {kvs : List (List Key × V)} {xs : List (List Key × Addr × Value)} (r : KT H kvs xs) (ht : ∀ b ys, H b = some (.tup ys) → H' b = some (.tup ys)) : KT H' kvs xs :=
  Paired.mapP r fun _ _ z => ⟨z.1, ht _ _ z.2.1, z.2.2⟩
section
variable {P : Program} {w : World} {H : Hp} {h : Heap} {a : Addr}
theorem rd_of {u : HO} (ok : HOk P w H h) (e : Rd H a u) : ObjOk P w H h a u := e.ok ok
theorem dk_rd {kvs : List (Key × V)} (ok : HOk P w H h) (e : Rd H a (.dK kvs)) : kvs.length ≤ sizeLine ∧ (a == sysModules) = false ∧ ∃ vs, KV kvs vs ∧ h.DictOf (mixKind P w) a vs :=
  show ObjOk P w H h a (.dK kvs) from rd_of ok e
theorem dk_of {kvs : List (Key × V)} (ok : HOk P w H h) (e : H a = some (.dK kvs)) : kvs.length ≤ sizeLine ∧ (a == sysModules) = false ∧ ∃ vs, KV kvs vs ∧ h.DictOf (mixKind P w) a vs := dk_rd ok (.inl e)
theorem key_of {ks : List Key} (ok : HOk P w H h) (e : H a = some (.tup (ks.map kV))) : (tupleKind (mixKind P w)).is h ks a := by
  obtain ⟨_, its, r, o, h1, h2, n, h3⟩ := (show ObjOk P w H h a (.tup (ks.map kV)) from ok a _ e)
  exact ⟨o, its.toArray, n, h1, h2, h3, by simpa using items_are r⟩
theorem dt_rd {kvs : List (List Key × V)} (ok : HOk P w H h) (e : Rd H a (.dT kvs)) : kvs.length ≤ sizeLine ∧ (a == sysModules) = false ∧
    ∃ xs, KT H kvs xs ∧ h.DictOfH (tupleKind (mixKind P w)) a xs := by
  obtain ⟨z, y, xs, r, o, es, ep, h1, h2, h3, h4, h5⟩ := (show ObjOk P w H h a (.dT kvs) from rd_of ok e)
  refine ⟨z, y, xs, r, o, es, ep, h1, h2, h3, h4, fun x hx => ?_, h5⟩
  have all : ∀ {l : List (List Key × V)} {m : List (List Key × Addr × Value)}, KT H l m → ∀ x ∈ m, (tupleKind (mixKind P w)).is h x.1 x.2.1 := by
    intro l m q
    induction q with
    | nil => intro x hx; exact nomatch hx
    | @cons p q ps qs hq t ih =>
      intro x hx
      rcases List.mem_cons.mp hx with e | hx
      · subst e
        exact key_of ok (by rw [← hq.1]; exact hq.2.1)
      · exact ih x hx
  exact all r x hx
theorem dt_of {kvs : List (List Key × V)} (ok : HOk P w H h) (e : H a = some (.dT kvs)) : kvs.length ≤ sizeLine ∧ (a == sysModules) = false ∧
    ∃ xs, KT H kvs xs ∧ h.DictOfH (tupleKind (mixKind P w)) a xs := dt_rd ok (.inl e)
end
def DGet (H : Hp) (a : Addr) (y : V) (r : Option V) : Prop :=
  (∃ kvs k, Rd H a (.dK kvs) ∧ y = kV k ∧ r = valV kvs k) ∨ ∃ kvs k b, Rd H a (.dT kvs) ∧ y = .ref b ∧ H b = some (.tup (k.map kV)) ∧ r = valV kvs k
def DPut (H : Hp) (a : Addr) (y v : V) (H' : Hp) : Prop :=
  (∃ kvs k, H a = some (.dK kvs) ∧ y = kV k ∧ kvs.length < sizeLine ∧ H' = upd H a (.dK (putK kvs k v))) ∨
  ∃ kvs k b, H a = some (.dT kvs) ∧ y = .ref b ∧ H b = some (.tup (k.map kV)) ∧ kvs.length < sizeLine ∧ H' = upd H a (.dT (putK kvs k v))
theorem DGet.k {H : Hp} {a : Addr} {kvs : List (Key × V)} {k : Key} (e : H a = some (.dK kvs)) : DGet H a (kV k) (valV kvs k) := .inl ⟨kvs, k, .inl e, rfl, rfl⟩
theorem DGet.t {H : Hp} {a b : Addr} {kvs : List (List Key × V)} {k : List Key} (e : H a = some (.dT kvs)) (eb : H b = some (.tup (k.map kV))) : DGet H a (.ref b) (valV kvs k) := .inr ⟨kvs, k, b, .inl e, rfl, eb, rfl⟩
theorem DPut.k {H : Hp} {a : Addr} {kvs : List (Key × V)} {k : Key} {v : V} (e : H a = some (.dK kvs)) (hl : kvs.length < sizeLine) : DPut H a (kV k) v (upd H a (.dK (putK kvs k v))) := .inl ⟨kvs, k, e, rfl, hl, rfl⟩
theorem DPut.t {H : Hp} {a b : Addr} {kvs : List (List Key × V)} {k : List Key} {v : V} (e : H a = some (.dT kvs)) (eb : H b = some (.tup (k.map kV))) (hl : kvs.length < sizeLine) :
    DPut H a (.ref b) v (upd H a (.dT (putK kvs k v))) := .inr ⟨kvs, k, b, e, rfl, eb, hl, rfl⟩
section
variable {X : Cx} {pins : List (Addr × Obj)} {σ : St} {H : Hp} {s : Shared} {a : Addr} {y v : V} {u r : Value} {o : Option V} {A : Around} {E : Value → Shared → Prop}
theorem Inv.big (I : Inv X pins σ H s) : sysModules < s.heap.objs.size := by
  have h : mainGlobals < s.heap.objs.size := (I.mod.glob.keeps I.bk).lt
  exact Nat.lt_trans (by decide) h
theorem d_write {h' : Heap} {t' : Nat} {ob : HO} (I : Inv X pins σ H s) (mu : Mut (H a)) (hs : Heap.SameBut a s.heap h') (he : ∃ q, h'.get? a = some q) (new : ObjOk X.prog X.w (upd H a ob) h' a ob) :
    Inv X pins σ (upd H a ob) { s with heap := h', toks := t' } :=
  I.write (x := a) (e := a) mu (.inl rfl) (fun b q hb z => (hs.2 b hb).trans z) he new
theorem dk_new {P : Program} {w : World} {H' : Hp} {h' : Heap} {kvs : List (Key × V)} {vs : List (Key × Value)} (z : kvs.length ≤ sizeLine) (hd : (a == sysModules) = false) (rel : KV kvs vs) (dd : h'.DictOf (mixKind P w) a vs) :
    ObjOk P w H' h' a (.dK kvs) := ⟨z, hd, vs, rel, dd⟩
theorem d_setItem {H' : Hp} {Q : Unit → Shared → Prop} (hu : A.units + 1 < cLine) (I : Inv X pins σ H s) (g : DPut H a y v H') (ry : RelV y u) (rv : RelV v r) (h : ∀ s', Inv X pins σ H' s' → Q () s') :
    wpAny (model X.prog X.w) A (setItem (.ref a) u r) Q E s := by
  rcases g with ⟨kvs, k, e, ey, l, eH⟩ | ⟨kvs, k, b, e, ey, eb, l, eH⟩
  · subst ey eH
    obtain ⟨z, hd, vs, rel, dd⟩ := dk_of I.hok e
    have hz : vs.length ≤ sizeLine := by rw [← rel.length]; exact z
    have hl : (putK kvs k v).length ≤ sizeLine := by have := length_putK kvs k v; omega
    refine wpAny_setItem_pairs (hsz := hz) (kV_is ry) dd fun h' dd' hs => h _ ?_
    have he : ∃ q, h'.get? a = some q := let ⟨q, _, _, hq, _⟩ := dd'; ⟨q, hq⟩
    exact d_write I (by rw [e]; exact True.intro) hs he (dk_new hl hd (rel.put k rv) dd')
  · subst ey eH
    cases (show u = Value.ref b from ry)
    obtain ⟨z, hd, xs, rel, dd⟩ := dt_of I.hok e
    have hz : xs.length ≤ sizeLine := by rw [← Paired.length rel]; exact z
    have hl : (putK kvs k v).length ≤ sizeLine := by have := length_putK kvs k v; omega
    refine wpAny_setItem_heap (hsz := hz) (tupleKind_room_in1 hu) (key_of I.hok eb) dd fun h' dd' hs => h _ ?_
    obtain ⟨q, es, ep, hq, h2, h3, h4, _, h5⟩ := dd'
    refine d_write I (by rw [e]; exact True.intro) hs ⟨q, hq⟩ ⟨hl, hd, _, (rel.put k eb rv).keeps fun c ys ec => ?_, q, es, ep, hq, h2, h3, h4, h5⟩
    rw [upd_ne (ne_of ec e (fun z => nomatch z))]
    exact ec
end
section
variable {X : Cx} {pins : List (Addr × Obj)} {σ : St} {H : Hp} {s : Shared} {a : Addr} {kvs : List (Key × V)} {k : Key} {u : Value} {A : Around} {E : Value → Shared → Prop}
end
def NoSl (i : Expr) : Prop := ∀ ov iv, subscripted i false ov iv = operate [ov, iv] (getItem ov iv)
def tDGet (td ty : TE) : TE := fun σ H Q => td σ H fun x H1 => ty σ H1 fun y H2 => ∃ a v, x = .ref a ∧ DGet H2 a y (some v) ∧ Q v H2
def tDIn (ty td : TE) : TE := fun σ H Q => ty σ H fun y H1 => td σ H1 fun x H2 => ∃ a o, x = .ref a ∧ DGet H2 a y o ∧ Q (.bl o.isSome) H2
def tDNotIn (ty td : TE) : TE := fun σ H Q => ty σ H fun y H1 => td σ H1 fun x H2 => ∃ a o, x = .ref a ∧ DGet H2 a y o ∧ Q (.bl (!o.isSome)) H2
def sDPut (td ty tv : TE) : TS := fun D σ H => tv σ H fun v H1 => td σ H1 fun x H2 => ty σ H2 fun y H3 => ∃ a H4, x = .ref a ∧ DPut H3 a y v H4 ∧ D.nx σ H4
section
variable {X : Cx} {o i e value : Expr} {pos pos' tpos : Pos} {td ty tv : TE}
theorem ps_dput (hu : X.A.units + 1 < cLine) (ho : PE X o td) (hi : PE X i ty) (hv : PE X value tv) (hs : swapsWith value (some (.Subscript o i pos')) pos.line X.env = pure false) :
    PS X (.Assign [.Subscript o i pos'] value pos) (sDPut td ty tv) := by
  intro pins s σ H D I h
  refine wpAny_Assign_Subscript (thn (hv pins s σ H _ I h) fun r s1 ⟨v, H1, I1, rv, q1⟩ => thn (ho pins s1 σ H1 _ I1 q1) fun u s2 ⟨x, H2, I2, rx, q2⟩ => thn (hi pins s2 σ H2 _ I2 q2) fun iv s3 ⟨y, H3, I3, ry, a, H4, ex, g, q3⟩ => ?_) hs
  subst ex
  obtain rfl : u = Value.ref a := rx
  exact d_setItem hu I3 g ry rv fun s4 I4 => ⟨σ, H4, I4, q3⟩
end
theorem dk_empty {P : Program} {w : World} {H : Hp} (h : Heap) (hb : sysModules < h.objs.size) : ObjOk P w H (h.push { cls := .type "dict", data := .dict #[] }) h.objs.size (.dK []) :=
  ⟨Nat.zero_le _, beq_eq_false_iff_ne.mpr (Ne.symm (Nat.ne_of_lt hb)), [], .nil, Heap.DictOf.new h⟩
def tDNewK : TE := fun _ H Q => ∀ p, H p = none → Q (.ref p) (upd H p (.dK []))
section
variable {X : Cx} {pos : Pos}
theorem pe_dnewK : PE X (.Dict [] [] pos) tDNewK := fun pins s σ H Q I h =>
  wpAny_Dict_empty ⟨.ref s.heap.objs.size, _, I.laid (a := s.heap.objs.size) (o := .dK []) (t' := s.toks) (fun _ _ q => Heap.get?_push_of_some _ q) (Nat.le_refl _) (dk_empty s.heap I.big), rfl, h _ (I.hok.fresh (Nat.le_refl _))⟩
end
structure M1 (X : Cx) (o : Expr) (m : Str) (apos : Pos) (e : Expr) (cpos : Pos) : Prop where
  base : attributeBase o m X.env (eval o X.env) = eval o X.env
  few : ((backTo cpos (starEach [e] X.env)).all (fun x => !x.1) && (backToKw cpos (keywordEach [] X.env)).all (fun x => x.1.isSome)
    && decide (([e] : List Expr).length + ([] : List Keyword).length + (if ([] : List Keyword).isEmpty then 0 else 1) < 30)) = true
  line : (apos.endLine == cpos.line) = true
  trees : backTo cpos (starEach [e] X.env) = [(false, eval e X.env)]
def IsD (H : Hp) (a : Addr) : Prop := (∃ kvs, Rd H a (.dK kvs)) ∨ ∃ kvs, Rd H a (.dT kvs)
section
variable {X : Cx} {pins : List (Addr × Obj)} {σ : St} {H : Hp} {s : Shared} {a : Addr} {y d : V} {u r : Value} {o : Option V} {A : Around} {E : Value → Shared → Prop}
end
def tDPop1 (td ty : TE) : TE := fun σ H Q => td σ H fun x H1 => ∃ a, x = .ref a ∧ IsD H1 a ∧ ty σ H1 fun y H2 => ∃ kvs k v, H2 a = some (.dK kvs) ∧ y = kV k ∧ valV kvs k = some v ∧ Q v (upd H2 a (.dK (dropK kvs k)))
section
variable {X : Cx} {o e f : Expr} {apos cpos : Pos} {td ty tx : TE}
end
section
variable {X : Cx} {pins : List (Addr × Obj)} {σ : St} {H : Hp} {s : Shared} {a : Addr} {kvs : List (Key × V)} {A : Around} {E : Value → Shared → Prop}
end
section
variable {X : Cx} {pins : List (Addr × Obj)} {σ : St} {H : Hp} {s : Shared} {a : Addr} {y : V} {u : Value} {A : Around} {E : Value → Shared → Prop}
end
end L2
namespace Att
open PySem PySem.W PySem.Calls PyProof.Rows
section
variable {prog : Program} {w : World} {A : Around} {E : Value → Shared → Prop} {s : Shared} {K : Frag}
end
end Att
namespace L2
open PySem PySem.Spec PyProof.Rows
end L2
namespace L2
open PySem PySem.Spec PyProof.Rows
end L2
namespace L2
open PySem PySem.Spec PyProof.Rows
section
variable {P : Program} {w : World} {K : PySem.W.Frag} {mg : Str → Option Value} {base : Heap}
end
section
variable {X : Cx}
end
section
variable {κ : Type} [DecidableEq κ]
end
end L2
set_option maxHeartbeats 4000000
namespace L2
open PySem PySem.W PySem.Spec PyProof.Rows PySem.Calls
theorem bb_sorted : bootBuiltins "sorted" = some (.builtin "sorted") := by decide +kernel
theorem ints_get : ∀ {us : List Value} {ns : List Int}, us.length = ns.length → (∀ (j : Nat) (u : Value) (n : Int), us[j]? = some u → ns[j]? = some n → ∃ t, u = .int n t) → IntsAre us ns
  | [], [], _, _ => .nil
  | u :: us, n :: ns, hl, h => by
    obtain ⟨t, rfl⟩ := h 0 u n rfl rfl
    exact .cons n t (ints_get (Nat.succ.inj hl) fun j => h (j + 1))
theorem ints_vals : ∀ {us : List Value} {ns : List Int}, IntsAre us ns → Vals (ns.map V.int) us
  | _, _, .nil => .nil
  | _, _, .cons n t r => .cons ⟨t, rfl⟩ (ints_vals r)
theorem kv_get : ∀ {kvs : List (Key × V)} {vs : List (Key × Value)} {j : Nat} {k : Key} {x : Value}, KV kvs vs → vs[j]? = some (k, x) → (kvs.map (·.1))[j]? = some k
  | _, _, 0, _, _, .cons p _, h => by cases h; exact congrArg some p.1
  | _, _, j + 1, _, _, .cons _ r, h => by
    have ih := kv_get (j := j) r h
    exact ih
theorem keys_in {prog : Program} {w : World} {A : Around} {E : Value → Shared → Prop} {s : Shared} {T : String} {d : Addr} {n : Nat} {Pi : Nat → Value → Prop} {OK : Heap → Prop} {R : List Value → Shared → Prop} (S : KdlSrc prog w T d d n Pi OK) (hh : A.handled = none) (ok : OK s.heap) (hn : n ≤ sizeLine)
    (fin : ∀ (g : Heap) (tok : Nat) (acc : Array Value), (∀ b o, s.heap.get? b = some o → g.get? b = some o) → s.heap.objs.size ≤ g.objs.size → ItemsOf Pi acc n → R acc.toList { s with heap := g, toks := tok }) : wpAny (model prog w) A (collect (.ref d)) R E s := by
  have lt := S.there _ ok
  unfold collect; refine wpAny_bind (wpAny_runValue (codeAny_builtin entry_proto_collect' ?_)); rw [Around.under_plainId PySem.F.plain_proto_collect _]
  refine (show wpAny _ A.in1 (newList [] >>= fun l => again (.builtin "list.__iadd__" ⟨[l, .ref d], []⟩)) _ _ s from wpAny_bind (wpAny_newObj_type (wpAny_pure ⟨plainId_quiet PySem.F.plain_list_iadd _, codeAny_builtin entry_list_iadd' ?_⟩)))
  rw [Around.under_plainId PySem.F.plain_list_iadd _]
  have h0 : (s.heap.push { cls := .type "list", data := .seq ([] : List Value).toArray }).get? s.heap.objs.size = some { cls := .type "list", data := .seq #[] } := Heap.get?_push_size _ rfl
  have ex := kdl_extend (A := A) (s := { s with heap := s.heap.push { cls := .type "list", data := .seq ([] : List Value).toArray } }) (R := fun (q : Result) (s' : Shared) => ∃ (g : Heap) (tok : Nat) (acc : Array Value) (cp : Nat), q = .ok (.ret (.ref s.heap.objs.size)) ∧ s' = { s with heap := g, toks := tok } ∧ (∀ b o, s.heap.get? b = some o → g.get? b = some o) ∧ g.get? s.heap.objs.size = some { cls := .type "list", dict := none, data := .seq acc cp, slots := #[] } ∧ ItemsOf Pi acc n) S hh (S.keep _ _ ok fun b _ o e => Heap.get?_push_of_some _ e) s.heap.objs.size (Nat.ne_of_gt lt.1) (Nat.ne_of_gt lt.2) (.ref s.heap.objs.size) 0 h0 (fun g tok acc cp kp hg ha => ⟨g, tok, acc, cp, rfl, rfl, fun b o e => kp b o (Nat.ne_of_lt (Heap.lt_size e)) (Heap.get?_push_of_some _ e), hg, ha⟩) hn
  refine (show wpAny _ A.in1 (Builtin.List.listExtendWith (.ref s.heap.objs.size) (.ref d) (.ref s.heap.objs.size)) _ _ _ from wpAny_mono ex (fun f s' x => ?_) fun e s' x => ?_)
  · cases f with
    | done f =>
      obtain ⟨g, tok, acc, cp, e, rfl, kp, hg, ha⟩ := x; cases e
      exact (show wpAny _ A (load s.heap.objs.size >>= _) _ _ _ from wpAny_bind (wpAny_load hg (wpAny_pure (fin g tok acc kp (Nat.le_of_lt (Heap.lt_size hg)) ha))))
    | again c₁ =>
      refine ⟨x.1, codeAny_mono x.2 fun q s₂ y => ?_⟩
      obtain ⟨g, tok, acc, cp, rfl, rfl, kp, hg, ha⟩ := y
      exact (show wpAny _ A (load s.heap.objs.size >>= _) _ _ _ from wpAny_bind (wpAny_load hg (wpAny_pure (fin g tok acc kp (Nat.le_of_lt (Heap.lt_size hg)) ha))))
  · obtain ⟨_, _, _, _, z, _⟩ := x; cases z
end L2
set_option maxHeartbeats 4000000
namespace Tim
open PySem PyProof.Rows
def gal : Bool → Keyed → Array Keyed → Nat → Nat → Nat → StateT SortSt Sem (Option Nat) := sortPriv% PySem.Builtin.gallop
theorem gal_eq (lf : Bool) (ky : Keyed) (ar : Array Keyed) (bs n ht : Nat) : gal lf ky ar bs n ht = (do
    let bey (i : Nat) : StateT SortSt Sem (Option Bool) := do
      let x ← elem' ar (bs + i)
      if lf then lt' x ky else return (← lt' ky x).map (!·)
    let mut la := 0
    let mut os := 1
    let mut lo := 0
    let mut hi := 0
    let some rt ← bey ht | return none
    if rt then
      let mx := n - ht
      for _ in [0:n] do
        if os ≥ mx then break
        let some mo ← bey (ht + os) | return none
        if !mo then break
        la := os
        os := 2 * os + 1
      lo := ht + la + 1
      hi := ht + min os mx
    else
      let mx := ht + 1
      for _ in [0:n] do
        if os ≥ mx then break
        let some fo ← bey (ht - os) | return none
        if fo then break
        la := os
        os := 2 * os + 1
      lo := ht + 1 - min os mx
      hi := ht - la
    for _ in [0:n] do
      if lo ≥ hi then break
      let m := lo + (hi - lo) / 2
      let some mo ← bey m | return none
      if mo then lo := m + 1 else hi := m
    return some hi) := rfl
structure Od (L : Keyed → Keyed → Bool) : Prop where
  asy : ∀ a b, L a b = true → L b a = false
  neg : ∀ a b c, L a c = true → L a b = true ∨ L b c = true
section
variable {L : Keyed → Keyed → Bool}
theorem Od.tr (o : Od L) {a b c : Keyed} (h1 : L b a = false) (h2 : L c b = false) : L c a = false := by
  cases h : L c a with
  | false => rfl
  | true =>
    rcases o.neg c b a h with q | q
    · rw [h2] at q; cases q
    · rw [h1] at q; cases q
theorem Od.rf (o : Od L) (a : Keyed) : L a a = false := by
  cases h : L a a with
  | false => rfl
  | true => have := o.asy a a h; rw [h] at this; exact this
end
def gk (a : Array Keyed) (i : Nat) : Keyed := a.getD i (.none, .none)
theorem gk_at {a : Array Keyed} {i : Nat} (h : i < a.size) : a[i]? = some (gk a i) := by
  unfold gk; rw [Array.getD_eq_getD_getElem?, getElem?_pos a i h]; rfl
theorem gk_of {a b : Array Keyed} {i j : Nat} (h : a[i]? = b[j]?) : gk a i = gk b j := by
  unfold gk; rw [Array.getD_eq_getD_getElem?, Array.getD_eq_getD_getElem?, h]
section
variable {prog : Program} {w : World} {A : Around} {E : Value → Shared → Prop} {s : Shared} {κ : SortKind} {L : Keyed → Keyed → Bool} {D : Keyed → Prop}
def Asks (prog : Program) (w : World) (A : Around) (E : Value → Shared → Prop) (s : Shared) (κ : SortKind) (L : Keyed → Keyed → Bool) (D : Keyed → Prop) : Prop :=
  ∀ x y, D x → D y → ∀ (st : SortSt) (Q : Option Bool → SortSt → Prop), kindOf st = κ → Q (some (L x y)) st → wpS (model prog w) A E s (lt' x y) Q st
theorem wpS_el {a : Array Keyed} {i : Nat} {st : SortSt} {Q : Keyed → SortSt → Prop} (h : i < a.size) (q : Q (gk a i) st) : wpS (model prog w) A E s (elem' a i) Q st := by
  rw [elem'_eq, gk_at h]
  exact wpS_pure q
theorem wpS_gal (H : Asks prog w A E s κ L D) {lf : Bool} {ky : Keyed} {ar : Array Keyed} {bs n ht : Nat} {st : SortSt} {Q : Option Nat → SortSt → Prop} (B : Nat → Bool)
    (eB : ∀ i, B i = if lf = true then L (gk ar (bs + i)) ky else !L ky (gk ar (bs + i))) (hk : kindOf st = κ) (dk : D ky) (hD : ∀ i, i < n → D (gk ar (bs + i))) (hz : bs + n ≤ ar.size) (hh : ht < n)
    (hm : ∀ i j, i ≤ j → j < n → B j = true → B i = true)
    (h : ∀ k, k ≤ n → (∀ i, i < k → B i = true) → (∀ i, k ≤ i → i < n → B i = false) → Q (some k) st) : wpS (model prog w) A E s (gal lf ky ar bs n ht) Q st := by
  rw [gal_eq]
  have bey : ∀ (i : Nat) (R : Option Bool → SortSt → Prop), i < n → R (some (B i)) st → wpS (model prog w) A E s (do
      let x ← elem' ar (bs + i)
      if lf = true then lt' x ky else do
        let u ← lt' ky x
        pure (u.map (!·))) R st := fun i R hi hR => by
    refine wpS_bind (wpS_el (by omega) ?_)
    rw [eB] at hR
    cases lf with
    | true => rw [if_pos rfl] at hR ⊢; exact H _ _ (hD i hi) dk st _ hk hR
    | false =>
      rw [if_neg (by decide)] at hR ⊢
      exact wpS_bind (H _ _ dk (hD i hi) st _ hk (wpS_pure hR))
  have fl : ∀ i j, i ≤ j → j < n → B i = false → B j = false := fun i j h1 h2 h3 => by
    cases c : B j with
    | false => rfl
    | true => rw [hm i j h1 h2 c] at h3; cases h3
  refine wpS_bind (bey ht _ hh ?_)
  dsimp only
  cases b0 : B ht with
  | true =>
    rw [if_pos rfl]
    refine wpS_bind (wpS_mono (wpS_forRange (I := fun x c st' => st = st' ∧ ∃ la os, c = (none, la, os) ∧ la < os ∧ x < os ∧ la < n - ht ∧ B (ht + la) = true)
      (Q := fun c st' => st = st' ∧ ∃ la os, c = (none, la, os) ∧ la < os ∧ la < n - ht ∧ B (ht + la) = true ∧ (os ≥ n - ht ∨ B (ht + os) = false)) ?_ ?_ ⟨rfl, 0, 1, rfl, by omega, by omega, by omega, b0⟩) ?_)
    · rintro x c st' _ hx ⟨rfl, la, os, rfl, h1, h2, h3, h4⟩
      dsimp only
      by_cases c : os ≥ n - ht
      · rw [if_pos c]
        exact wpS_pure ⟨rfl, _, _, rfl, h1, h3, h4, .inl c⟩
      · rw [if_neg c]
        refine wpS_bind (bey _ _ (by omega) ?_)
        dsimp only
        cases b : B (ht + os) with
        | true =>
          rw [if_neg (by decide)]
          exact wpS_pure ⟨rfl, _, _, rfl, by omega, by omega, by omega, b⟩
        | false =>
          rw [if_pos (by decide)]
          exact wpS_pure ⟨rfl, _, _, rfl, h1, h3, h4, .inr b⟩
    · rintro c st' ⟨rfl, la, os, rfl, h1, h2, h3, h4⟩
      exact ⟨rfl, _, _, rfl, h1, h3, h4, .inl (by omega)⟩
    · rintro c st' ⟨rfl, la, os, rfl, h1, h3, h4, h5⟩
      dsimp only
      have p1 : ht + la + 1 ≤ ht + min os (n - ht) := by omega
      have p2 : ht + min os (n - ht) ≤ n := by omega
      have p3 : ∀ i, i < ht + la + 1 → B i = true := fun i hi => hm i _ (by omega) (by omega) h4
      have p4 : ∀ i, ht + min os (n - ht) ≤ i → i < n → B i = false := fun i h6 h7 => by
        rcases h5 with h5 | h5
        · omega
        · by_cases c : os ≥ n - ht
          · omega
          · exact fl _ i (by omega) h7 h5
      generalize ht + la + 1 = lo at p1 p3 ⊢
      generalize ht + min os (n - ht) = hi at p1 p2 p4 ⊢
      refine wpS_bind (wpS_mono (wpS_forRange (I := fun x c st' => st = st' ∧ ∃ lo hi, c = (none, lo, hi) ∧ lo ≤ hi ∧ hi ≤ n ∧ hi - lo ≤ n - x ∧ (∀ i, i < lo → B i = true) ∧ (∀ i, hi ≤ i → i < n → B i = false))
        (Q := fun c st' => st = st' ∧ ∃ k, c = (none, k, k) ∧ k ≤ n ∧ (∀ i, i < k → B i = true) ∧ (∀ i, k ≤ i → i < n → B i = false)) ?_ ?_ ⟨rfl, lo, hi, rfl, p1, p2, by omega, p3, p4⟩) ?_)
      · rintro x c st' _ hx ⟨rfl, lo, hi, rfl, h1, h2, h3, h4, h5⟩
        dsimp only
        by_cases c : lo ≥ hi
        · rw [if_pos c]
          have e : lo = hi := by omega
          subst e
          exact wpS_pure ⟨rfl, lo, rfl, h2, h4, h5⟩
        · rw [if_neg c]
          refine wpS_bind (bey _ _ (by omega) ?_)
          dsimp only
          cases b : B (lo + (hi - lo) / 2) with
          | true =>
            rw [if_pos rfl]
            exact wpS_pure ⟨rfl, _, _, rfl, by omega, h2, by omega, fun i hi' => hm i _ (by omega) (by omega) b, h5⟩
          | false =>
            rw [if_neg (by decide)]
            exact wpS_pure ⟨rfl, _, _, rfl, by omega, by omega, by omega, h4, fun i h6 h7 => fl _ i h6 h7 b⟩
      · rintro c st' ⟨rfl, lo, hi, rfl, h1, h2, h3, h4, h5⟩
        have e : lo = hi := by omega
        subst e
        exact ⟨rfl, lo, rfl, h2, h4, h5⟩
      · rintro c st' ⟨rfl, k, rfl, h1, h2, h3⟩
        exact wpS_pure (h k h1 h2 h3)
  | false =>
    rw [if_neg (by decide)]
    refine wpS_bind (wpS_mono (wpS_forRange (I := fun x c st' => st = st' ∧ ∃ la os, c = (none, la, os) ∧ la < os ∧ x < os ∧ la ≤ ht ∧ B (ht - la) = false)
      (Q := fun c st' => st = st' ∧ ∃ la os, c = (none, la, os) ∧ la < os ∧ la ≤ ht ∧ B (ht - la) = false ∧ (os ≥ ht + 1 ∨ B (ht - os) = true)) ?_ ?_ ⟨rfl, 0, 1, rfl, by omega, by omega, by omega, b0⟩) ?_)
    · rintro x c st' _ hx ⟨rfl, la, os, rfl, h1, h2, h3, h4⟩
      dsimp only
      by_cases c : os ≥ ht + 1
      · rw [if_pos c]
        exact wpS_pure ⟨rfl, _, _, rfl, h1, h3, h4, .inl c⟩
      · rw [if_neg c]
        refine wpS_bind (bey _ _ (by omega) ?_)
        dsimp only
        cases b : B (ht - os) with
        | true =>
          rw [if_pos (by decide)]
          exact wpS_pure ⟨rfl, _, _, rfl, h1, h3, h4, .inr b⟩
        | false =>
          rw [if_neg (by decide)]
          exact wpS_pure ⟨rfl, _, _, rfl, by omega, by omega, by omega, b⟩
    · rintro c st' ⟨rfl, la, os, rfl, h1, h2, h3, h4⟩
      exact ⟨rfl, _, _, rfl, h1, h3, h4, .inl (by omega)⟩
    · rintro c st' ⟨rfl, la, os, rfl, h1, h3, h4, h5⟩
      dsimp only
      have p1 : ht + 1 - min os (ht + 1) ≤ ht - la := by omega
      have p2 : ht - la ≤ n := by omega
      have p3 : ∀ i, i < ht + 1 - min os (ht + 1) → B i = true := fun i hi => by
        rcases h5 with h5 | h5
        · omega
        · by_cases c : os ≥ ht + 1
          · omega
          · exact hm i _ (by omega) (by omega) h5
      have p4 : ∀ i, ht - la ≤ i → i < n → B i = false := fun i h6 h7 => fl _ i h6 h7 h4
      generalize ht + 1 - min os (ht + 1) = lo at p1 p3 ⊢
      generalize ht - la = hi at p1 p2 p4 ⊢
      refine wpS_bind (wpS_mono (wpS_forRange (I := fun x c st' => st = st' ∧ ∃ lo hi, c = (none, lo, hi) ∧ lo ≤ hi ∧ hi ≤ n ∧ hi - lo ≤ n - x ∧ (∀ i, i < lo → B i = true) ∧ (∀ i, hi ≤ i → i < n → B i = false))
        (Q := fun c st' => st = st' ∧ ∃ k, c = (none, k, k) ∧ k ≤ n ∧ (∀ i, i < k → B i = true) ∧ (∀ i, k ≤ i → i < n → B i = false)) ?_ ?_ ⟨rfl, lo, hi, rfl, p1, p2, by omega, p3, p4⟩) ?_)
      · rintro x c st' _ hx ⟨rfl, lo, hi, rfl, h1, h2, h3, h4, h5⟩
        dsimp only
        by_cases c : lo ≥ hi
        · rw [if_pos c]
          have e : lo = hi := by omega
          subst e
          exact wpS_pure ⟨rfl, lo, rfl, h2, h4, h5⟩
        · rw [if_neg c]
          refine wpS_bind (bey _ _ (by omega) ?_)
          dsimp only
          cases b : B (lo + (hi - lo) / 2) with
          | true =>
            rw [if_pos rfl]
            exact wpS_pure ⟨rfl, _, _, rfl, by omega, h2, by omega, fun i hi' => hm i _ (by omega) (by omega) b, h5⟩
          | false =>
            rw [if_neg (by decide)]
            exact wpS_pure ⟨rfl, _, _, rfl, by omega, by omega, by omega, h4, fun i h6 h7 => fl _ i h6 h7 b⟩
      · rintro c st' ⟨rfl, lo, hi, rfl, h1, h2, h3, h4, h5⟩
        have e : lo = hi := by omega
        subst e
        exact ⟨rfl, lo, rfl, h2, h4, h5⟩
      · rintro c st' ⟨rfl, k, rfl, h1, h2, h3⟩
        exact wpS_pure (h k h1 h2 h3)
end
def smg : Nat → StateT SortSt Sem Unit := sortPriv% PySem.Builtin.setMinGallop
theorem smg_eq (g : Nat) : smg g = modify fun s => SortSt.mk' (kindOf s) (arrOf s) (pendingOf s) g (failedOf s) := rfl
def mlo : Array Keyed → Array Keyed → StateT SortSt Sem (Array Keyed) := sortPriv% PySem.Builtin.mergeLo
theorem mlo_eq (a b : Array Keyed) : mlo a b = (do
    rule "list.sort.merge-lo"
    let tl := a.size + b.size
    let dn (o : Array Keyed) (i j : Nat) := o ++ a.extract i a.size ++ b.extract j b.size
    let la (o : Array Keyed) (i j : Nat) := o ++ b.extract j b.size ++ a.extract i a.size
    let mut o : Array Keyed := #[← elem' b 0]
    let mut i := 0
    let mut j := 1
    if j == b.size then return dn o i j
    if i + 1 == a.size then return la o i j
    let mut g := gallopOf (← get)
    for _ in [0:tl] do
      let mut ac := 0
      let mut bc := 0
      for _ in [0:tl] do
        let some bw ← lt' (← elem' b j) (← elem' a i) | return dn o i j
        if bw then
          o := o.push (← elem' b j); j := j + 1; bc := bc + 1; ac := 0
          if j == b.size then return dn o i j
          if bc ≥ g then break
        else
          o := o.push (← elem' a i); i := i + 1; ac := ac + 1; bc := 0
          if i + 1 == a.size then return la o i j
          if ac ≥ g then break
      rule "list.sort.gallop"
      g := g + 1
      for _ in [0:tl] do
        if g > 1 then g := g - 1
        smg g
        let some k ← gal false (← elem' b j) a i (a.size - i) 0 | return dn o i j
        ac := k
        if k > 0 then
          o := o ++ a.extract i (i + k); i := i + k
          if i + 1 == a.size then return la o i j
          if i == a.size then return dn o i j
        o := o.push (← elem' b j); j := j + 1
        if j == b.size then return dn o i j
        let some k ← gal true (← elem' a i) b j (b.size - j) 0 | return dn o i j
        bc := k
        if k > 0 then
          o := o ++ b.extract j (j + k); j := j + k
          if j == b.size then return dn o i j
        o := o.push (← elem' a i); i := i + 1
        if i + 1 == a.size then return la o i j
        if ac < 7 && bc < 7 then break
      g := g + 1
      smg g
    unsupported "internal:list.sort.merge-bound") := rfl
def Srt (L : Keyed → Keyed → Bool) (l : List Keyed) : Prop := l.Pairwise fun x y => L y x = false
structure Mi (L : Keyed → Keyed → Bool) (a b : List Keyed) (o : List Keyed) (i j : Nat) : Prop where
  s1 : Srt L (o ++ a.drop i)
  s2 : Srt L (o ++ b.drop j)
  pm : (o ++ (a.drop i ++ b.drop j)).Perm (a ++ b)
  la : i ≤ a.length
  lb : j ≤ b.length
def Good (L : Keyed → Keyed → Bool) (a b r : List Keyed) : Prop := Srt L r ∧ r.Perm (a ++ b)
section
variable {L : Keyed → Keyed → Bool} {a b o o' : List Keyed} {i j i' : Nat}
theorem Mi.swap (m : Mi L a b o i j) : Mi L b a o j i := ⟨m.s2, m.s1, (List.Perm.append_left _ List.perm_append_comm).trans (m.pm.trans List.perm_append_comm), m.lb, m.la⟩
theorem Mi.step (m : Mi L a b o i j) (k : Nat) (h1 : i + k ≤ a.length) (h : ∀ x ∈ (a.drop i).take k, ∀ y ∈ b.drop j, L y x = false) : Mi L a b (o ++ (a.drop i).take k) (i + k) j := by
  have e : a.drop i = (a.drop i).take k ++ a.drop (i + k) := by rw [← List.drop_drop, List.take_append_drop]
  refine ⟨?_, ?_, ?_, h1, m.lb⟩
  · have := m.s1
    rw [e] at this
    rw [List.append_assoc]
    exact this
  · have m1 := m.s1
    have m2 := m.s2
    unfold Srt at m1 m2 ⊢
    rw [e, ← List.append_assoc, List.pairwise_append] at m1
    rw [List.pairwise_append] at m2 ⊢
    refine ⟨m1.1, m2.2.1, fun x hx y hy => ?_⟩
    rcases List.mem_append.mp hx with q | q
    · exact m2.2.2 x q y hy
    · exact h x q y hy
  · have := m.pm
    rw [e] at this
    rw [List.append_assoc, ← List.append_assoc _ _ (b.drop j)]
    exact this
theorem Mi.don (m : Mi L a b o i j) (h : j = b.length ∨ i = a.length) : Good L a b (o ++ a.drop i ++ b.drop j) := by
  refine ⟨?_, by rw [List.append_assoc]; exact m.pm⟩
  rcases h with h | h
  · subst h; rw [List.drop_length, List.append_nil]; exact m.s1
  · subst h; rw [List.drop_length, List.append_nil]; exact m.s2
theorem Mi.lst (m : Mi L a b o i j) (h : ∀ x ∈ a.drop i, ∀ y ∈ b.drop j, L x y = false) : Good L a b (o ++ b.drop j ++ a.drop i) := by
  refine ⟨?_, ?_⟩
  · have m1 := m.s1
    have m2 := m.s2
    unfold Srt at m1 m2 ⊢
    rw [List.pairwise_append] at m1 ⊢
    refine ⟨m2, m1.2.1, fun x hx y hy => ?_⟩
    rcases List.mem_append.mp hx with q | q
    · exact m1.2.2 x q y hy
    · exact h y hy x q
  · rw [List.append_assoc]; exact (List.Perm.append_left _ List.perm_append_comm).trans m.pm
theorem Mi.len (m : Mi L a b o i j) : o.length + (a.length - i) + (b.length - j) = a.length + b.length := by
  have := m.pm.length_eq
  simp only [List.length_append, List.length_drop] at this
  omega
theorem mem_drop {l : Array Keyed} {i : Nat} {x : Keyed} (h : x ∈ l.toList.drop i) : ∃ p, i ≤ p ∧ p < l.size ∧ x = gk l p := by
  obtain ⟨q, hq, e⟩ := List.getElem_of_mem h
  rw [List.length_drop, Array.length_toList] at hq
  refine ⟨i + q, by omega, by omega, ?_⟩
  have := gk_at (a := l) (i := i + q) (by omega)
  rw [List.getElem_drop, Array.getElem_toList] at e
  rw [getElem?_pos l (i + q) (by omega), e] at this
  exact Option.some.inj this
theorem mem_take {l : Array Keyed} {i k : Nat} {x : Keyed} (h : x ∈ (l.toList.drop i).take k) : ∃ p, i ≤ p ∧ p < i + k ∧ p < l.size ∧ x = gk l p := by
  obtain ⟨q, hq, e⟩ := List.getElem_of_mem h
  rw [List.length_take, List.length_drop, Array.length_toList] at hq
  refine ⟨i + q, by omega, by omega, by omega, ?_⟩
  have := gk_at (a := l) (i := i + q) (by omega)
  rw [List.getElem_take, List.getElem_drop, Array.getElem_toList] at e
  rw [getElem?_pos l (i + q) (by omega), e] at this
  exact Option.some.inj this
theorem ex_take (l : Array Keyed) (i k : Nat) : (l.extract i (i + k)).toList = (l.toList.drop i).take k := by
  rw [Array.toList_extract, List.extract_eq_drop_take]; congr 1; omega
theorem ex_drop (l : Array Keyed) (i : Nat) : (l.extract i l.size).toList = l.toList.drop i := by
  rw [Array.toList_extract, List.extract_eq_drop_take, List.take_of_length_le (by rw [List.length_drop, Array.length_toList]; omega)]
theorem take_one {l : Array Keyed} {i : Nat} (h : i < l.size) : (l.toList.drop i).take 1 = [gk l i] := by
  have e := gk_at h
  rw [getElem?_pos l i h] at e
  rw [List.drop_eq_getElem_cons (by rw [Array.length_toList]; exact h), List.take_succ_cons, List.take_zero, Array.getElem_toList, Option.some.inj e]
end
section
variable {prog : Program} {w : World} {A : Around} {E : Value → Shared → Prop} {s : Shared} {κ : SortKind} {L : Keyed → Keyed → Bool} {D : Keyed → Prop}
theorem srt_at {l : Array Keyed} (h : Srt L l.toList) {p q : Nat} (h1 : p < q) (h2 : q < l.size) : L (gk l q) (gk l p) = false := by
  have e1 := gk_at (a := l) (i := p) (by omega)
  have e2 := gk_at (a := l) (i := q) h2
  rw [getElem?_pos l p (by omega)] at e1
  rw [getElem?_pos l q h2] at e2
  have := List.pairwise_iff_getElem.mp h p q (by rw [Array.length_toList]; omega) (by rw [Array.length_toList]; exact h2) h1
  rw [Array.getElem_toList, Array.getElem_toList, Option.some.inj e1, Option.some.inj e2] at this
  exact this
theorem srt_le (o : Od L) {l : Array Keyed} (h : Srt L l.toList) {p q : Nat} (h1 : p ≤ q) (h2 : q < l.size) : L (gk l q) (gk l p) = false := by
  rcases Nat.lt_or_ge p q with c | c
  · exact srt_at h c h2
  · have e : p = q := by omega
    subst e; exact o.rf _
section
variable {a b o : Array Keyed} {i j : Nat}
abbrev Mj (L : Keyed → Keyed → Bool) (a b o : Array Keyed) (i j : Nat) : Prop := Mi L a.toList b.toList o.toList i j
theorem Mj.ca (m : Mj L a b o i j) {k : Nat} (h1 : i + k ≤ a.size) (h : ∀ p q, i ≤ p → p < i + k → j ≤ q → q < b.size → L (gk b q) (gk a p) = false) : Mj L a b (o ++ a.extract i (i + k)) (i + k) j := by
  unfold Mj
  rw [Array.toList_append, ex_take]
  refine m.step k (by rw [Array.length_toList]; exact h1) fun x hx y hy => ?_
  obtain ⟨p, p1, p2, p3, rfl⟩ := mem_take hx
  obtain ⟨q, q1, q2, rfl⟩ := mem_drop hy
  exact h p q p1 p2 q1 q2
theorem Mj.pa (m : Mj L a b o i j) (h1 : i < a.size) (h : ∀ q, j ≤ q → q < b.size → L (gk b q) (gk a i) = false) : Mj L a b (o.push (gk a i)) (i + 1) j := by
  unfold Mj
  rw [Array.toList_push, ← take_one h1]
  refine m.step 1 (by rw [Array.length_toList]; exact h1) fun x hx y hy => ?_
  obtain ⟨p, p1, p2, p3, rfl⟩ := mem_take hx
  obtain ⟨q, q1, q2, rfl⟩ := mem_drop hy
  have e : p = i := by omega
  subst e
  exact h q q1 q2
theorem Mj.cb (m : Mj L a b o i j) {k : Nat} (h1 : j + k ≤ b.size) (h : ∀ p q, i ≤ p → p < a.size → j ≤ q → q < j + k → L (gk a p) (gk b q) = false) : Mj L a b (o ++ b.extract j (j + k)) i (j + k) :=
  (Mj.ca (a := b) (b := a) m.swap h1 fun p q h2 h3 h4 h5 => h q p h4 h5 h2 h3).swap
theorem Mj.pb (m : Mj L a b o i j) (h1 : j < b.size) (h : ∀ p, i ≤ p → p < a.size → L (gk a p) (gk b j) = false) : Mj L a b (o.push (gk b j)) i (j + 1) :=
  (Mj.pa (a := b) (b := a) m.swap h1 h).swap
theorem Mj.dn (m : Mj L a b o i j) (h : j = b.size ∨ i = a.size) : Good L a.toList b.toList (o ++ a.extract i a.size ++ b.extract j b.size).toList := by
  rw [Array.toList_append, Array.toList_append, ex_drop, ex_drop]
  exact m.don (by rw [Array.length_toList, Array.length_toList]; exact h)
theorem Mj.ls (m : Mj L a b o i j) (hi : i + 1 = a.size) (h : ∀ q, q < b.size → L (gk a (a.size - 1)) (gk b q) = false) : Good L a.toList b.toList (o ++ b.extract j b.size ++ a.extract i a.size).toList := by
  rw [Array.toList_append, Array.toList_append, ex_drop, ex_drop]
  refine m.lst fun x hx y hy => ?_
  obtain ⟨p, p1, p2, rfl⟩ := mem_drop hx
  obtain ⟨q, q1, q2, rfl⟩ := mem_drop hy
  have e : p = a.size - 1 := by omega
  subst e
  exact h q q2
theorem Mj.ln (m : Mj L a b o i j) : o.size + (a.size - i) + (b.size - j) = a.size + b.size := by
  have := m.len
  rw [Array.length_toList, Array.length_toList, Array.length_toList] at this
  exact this
end
theorem wpS_ru {x : String} {st : SortSt} {Q : Unit → SortSt → Prop} (h : Q () st) : wpS (model prog w) A E s (liftM (rule x) : StateT SortSt Sem Unit) Q st := wpS_lift (wpAny_rule ⟨rfl, h⟩)
theorem wpS_mlo (H : Asks prog w A E s κ L D) (od : Od L) {a b : Array Keyed} {ar : Array Keyed} {pe : Array (Nat × Nat × Nat)} {g0 : Nat} {fl : Option Value} {Q : Array Keyed → SortSt → Prop}
    (da : ∀ p, p < a.size → D (gk a p)) (db : ∀ p, p < b.size → D (gk b p)) (na : 1 ≤ a.size) (nb : 1 ≤ b.size) (sa : Srt L a.toList) (sb : Srt L b.toList)
    (h0 : ∀ p, p < a.size → L (gk a p) (gk b 0) = false) (hl : ∀ q, q < b.size → L (gk a (a.size - 1)) (gk b q) = false)
    (h : ∀ r g, Good L a.toList b.toList r.toList → Q r (SortSt.mk' κ ar pe g fl)) : wpS (model prog w) A E s (mlo a b) Q (SortSt.mk' κ ar pe g0 fl) := by
  rw [mlo_eq]
  refine wpS_bind (wpS_ru ?_)
  dsimp only
  refine wpS_bind (wpS_el nb ?_)
  have m0 : Mj L a b #[] 0 0 := ⟨sa, sb, List.Perm.refl _, Nat.zero_le _, Nat.zero_le _⟩
  have m1 : Mj L a b #[gk b 0] 0 1 := m0.pb nb fun p _ hp => h0 p hp
  by_cases c1 : (1 == b.size) = true
  · rw [if_pos c1]
    exact wpS_pure (h _ _ (m1.dn (.inl (eq_of_beq c1))))
  rw [if_neg c1]
  by_cases c2 : (0 + 1 == a.size) = true
  · rw [if_pos c2]
    exact wpS_pure (h _ _ (m1.ls (eq_of_beq c2) hl))
  rw [if_neg c2]
  have z1 : 1 < b.size := by
    have : ¬ 1 = b.size := fun e => c1 (by rw [← e]; rfl)
    omega
  have z2 : 0 + 1 < a.size := by
    have : ¬ 0 + 1 = a.size := fun e => c2 (by rw [← e]; rfl)
    omega
  clear c1 c2
  refine wpS_bind (wpS_get ?_)
  refine wpS_bind (wpS_mono (wpS_forRange (I := fun x c st' => ∃ o i j g g', c = (none, o, i, j, g) ∧ st' = SortSt.mk' κ ar pe g' fl ∧ Mj L a b o i j ∧ i + 1 < a.size ∧ j < b.size ∧ x + 1 ≤ o.size)
    (Q := fun c st' => ∃ r g' c', c = (some r, c') ∧ st' = SortSt.mk' κ ar pe g' fl ∧ Good L a.toList b.toList r.toList) ?_ ?_ ⟨_, _, _, _, _, rfl, rfl, m1, z2, z1, by simp⟩) ?_)
  rotate_left
  · rintro c st' ⟨o, i, j, g, g', rfl, rfl, m, l1, l2, l3⟩
    have := m.ln
    omega
  · rintro c st' ⟨r, g', c', rfl, rfl, hr⟩
    exact wpS_pure (h _ _ hr)
  rintro x c st' _ hx ⟨o, i, j, g, g', rfl, rfl, m, l1, l2, l3⟩
  dsimp only
  refine wpS_bind (wpS_mono (wpS_forRange (I := fun y c st' => ∃ o i j ac bc, c = (none, o, i, j, ac, bc) ∧ st' = SortSt.mk' κ ar pe g' fl ∧ Mj L a b o i j ∧ i + 1 < a.size ∧ j < b.size ∧ x + 1 + y ≤ o.size)
    (Q := fun c st' => st' = SortSt.mk' κ ar pe g' fl ∧ ((∃ r c', c = (some r, c') ∧ Good L a.toList b.toList r.toList) ∨
      ∃ o i j ac bc, c = (none, o, i, j, ac, bc) ∧ Mj L a b o i j ∧ i + 1 < a.size ∧ j < b.size ∧ x + 2 ≤ o.size)) ?_ ?_ ⟨_, _, _, _, _, rfl, rfl, m, l1, l2, by omega⟩) ?_)
  · clear m l1 l2 l3
    rintro y c st' _ hy ⟨o, i, j, ac, bc, rfl, rfl, m, l1, l2, l3⟩
    dsimp only
    refine wpS_bind (wpS_el l2 ?_)
    refine wpS_bind (wpS_el (by omega) ?_)
    refine wpS_bind (H _ _ (db j l2) (da i (by omega)) _ _ rfl ?_)
    dsimp only
    cases bw : L (gk b j) (gk a i) with
    | true =>
      rw [if_pos rfl]
      refine wpS_bind (wpS_el l2 ?_)
      have m' := m.pb l2 fun p p1 p2 => od.tr (od.asy _ _ bw) (srt_le od sa p1 p2)
      by_cases c : (j + 1 == b.size) = true
      · rw [if_pos c]
        exact wpS_pure ⟨rfl, .inl ⟨_, _, rfl, m'.dn (.inl (eq_of_beq c))⟩⟩
      · rw [if_neg c]
        have : ¬ j + 1 = b.size := fun e => c (by rw [e]; exact beq_self_eq_true _)
        by_cases c3 : bc + 1 ≥ g
        · rw [if_pos c3]
          exact wpS_pure ⟨rfl, .inr ⟨_, _, _, _, _, rfl, m', l1, by omega, by rw [Array.size_push]; omega⟩⟩
        · rw [if_neg c3]
          exact wpS_pure ⟨_, _, _, _, _, rfl, rfl, m', l1, by omega, by rw [Array.size_push]; omega⟩
    | false =>
      rw [if_neg (by decide)]
      refine wpS_bind (wpS_el (by omega) ?_)
      have m' := m.pa (by omega) fun q q1 q2 => od.tr bw (srt_le od sb q1 q2)
      by_cases c : (i + 1 + 1 == a.size) = true
      · rw [if_pos c]
        exact wpS_pure ⟨rfl, .inl ⟨_, _, rfl, m'.ls (eq_of_beq c) hl⟩⟩
      · rw [if_neg c]
        have : ¬ i + 1 + 1 = a.size := fun e => c (by rw [e]; exact beq_self_eq_true _)
        by_cases c3 : ac + 1 ≥ g
        · rw [if_pos c3]
          exact wpS_pure ⟨rfl, .inr ⟨_, _, _, _, _, rfl, m', by omega, l2, by rw [Array.size_push]; omega⟩⟩
        · rw [if_neg c3]
          exact wpS_pure ⟨_, _, _, _, _, rfl, rfl, m', by omega, l2, by rw [Array.size_push]; omega⟩
  · rintro c st' ⟨o, i, j, ac, bc, rfl, rfl, m, l1, l2, l3⟩
    exact ⟨rfl, .inr ⟨_, _, _, _, _, rfl, m, l1, l2, by omega⟩⟩
  clear m l1 l2 l3
  rintro c st' ⟨rfl, ⟨r, c', rfl, hr⟩ | ⟨o, i, j, ac, bc, rfl, m, l1, l2, l3⟩⟩
  · exact wpS_pure ⟨_, _, _, rfl, rfl, hr⟩
  dsimp only
  refine wpS_bind (wpS_ru ?_)
  refine wpS_bind (wpS_mono (wpS_forRange (I := fun y c st' => ∃ o i j g ac bc g', c = (none, o, i, j, g, ac, bc) ∧ st' = SortSt.mk' κ ar pe g' fl ∧ Mj L a b o i j ∧ i + 1 < a.size ∧ j < b.size ∧ x + 2 ≤ o.size)
    (Q := fun c st' => (∃ g', st' = SortSt.mk' κ ar pe g' fl) ∧ ((∃ r c', c = (some r, c') ∧ Good L a.toList b.toList r.toList) ∨
      ∃ o i j g ac bc, c = (none, o, i, j, g, ac, bc) ∧ Mj L a b o i j ∧ i + 1 < a.size ∧ j < b.size ∧ x + 2 ≤ o.size)) ?_ ?_ ⟨_, _, _, _, _, _, _, rfl, rfl, m, l1, l2, l3⟩) ?_)
  rotate_left
  · rintro c st' ⟨o, i, j, g, ac, bc, g', rfl, rfl, m, l1, l2, l3⟩
    exact ⟨⟨_, rfl⟩, .inr ⟨_, _, _, _, _, _, rfl, m, l1, l2, l3⟩⟩
  · clear m l1 l2 l3
    rintro c st' ⟨⟨g2, rfl⟩, ⟨r, c', rfl, hr⟩ | ⟨o, i, j, g, ac, bc, rfl, m, l1, l2, l3⟩⟩
    · exact wpS_pure ⟨_, _, _, rfl, rfl, hr⟩
    · dsimp only
      rw [smg_eq]
      exact wpS_bind (wpS_modify (wpS_pure ⟨_, _, _, _, _, rfl, rfl, m, l1, l2, l3⟩))
  clear m l1 l2 l3
  rintro y c st' _ hy ⟨o, i, j, g, ac, bc, g', rfl, rfl, m, l1, l2, l3⟩
  dsimp only
  by_cases cg : g > 1
  all_goals first | rw [if_pos cg] | rw [if_neg cg]
  all_goals
    rw [smg_eq]
    refine wpS_bind (wpS_modify ?_)
    refine wpS_bind (wpS_el l2 ?_)
    refine wpS_bind (wpS_gal H (fun t => !L (gk b j) (gk a (i + t))) (fun t => by rw [if_neg (by decide)]) rfl (db j l2) (fun t ht => da _ (by omega)) (by omega) (by omega) (fun p q pq hq hb => ?_) fun k hk k1 k2 => ?_)
    · have hb' : L (gk b j) (gk a (i + q)) = false := by simpa using hb
      have := od.tr (srt_le od sa (show i + p ≤ i + q by omega) (by omega)) hb'
      simp [this]
    dsimp only
    have k1' : ∀ p, i ≤ p → p < i + k → L (gk b j) (gk a p) = false := fun p h1 h2 => by
      have := k1 (p - i) (by omega)
      rw [show i + (p - i) = p by omega] at this
      simpa using this
    have k2' : ∀ p, i + k ≤ p → p < a.size → L (gk b j) (gk a p) = true := fun p h1 h2 => by
      have := k2 (p - i) (by omega) (by omega)
      rw [show i + (p - i) = p by omega] at this
      simpa using this
    have m2 := m.ca (k := k) (by omega) fun p q h1 h2 h3 h4 => od.tr (k1' p h1 h2) (srt_le od sb h3 h4)
    clear k1 k2 k1'
    by_cases ck : k > 0
    all_goals first | rw [if_pos ck] | rw [if_neg ck]
    all_goals first
      | (have ek : k = 0 := by omega
         subst ek
         rw [show o ++ a.extract i (i + 0) = o by simp; omega, show i + 0 = i from rfl] at m2
         rw [show i + 0 = i from rfl] at k2'
         clear m hk ck
         generalize o = o2 at m2 l3 ⊢
         generalize i = i2 at m2 l1 k2' ⊢)
      | (have lz : o.size ≤ (o ++ a.extract i (i + k)).size := by rw [Array.size_append]; omega
         have lk : i + k ≤ a.size := by omega
         generalize o ++ a.extract i (i + k) = o2 at m2 lz ⊢
         generalize i + k = i2 at m2 k2' lk ⊢
         by_cases c4 : (i2 + 1 == a.size) = true
         · rw [if_pos c4]
           exact wpS_pure ⟨⟨_, rfl⟩, .inl ⟨_, _, rfl, m2.ls (eq_of_beq c4) hl⟩⟩
         rw [if_neg c4]
         by_cases c5 : (i2 == a.size) = true
         · rw [if_pos c5]
           exact wpS_pure ⟨⟨_, rfl⟩, .inl ⟨_, _, rfl, m2.dn (.inr (eq_of_beq c5))⟩⟩
         rw [if_neg c5]
         have q1 : ¬ i2 + 1 = a.size := fun e => c4 (by rw [e]; exact beq_self_eq_true _)
         have q2 : ¬ i2 = a.size := fun e => c5 (by rw [e]; exact beq_self_eq_true _)
         replace l1 : i2 + 1 < a.size := by omega
         replace l3 : x + 2 ≤ o2.size := by omega
         clear c4 c5 q1 q2 lz lk m)
    all_goals
      refine wpS_bind (wpS_el l2 ?_)
      have m3 := m2.pb l2 fun p h1 h2 => od.asy _ _ (k2' p h1 h2)
      by_cases c6 : (j + 1 == b.size) = true
      · rw [if_pos c6]
        exact wpS_pure ⟨⟨_, rfl⟩, .inl ⟨_, _, rfl, m3.dn (.inl (eq_of_beq c6))⟩⟩
      rw [if_neg c6]
      have q3 : ¬ j + 1 = b.size := fun e => c6 (by rw [e]; exact beq_self_eq_true _)
      have l4 : j + 1 < b.size := by omega
      refine wpS_bind (wpS_el (by omega) ?_)
      refine wpS_bind (wpS_gal H (fun t => L (gk b (j + 1 + t)) (gk a i2)) (fun t => by rw [if_pos rfl]) rfl (da i2 (by omega)) (fun t ht => db _ (by omega)) (by omega) (by omega) (fun p q pq hq hb => ?_) fun k3 hk3 k4 k5 => ?_)
      · rcases od.neg _ (gk b (j + 1 + p)) _ hb with f | f
        · rw [srt_le od sb (show j + 1 + p ≤ j + 1 + q by omega) (by omega)] at f; cases f
        · exact f
      dsimp only
      have k6 : ∀ p, j + 1 + k3 ≤ p → p < b.size → L (gk b p) (gk a i2) = false := fun p h1 h2 => by
        have := k5 (p - (j + 1)) (by omega) (by omega)
        rw [show j + 1 + (p - (j + 1)) = p by omega] at this
        exact this
      have m4 := m3.cb (k := k3) (by omega) fun p q h1 h2 h3 h4 => by
        have := k4 (q - (j + 1)) (by omega)
        rw [show j + 1 + (q - (j + 1)) = q by omega] at this
        exact od.tr (od.asy _ _ this) (srt_le od sa h1 h2)
      by_cases ck3 : k3 > 0
      all_goals first | rw [if_pos ck3] | rw [if_neg ck3]
      all_goals first
        | (have ek : k3 = 0 := by omega
           subst ek
           rw [show ∀ z : Array Keyed, z ++ b.extract (j + 1) (j + 1 + 0) = z by intro z; simp; omega, show j + 1 + 0 = j + 1 from rfl] at m4
           rw [show j + 1 + 0 = j + 1 from rfl] at k6
           have lz : x + 2 ≤ (o2.push (gk b j)).size := by rw [Array.size_push]; omega
           generalize o2.push (gk b j) = o3 at m4 lz ⊢
           generalize j + 1 = j3 at m4 l4 k6 ⊢)
        | (have lz : x + 2 ≤ (o2.push (gk b j) ++ b.extract (j + 1) (j + 1 + k3)).size := by rw [Array.size_append, Array.size_push]; omega
           have lk : j + 1 + k3 ≤ b.size := by omega
           generalize o2.push (gk b j) ++ b.extract (j + 1) (j + 1 + k3) = o3 at m4 lz ⊢
           generalize j + 1 + k3 = j3 at m4 lk k6 ⊢
           by_cases c7 : (j3 == b.size) = true
           · rw [if_pos c7]
             exact wpS_pure ⟨⟨_, rfl⟩, .inl ⟨_, _, rfl, m4.dn (.inl (eq_of_beq c7))⟩⟩
           rw [if_neg c7]
           have q1 : ¬ j3 = b.size := fun e => c7 (by rw [e]; exact beq_self_eq_true _)
           replace l4 : j3 < b.size := by omega)
      all_goals
        refine wpS_bind (wpS_el (by omega) ?_)
        have m5 := m4.pa (by omega) k6
        by_cases c8 : (i2 + 1 + 1 == a.size) = true
        · rw [if_pos c8]
          exact wpS_pure ⟨⟨_, rfl⟩, .inl ⟨_, _, rfl, m5.ls (eq_of_beq c8) hl⟩⟩
        rw [if_neg c8]
        have q4 : ¬ i2 + 1 + 1 = a.size := fun e => c8 (by rw [e]; exact beq_self_eq_true _)
        split
        · exact wpS_pure ⟨⟨_, rfl⟩, .inr ⟨_, _, _, _, _, _, rfl, m5, by omega, l4, by rw [Array.size_push]; omega⟩⟩
        · exact wpS_pure ⟨_, _, _, _, _, _, _, rfl, rfl, m5, by omega, l4, by rw [Array.size_push]; omega⟩
end
def mhi : Array Keyed → Array Keyed → StateT SortSt Sem (Array Keyed) := sortPriv% PySem.Builtin.mergeHi
theorem mhi_eq (a b : Array Keyed) : mhi a b = (do
    rule "list.sort.merge-hi"
    let tl := a.size + b.size
    let dn (o : Array Keyed) (i j : Nat) := a.extract 0 i ++ b.extract 0 j ++ o.reverse
    let fb (o : Array Keyed) (i j : Nat) := b.extract 0 j ++ a.extract 0 i ++ o.reverse
    let mut i := a.size - 1
    let mut j := b.size
    let mut o : Array Keyed := #[← elem' a i]
    if i == 0 then return dn o i j
    if j == 1 then return fb o i j
    let mut g := gallopOf (← get)
    for _ in [0:tl] do
      let mut ac := 0
      let mut bc := 0
      for _ in [0:tl] do
        let some aw ← lt' (← elem' b (j - 1)) (← elem' a (i - 1)) | return dn o i j
        if aw then
          i := i - 1; o := o.push (← elem' a i); ac := ac + 1; bc := 0
          if i == 0 then return dn o i j
          if ac ≥ g then break
        else
          j := j - 1; o := o.push (← elem' b j); bc := bc + 1; ac := 0
          if j == 1 then return fb o i j
          if bc ≥ g then break
      rule "list.sort.gallop"
      g := g + 1
      for _ in [0:tl] do
        if g > 1 then g := g - 1
        smg g
        let some t ← gal false (← elem' b (j - 1)) a 0 i (i - 1) | return dn o i j
        let k := i - t
        ac := k
        if k > 0 then
          o := o ++ (a.extract t i).reverse; i := t
          if i == 0 then return dn o i j
        j := j - 1; o := o.push (← elem' b j)
        if j == 1 then return fb o i j
        let some t ← gal true (← elem' a (i - 1)) b 0 j (j - 1) | return dn o i j
        let k := j - t
        bc := k
        if k > 0 then
          o := o ++ (b.extract t j).reverse; j := t
          if j == 1 then return fb o i j
          if j == 0 then return dn o i j
        i := i - 1; o := o.push (← elem' a i)
        if i == 0 then return dn o i j
        if ac < 7 && bc < 7 then break
      g := g + 1
      smg g
    unsupported "internal:list.sort.merge-bound") := rfl
structure Mh (L : Keyed → Keyed → Bool) (a b : List Keyed) (o : List Keyed) (i j : Nat) : Prop where
  s1 : Srt L (a.take i ++ o)
  s2 : Srt L (b.take j ++ o)
  pm : (a.take i ++ (b.take j ++ o)).Perm (a ++ b)
  la : i ≤ a.length
  lb : j ≤ b.length
section
variable {L : Keyed → Keyed → Bool} {a b o : List Keyed} {i j : Nat}
theorem Mh.swap (m : Mh L a b o i j) : Mh L b a o j i := ⟨m.s2, m.s1, by
  rw [← List.append_assoc]
  refine (List.Perm.append_right _ List.perm_append_comm).trans ?_
  rw [List.append_assoc]
  exact m.pm.trans List.perm_append_comm, m.lb, m.la⟩
theorem Mh.step (m : Mh L a b o i j) (t : Nat) (h1 : t ≤ i) (h : ∀ x ∈ (a.take i).drop t, ∀ y ∈ b.take j, L x y = false) : Mh L a b ((a.take i).drop t ++ o) t j := by
  have e : a.take i = a.take t ++ (a.take i).drop t := by
    rw [show a.take t = (a.take i).take t by rw [List.take_take, Nat.min_eq_left h1], List.take_append_drop]
  have m1 := m.s1
  have m2 := m.s2
  have mp := m.pm
  have ml := m.la
  refine ⟨?_, ?_, ?_, by omega, m.lb⟩
  · rw [e] at m1
    rw [← List.append_assoc]
    exact m1
  · unfold Srt at m1 m2 ⊢
    rw [e, List.append_assoc, List.pairwise_append] at m1
    rw [List.pairwise_append] at m2 ⊢
    refine ⟨m2.1, m1.2.1, fun x hx y hy => ?_⟩
    rcases List.mem_append.mp hy with q | q
    · exact h y q x hx
    · exact m2.2.2 x hx y q
  · refine List.Perm.trans ?_ mp
    rw (occs := .pos [2]) [e]
    rw [List.append_assoc]
    refine List.Perm.append_left _ ?_
    rw [← List.append_assoc, ← List.append_assoc]
    exact List.Perm.append_right _ List.perm_append_comm
theorem Mh.don (m : Mh L a b o i j) (h : i = 0 ∨ j = 0) : Good L a b (a.take i ++ b.take j ++ o) := by
  refine ⟨?_, by rw [List.append_assoc]; exact m.pm⟩
  rcases h with h | h
  · subst h; rw [List.take_zero, List.nil_append]; exact m.s2
  · subst h; rw [List.take_zero, List.append_nil]; exact m.s1
theorem Mh.fst (m : Mh L a b o i j) (h : ∀ x ∈ a.take i, ∀ y ∈ b.take j, L x y = false) : Good L a b (b.take j ++ a.take i ++ o) := by
  have m1 := m.s1
  have m2 := m.s2
  refine ⟨?_, ?_⟩
  · unfold Srt at m1 m2 ⊢
    rw [List.pairwise_append] at m2
    rw [List.append_assoc, List.pairwise_append]
    refine ⟨m2.1, m1, fun x hx y hy => ?_⟩
    rcases List.mem_append.mp hy with q | q
    · exact h y q x hx
    · exact m2.2.2 x hx y q
  · refine List.Perm.trans ?_ m.pm
    rw [← List.append_assoc]
    exact List.Perm.append_right _ List.perm_append_comm
theorem Mh.len (m : Mh L a b o i j) : i + j + o.length = a.length + b.length := by
  have := m.pm.length_eq
  have h1 := m.la
  have h2 := m.lb
  simp only [List.length_append, List.length_take] at this
  omega
theorem mem_tk {l : Array Keyed} {i : Nat} {x : Keyed} (h : x ∈ l.toList.take i) : ∃ p, p < i ∧ p < l.size ∧ x = gk l p := by
  have := mem_take (l := l) (i := 0) (k := i) (x := x) (by rw [List.drop_zero]; exact h)
  obtain ⟨p, _, h2, h3, h4⟩ := this
  exact ⟨p, by omega, h3, h4⟩
theorem mem_td {l : Array Keyed} {i t : Nat} {x : Keyed} (h : x ∈ (l.toList.take i).drop t) : ∃ p, t ≤ p ∧ p < i ∧ p < l.size ∧ x = gk l p := by
  rw [List.drop_take] at h
  obtain ⟨p, h1, h2, h3, h4⟩ := mem_take h
  exact ⟨p, h1, by omega, h3, h4⟩
theorem ex_td (l : Array Keyed) (t i : Nat) : (l.extract t i).toList = (l.toList.take i).drop t := by
  rw [Array.toList_extract, List.extract_eq_drop_take, List.drop_take]
end
section
variable {prog : Program} {w : World} {A : Around} {E : Value → Shared → Prop} {s : Shared} {κ : SortKind} {L : Keyed → Keyed → Bool} {D : Keyed → Prop}
section
variable {a b o : Array Keyed} {i j : Nat}
abbrev Mg (L : Keyed → Keyed → Bool) (a b o : Array Keyed) (i j : Nat) : Prop := Mh L a.toList b.toList o.toList.reverse i j
theorem Mg.ca (m : Mg L a b o i j) {t : Nat} (h1 : t ≤ i) (h : ∀ p q, t ≤ p → p < i → q < j → q < b.size → L (gk a p) (gk b q) = false) : Mg L a b (o ++ (a.extract t i).reverse) t j := by
  unfold Mg
  rw [Array.toList_append, List.reverse_append, Array.toList_reverse, List.reverse_reverse, ex_td]
  refine m.step t h1 fun x hx y hy => ?_
  obtain ⟨p, p1, p2, p3, rfl⟩ := mem_td hx
  obtain ⟨q, q1, q2, rfl⟩ := mem_tk hy
  exact h p q p1 p2 q1 q2
theorem Mg.pa (m : Mg L a b o (i + 1) j) (h : ∀ q, q < j → q < b.size → L (gk a i) (gk b q) = false) : Mg L a b (o.push (gk a i)) i j := by
  have hi : i + 1 ≤ a.size := by have := m.la; rw [Array.length_toList] at this; exact this
  have e : (a.toList.take (i + 1)).drop i = [gk a i] := by rw [List.drop_take, show i + 1 - i = 1 by omega]; exact take_one hi
  unfold Mg
  rw [Array.toList_push, List.reverse_append, List.reverse_singleton, ← e]
  refine m.step i (by omega) fun x hx y hy => ?_
  obtain ⟨p, p1, p2, p3, rfl⟩ := mem_td hx
  obtain ⟨q, q1, q2, rfl⟩ := mem_tk hy
  have e : p = i := by omega
  subst e
  exact h q q1 q2
theorem Mg.cb (m : Mg L a b o i j) {t : Nat} (h1 : t ≤ j) (h : ∀ p q, p < i → p < a.size → t ≤ q → q < j → L (gk b q) (gk a p) = false) : Mg L a b (o ++ (b.extract t j).reverse) i t :=
  (Mg.ca (a := b) (b := a) m.swap h1 fun p q h2 h3 h4 h5 => h q p h4 h5 h2 h3).swap
theorem Mg.pb (m : Mg L a b o i (j + 1)) (h : ∀ p, p < i → p < a.size → L (gk b j) (gk a p) = false) : Mg L a b (o.push (gk b j)) i j :=
  (Mg.pa (a := b) (b := a) m.swap h).swap
theorem Mg.dn (m : Mg L a b o i j) (h : i = 0 ∨ j = 0) : Good L a.toList b.toList (a.extract 0 i ++ b.extract 0 j ++ o.reverse).toList := by
  rw [Array.toList_append, Array.toList_append, ex_td, ex_td, Array.toList_reverse, List.drop_zero, List.drop_zero]
  exact m.don h
theorem Mg.fb (m : Mg L a b o i j) (hj : j = 1) (h : ∀ p, p < a.size → L (gk a p) (gk b 0) = false) : Good L a.toList b.toList (b.extract 0 j ++ a.extract 0 i ++ o.reverse).toList := by
  rw [Array.toList_append, Array.toList_append, ex_td, ex_td, Array.toList_reverse, List.drop_zero, List.drop_zero]
  refine m.fst fun x hx y hy => ?_
  obtain ⟨p, p1, p2, rfl⟩ := mem_tk hx
  obtain ⟨q, q1, q2, rfl⟩ := mem_tk hy
  have e : q = 0 := by omega
  subst e
  exact h p p2
theorem Mg.ln (m : Mg L a b o i j) : i + j + o.size = a.size + b.size := by
  have := m.len
  rw [List.length_reverse, Array.length_toList, Array.length_toList, Array.length_toList] at this
  exact this
end
theorem wpS_mhi (H : Asks prog w A E s κ L D) (od : Od L) {a b : Array Keyed} {ar : Array Keyed} {pe : Array (Nat × Nat × Nat)} {g0 : Nat} {fl : Option Value} {Q : Array Keyed → SortSt → Prop}
    (da : ∀ p, p < a.size → D (gk a p)) (db : ∀ p, p < b.size → D (gk b p)) (na : 1 ≤ a.size) (nb : 1 ≤ b.size) (sa : Srt L a.toList) (sb : Srt L b.toList)
    (h0 : ∀ p, p < a.size → L (gk a p) (gk b 0) = false) (hl : ∀ q, q < b.size → L (gk a (a.size - 1)) (gk b q) = false)
    (h : ∀ r g, Good L a.toList b.toList r.toList → Q r (SortSt.mk' κ ar pe g fl)) : wpS (model prog w) A E s (mhi a b) Q (SortSt.mk' κ ar pe g0 fl) := by
  rw [mhi_eq]
  refine wpS_bind (wpS_ru ?_)
  dsimp only
  refine wpS_bind (wpS_el (by omega) ?_)
  have m0 : Mg L a b #[] a.size b.size := by
    have e1 : a.toList.take a.size = a.toList := List.take_of_length_le (by rw [Array.length_toList]; omega)
    have e2 : b.toList.take b.size = b.toList := List.take_of_length_le (by rw [Array.length_toList]; omega)
    refine ⟨?_, ?_, ?_, by rw [Array.length_toList]; omega, by rw [Array.length_toList]; omega⟩
    · show Srt L (_ ++ []); rw [e1, List.append_nil]; exact sa
    · show Srt L (_ ++ []); rw [e2, List.append_nil]; exact sb
    · show (_ ++ (_ ++ [])).Perm _; rw [e1, e2, List.append_nil]
  have m1 : Mg L a b #[gk a (a.size - 1)] (a.size - 1) b.size := by
    rw [show a.size = a.size - 1 + 1 by omega] at m0
    exact m0.pa fun q _ hq => hl q hq
  by_cases c1 : (a.size - 1 == 0) = true
  · rw [if_pos c1]
    exact wpS_pure (h _ _ (m1.dn (.inl (eq_of_beq c1))))
  rw [if_neg c1]
  by_cases c2 : (b.size == 1) = true
  · rw [if_pos c2]
    exact wpS_pure (h _ _ (m1.fb (eq_of_beq c2) h0))
  rw [if_neg c2]
  have z2 : 1 ≤ a.size - 1 := by
    have : ¬ a.size - 1 = 0 := fun e => c1 (by rw [e]; rfl)
    omega
  have z1 : 2 ≤ b.size := by
    have : ¬ b.size = 1 := fun e => c2 (by rw [e]; rfl)
    omega
  clear c1 c2
  refine wpS_bind (wpS_get ?_)
  refine wpS_bind (wpS_mono (wpS_forRange (I := fun x c st' => ∃ i j o g g', c = (none, i, j, o, g) ∧ st' = SortSt.mk' κ ar pe g' fl ∧ Mg L a b o i j ∧ 1 ≤ i ∧ 2 ≤ j ∧ x + 1 ≤ o.size)
    (Q := fun c st' => ∃ r g' c', c = (some r, c') ∧ st' = SortSt.mk' κ ar pe g' fl ∧ Good L a.toList b.toList r.toList) ?_ ?_ ⟨_, _, _, _, _, rfl, rfl, m1, z2, z1, by simp⟩) ?_)
  rotate_left
  · rintro c st' ⟨i, j, o, g, g', rfl, rfl, m, l1, l2, l3⟩
    have := m.ln
    omega
  · rintro c st' ⟨r, g', c', rfl, rfl, hr⟩
    exact wpS_pure (h _ _ hr)
  rintro x c st' _ hx ⟨i, j, o, g, g', rfl, rfl, m, l1, l2, l3⟩
  dsimp only
  refine wpS_bind (wpS_mono (wpS_forRange (I := fun y c st' => ∃ i j o ac bc, c = (none, i, j, o, ac, bc) ∧ st' = SortSt.mk' κ ar pe g' fl ∧ Mg L a b o i j ∧ 1 ≤ i ∧ 2 ≤ j ∧ x + 1 + y ≤ o.size)
    (Q := fun c st' => st' = SortSt.mk' κ ar pe g' fl ∧ ((∃ r c', c = (some r, c') ∧ Good L a.toList b.toList r.toList) ∨
      ∃ i j o ac bc, c = (none, i, j, o, ac, bc) ∧ Mg L a b o i j ∧ 1 ≤ i ∧ 2 ≤ j ∧ x + 2 ≤ o.size)) ?_ ?_ ⟨_, _, _, _, _, rfl, rfl, m, l1, l2, by omega⟩) ?_)
  · clear m l1 l2 l3
    rintro y c st' _ hy ⟨i, j, o, ac, bc, rfl, rfl, m, l1, l2, l3⟩
    dsimp only
    have ln := m.ln
    have ba := m.la
    have bb := m.lb
    rw [Array.length_toList] at ba bb
    obtain ⟨i, rfl⟩ : ∃ n, i = n + 1 := ⟨i - 1, by omega⟩
    obtain ⟨j, rfl⟩ : ∃ n, j = n + 1 := ⟨j - 1, by omega⟩
    simp only [Nat.add_sub_cancel]
    refine wpS_bind (wpS_el (by omega) ?_)
    refine wpS_bind (wpS_el (by omega) ?_)
    refine wpS_bind (H _ _ (db j (by omega)) (da i (by omega)) _ _ rfl ?_)
    dsimp only
    cases bw : L (gk b j) (gk a i) with
    | true =>
      rw [if_pos rfl]
      refine wpS_bind (wpS_el (by omega) ?_)
      have m' := m.pa fun q q1 q2 => od.tr (srt_le od sb (show q ≤ j by omega) (by omega)) (od.asy _ _ bw)
      by_cases c : (i == 0) = true
      · rw [if_pos c]
        exact wpS_pure ⟨rfl, .inl ⟨_, _, rfl, m'.dn (.inl (eq_of_beq c))⟩⟩
      · rw [if_neg c]
        have : ¬ i = 0 := fun e => c (by rw [e]; exact beq_self_eq_true _)
        by_cases c3 : ac + 1 ≥ g
        · rw [if_pos c3]
          exact wpS_pure ⟨rfl, .inr ⟨_, _, _, _, _, rfl, m', by omega, l2, by rw [Array.size_push]; omega⟩⟩
        · rw [if_neg c3]
          exact wpS_pure ⟨_, _, _, _, _, rfl, rfl, m', by omega, l2, by rw [Array.size_push]; omega⟩
    | false =>
      rw [if_neg (by decide)]
      refine wpS_bind (wpS_el (by omega) ?_)
      have m' := m.pb fun p p1 p2 => od.tr (srt_le od sa (show p ≤ i by omega) (by omega)) bw
      by_cases c : (j == 1) = true
      · rw [if_pos c]
        exact wpS_pure ⟨rfl, .inl ⟨_, _, rfl, m'.fb (eq_of_beq c) h0⟩⟩
      · rw [if_neg c]
        have : ¬ j = 1 := fun e => c (by rw [e]; exact beq_self_eq_true _)
        by_cases c3 : bc + 1 ≥ g
        · rw [if_pos c3]
          exact wpS_pure ⟨rfl, .inr ⟨_, _, _, _, _, rfl, m', l1, by omega, by rw [Array.size_push]; omega⟩⟩
        · rw [if_neg c3]
          exact wpS_pure ⟨_, _, _, _, _, rfl, rfl, m', l1, by omega, by rw [Array.size_push]; omega⟩
  · rintro c st' ⟨i, j, o, ac, bc, rfl, rfl, m, l1, l2, l3⟩
    exact ⟨rfl, .inr ⟨_, _, _, _, _, rfl, m, l1, l2, by omega⟩⟩
  clear m l1 l2 l3
  rintro c st' ⟨rfl, ⟨r, c', rfl, hr⟩ | ⟨i, j, o, ac, bc, rfl, m, l1, l2, l3⟩⟩
  · exact wpS_pure ⟨_, _, _, rfl, rfl, hr⟩
  dsimp only
  refine wpS_bind (wpS_ru ?_)
  refine wpS_bind (wpS_mono (wpS_forRange (I := fun y c st' => ∃ i j o g ac bc g', c = (none, i, j, o, g, ac, bc) ∧ st' = SortSt.mk' κ ar pe g' fl ∧ Mg L a b o i j ∧ 1 ≤ i ∧ 2 ≤ j ∧ x + 2 ≤ o.size)
    (Q := fun c st' => (∃ g', st' = SortSt.mk' κ ar pe g' fl) ∧ ((∃ r c', c = (some r, c') ∧ Good L a.toList b.toList r.toList) ∨
      ∃ i j o g ac bc, c = (none, i, j, o, g, ac, bc) ∧ Mg L a b o i j ∧ 1 ≤ i ∧ 2 ≤ j ∧ x + 2 ≤ o.size)) ?_ ?_ ⟨_, _, _, _, _, _, _, rfl, rfl, m, l1, l2, l3⟩) ?_)
  rotate_left
  · rintro c st' ⟨i, j, o, g, ac, bc, g', rfl, rfl, m, l1, l2, l3⟩
    exact ⟨⟨_, rfl⟩, .inr ⟨_, _, _, _, _, _, rfl, m, l1, l2, l3⟩⟩
  · clear m l1 l2 l3
    rintro c st' ⟨⟨g2, rfl⟩, ⟨r, c', rfl, hr⟩ | ⟨i, j, o, g, ac, bc, rfl, m, l1, l2, l3⟩⟩
    · exact wpS_pure ⟨_, _, _, rfl, rfl, hr⟩
    · dsimp only
      rw [smg_eq]
      exact wpS_bind (wpS_modify (wpS_pure ⟨_, _, _, _, _, rfl, rfl, m, l1, l2, l3⟩))
  clear m l1 l2 l3
  rintro y c st' _ hy ⟨i, j, o, g, ac, bc, g', rfl, rfl, m, l1, l2, l3⟩
  dsimp only
  have ln := m.ln
  have ba := m.la
  have bb := m.lb
  rw [Array.length_toList] at ba bb
  obtain ⟨j, rfl⟩ : ∃ n, j = n + 1 := ⟨j - 1, by omega⟩
  simp only [Nat.add_sub_cancel]
  by_cases cg : g > 1
  all_goals first | rw [if_pos cg] | rw [if_neg cg]
  all_goals
    rw [smg_eq]
    refine wpS_bind (wpS_modify ?_)
    refine wpS_bind (wpS_el (by omega) ?_)
    refine wpS_bind (wpS_gal H (fun t => !L (gk b j) (gk a (0 + t))) (fun t => by rw [if_neg (by decide)]) rfl (db j (by omega)) (fun t ht => da _ (by omega)) (by omega) (by omega) (fun p q pq hq hb => ?_) fun k hk k1 k2 => ?_)
    · have hb' : L (gk b j) (gk a (0 + q)) = false := by simpa using hb
      have := od.tr (srt_le od sa (show 0 + p ≤ 0 + q by omega) (by omega)) hb'
      show (!L (gk b j) (gk a (0 + p))) = true
      rw [this]; rfl
    dsimp only
    have k1' : ∀ p, p < k → L (gk b j) (gk a p) = false := fun p h1 => by
      have := k1 p h1
      rw [Nat.zero_add] at this
      simpa using this
    have k2' : ∀ p, k ≤ p → p < i → L (gk b j) (gk a p) = true := fun p h1 h2 => by
      have := k2 p h1 h2
      rw [Nat.zero_add] at this
      simpa using this
    have m2 := m.ca hk fun p q h1 h2 h3 h4 => od.tr (srt_le od sb (show q ≤ j by omega) (by omega)) (od.asy _ _ (k2' p h1 h2))
    clear k1 k2 k2'
    by_cases ck : i - k > 0
    all_goals first | rw [if_pos ck] | rw [if_neg ck]
    all_goals first
      | (have ek : k = i := by omega
         subst ek
         rw [show o ++ (a.extract k k).reverse = o by simp; omega] at m2
         clear m hk ck ln
         generalize o = o2 at m2 l3 ⊢)
      | (have lz : o.size ≤ (o ++ (a.extract k i).reverse).size := by rw [Array.size_append]; omega
         generalize o ++ (a.extract k i).reverse = o2 at m2 lz ⊢
         by_cases c4 : (k == 0) = true
         · rw [if_pos c4]
           exact wpS_pure ⟨⟨_, rfl⟩, .inl ⟨_, _, rfl, m2.dn (.inl (eq_of_beq c4))⟩⟩
         rw [if_neg c4]
         have q1 : ¬ k = 0 := fun e => c4 (by rw [e]; exact beq_self_eq_true _)
         replace l1 : 1 ≤ k := by omega
         replace l3 : x + 2 ≤ o2.size := by omega
         replace ba : k ≤ a.size := by omega
         clear c4 q1 lz m ln)
    all_goals
      refine wpS_bind (wpS_el (by omega) ?_)
      have m3 := m2.pb fun p h1 h2 => k1' p h1
      by_cases c6 : (j == 1) = true
      · rw [if_pos c6]
        exact wpS_pure ⟨⟨_, rfl⟩, .inl ⟨_, _, rfl, m3.fb (eq_of_beq c6) h0⟩⟩
      rw [if_neg c6]
      have q3 : ¬ j = 1 := fun e => c6 (by rw [e]; exact beq_self_eq_true _)
      have l4 : 2 ≤ j := by omega
      obtain ⟨i2, rfl⟩ : ∃ n, k = n + 1 := ⟨k - 1, by omega⟩
      simp only [Nat.add_sub_cancel]
      refine wpS_bind (wpS_el (by omega) ?_)
      refine wpS_bind (wpS_gal H (fun t => L (gk b (0 + t)) (gk a i2)) (fun t => by rw [if_pos rfl]) rfl (da i2 (by omega)) (fun t ht => db _ (by omega)) (by omega) (by omega) (fun p q pq hq hb => ?_) fun k3 hk3 k4 k5 => ?_)
      · rcases od.neg _ (gk b (0 + p)) _ hb with f | f
        · rw [srt_le od sb (show 0 + p ≤ 0 + q by omega) (by omega)] at f; cases f
        · exact f
      dsimp only
      have k6 : ∀ p, p < k3 → L (gk a i2) (gk b p) = false := fun p h1 => by
        have := k4 p h1
        rw [Nat.zero_add] at this
        exact od.asy _ _ this
      have m4 := m3.cb hk3 fun p q h1 h2 h3 h4 => by
        have := k5 q h3 h4
        rw [Nat.zero_add] at this
        exact od.tr (srt_le od sa (show p ≤ i2 by omega) (by omega)) this
      have lz : x + 2 ≤ (o2.push (gk b j)).size := by rw [Array.size_push]; omega
      clear m3
      generalize o2.push (gk b j) = o3 at m4 lz ⊢
      by_cases ck3 : j - k3 > 0
      all_goals first | rw [if_pos ck3] | rw [if_neg ck3]
      all_goals first
        | (have ek : k3 = j := by omega
           subst ek
           rw [show o3 ++ (b.extract k3 k3).reverse = o3 by simp; omega] at m4)
        | (have lz2 : x + 2 ≤ (o3 ++ (b.extract k3 j).reverse).size := by rw [Array.size_append]; omega
           clear lz
           generalize o3 ++ (b.extract k3 j).reverse = o4 at m4 lz2 ⊢
           by_cases c7 : (k3 == 1) = true
           · rw [if_pos c7]
             exact wpS_pure ⟨⟨_, rfl⟩, .inl ⟨_, _, rfl, m4.fb (eq_of_beq c7) h0⟩⟩
           rw [if_neg c7]
           by_cases c9 : (k3 == 0) = true
           · rw [if_pos c9]
             exact wpS_pure ⟨⟨_, rfl⟩, .inl ⟨_, _, rfl, m4.dn (.inr (eq_of_beq c9))⟩⟩
           rw [if_neg c9]
           have q1 : ¬ k3 = 1 := fun e => c7 (by rw [e]; exact beq_self_eq_true _)
           have q2 : ¬ k3 = 0 := fun e => c9 (by rw [e]; exact beq_self_eq_true _)
           replace l4 : 2 ≤ k3 := by omega)
      all_goals
        refine wpS_bind (wpS_el (by omega) ?_)
        have m5 := m4.pa fun q h1 h2 => k6 q h1
        by_cases c8 : (i2 == 0) = true
        · rw [if_pos c8]
          exact wpS_pure ⟨⟨_, rfl⟩, .inl ⟨_, _, rfl, m5.dn (.inl (eq_of_beq c8))⟩⟩
        rw [if_neg c8]
        have q4 : ¬ i2 = 0 := fun e => c8 (by rw [e]; exact beq_self_eq_true _)
        split
        · exact wpS_pure ⟨⟨_, rfl⟩, .inr ⟨_, _, _, _, _, _, rfl, m5, by omega, l4, by rw [Array.size_push]; omega⟩⟩
        · exact wpS_pure ⟨_, _, _, _, _, _, _, rfl, rfl, m5, by omega, l4, by rw [Array.size_push]; omega⟩
end
def spl (s : Nat) (a m : Array Keyed) : Array Keyed := m.toList.zipIdx.foldl (fun a (p, j) => a.setIfInBounds (s + j) p) a
theorem spl_go (s : Nat) : ∀ (l : List Keyed) (n : Nat) (a : Array Keyed), s + n + l.length ≤ a.size →
    ((l.zipIdx n).foldl (fun a (x : Keyed × Nat) => a.setIfInBounds (s + x.2) x.1) a).size = a.size ∧
    ∀ q : Nat, ((l.zipIdx n).foldl (fun a (x : Keyed × Nat) => a.setIfInBounds (s + x.2) x.1) a)[q]? = if s + n ≤ q ∧ q < s + n + l.length then l[q - (s + n)]? else a[q]?
  | [], n, a, h => ⟨rfl, fun q => by rw [if_neg (by simp only [List.length_nil]; omega)]; rfl⟩
  | x :: l, n, a, h => by
    rw [List.length_cons] at h
    obtain ⟨h1, h2⟩ := spl_go s l (n + 1) (a.setIfInBounds (s + n) x) (by rw [Array.size_setIfInBounds]; omega)
    rw [Array.size_setIfInBounds] at h1
    refine ⟨h1, fun q => ?_⟩
    rw [List.zipIdx_cons, List.foldl_cons, h2, List.length_cons]
    by_cases c1 : s + (n + 1) ≤ q ∧ q < s + (n + 1) + l.length
    · rw [if_pos c1, if_pos ⟨by omega, by omega⟩, show q - (s + n) = q - (s + (n + 1)) + 1 by omega, List.getElem?_cons_succ]
    · rw [if_neg c1, Array.getElem?_setIfInBounds]
      by_cases c2 : s + n = q
      · subst c2
        rw [if_pos rfl, if_pos (by omega), if_pos ⟨Nat.le_refl _, by omega⟩, Nat.sub_self]
        rfl
      · rw [if_neg c2, if_neg (by omega)]
theorem spl_at {s : Nat} {a m : Array Keyed} (h : s + m.size ≤ a.size) : (spl s a m).size = a.size ∧ ∀ q : Nat, (spl s a m)[q]? = if s ≤ q ∧ q < s + m.size then m[q - s]? else a[q]? := by
  have := spl_go s m.toList 0 a (by rw [Array.length_toList]; omega)
  refine ⟨this.1, fun q => ?_⟩
  have e := this.2 q
  rw [Array.length_toList, Array.getElem?_toList] at e
  exact e
theorem spl_in {s : Nat} {a m : Array Keyed} (h : s + m.size ≤ a.size) {q : Nat} (h1 : s ≤ q) (h2 : q < s + m.size) : gk (spl s a m) q = gk m (q - s) :=
  gk_of (by rw [(spl_at h).2, if_pos ⟨h1, h2⟩])
theorem spl_out {s : Nat} {a m : Array Keyed} (h : s + m.size ≤ a.size) {q : Nat} (h1 : q < s ∨ s + m.size ≤ q) : gk (spl s a m) q = gk a q :=
  gk_of (by rw [(spl_at h).2, if_neg (by omega)])
theorem spl_perm {s t u : Nat} {a m : Array Keyed} (h : t ≤ u) (h0 : s ≤ t) (hu : u ≤ a.size) (hm : m.toList.Perm ((a.extract s t).toList ++ (a.extract t u).toList)) : (spl s a m).Perm a := by
  have ml : m.size = u - s := by
    have := hm.length_eq
    rw [List.length_append, Array.length_toList, Array.length_toList, Array.length_toList, Array.size_extract, Array.size_extract] at this
    omega
  have hs : s + m.size ≤ a.size := by omega
  obtain ⟨z, g⟩ := spl_at hs
  have e : (spl s a m).toList = a.toList.take s ++ (m.toList ++ a.toList.drop u) := by
    refine List.ext_getElem? fun q => ?_
    rw [Array.getElem?_toList, g q]
    by_cases c : q < s
    · rw [if_neg (by omega), List.getElem?_append_left (by rw [List.length_take, Array.length_toList]; omega), List.getElem?_take, if_pos c, Array.getElem?_toList]
    · rw [List.getElem?_append_right (by rw [List.length_take, Array.length_toList]; omega), List.length_take, Array.length_toList, Nat.min_eq_left (by omega)]
      by_cases c2 : q < s + m.size
      · rw [if_pos ⟨by omega, c2⟩, List.getElem?_append_left (by rw [Array.length_toList]; omega), Array.getElem?_toList]
      · rw [if_neg (by omega), List.getElem?_append_right (by rw [Array.length_toList]; omega), Array.length_toList, List.getElem?_drop, Array.getElem?_toList]
        congr 1; omega
  have e2 : a.toList = a.toList.take s ++ (((a.extract s t).toList ++ (a.extract t u).toList) ++ a.toList.drop u) := by
    rw [ex_td, ex_td]
    have f1 : (a.toList.take t).drop s ++ (a.toList.take u).drop t = (a.toList.take u).drop s := by
      rw [show a.toList.take t = (a.toList.take u).take t by rw [List.take_take, Nat.min_eq_left h], List.drop_take]
      have : (a.toList.take u).drop t = ((a.toList.take u).drop s).drop (t - s) := by rw [List.drop_drop, show s + (t - s) = t by omega]
      rw [this, List.take_append_drop]
    rw [f1, ← List.append_assoc, show a.toList.take s = (a.toList.take u).take s by rw [List.take_take, Nat.min_eq_left (by omega)], List.take_append_drop, List.take_append_drop]
  rw [Array.perm_iff_toList_perm, e]
  rw (occs := .pos [3]) [e2]
  exact List.Perm.append_left _ (List.Perm.append_right _ hm)
section
variable {L : Keyed → Keyed → Bool}
def Son (L : Keyed → Keyed → Bool) (a : Array Keyed) (s e : Nat) : Prop := ∀ p q, s ≤ p → p ≤ q → q < e → L (gk a q) (gk a p) = false
theorem Son.srt {a : Array Keyed} {s e s' e' : Nat} (h : Son L a s e) (h1 : s ≤ s') (h2 : e' ≤ e) (h3 : e' ≤ a.size) : Srt L (a.extract s' e').toList := by
  unfold Srt
  rw [List.pairwise_iff_getElem]
  intro i j hi hj hij
  rw [Array.length_toList, Array.size_extract] at hj
  have k : ∀ (i : Nat) (hi : i < (a.extract s' e').toList.length), (a.extract s' e').toList[i] = gk a (s' + i) := fun i hi => by
    rw [Array.length_toList, Array.size_extract] at hi
    rw [Array.getElem_toList, Array.getElem_extract]
    have := gk_at (a := a) (i := s' + i) (by omega)
    rw [getElem?_pos a (s' + i) (by omega)] at this
    exact Option.some.inj this
  rw [k i hi, k j]
  exact h _ _ (by omega) (by omega) (by omega)
theorem gk_ex {a : Array Keyed} {s e i : Nat} (h : s + i < e) (h3 : e ≤ a.size) : gk (a.extract s e) i = gk a (s + i) := by
  apply gk_of
  rw [Array.getElem?_extract, if_pos (by omega)]
theorem gk_mem {m : Array Keyed} {i : Nat} (h : i < m.size) : gk m i ∈ m.toList := by
  have := gk_at h
  rw [← Array.getElem?_toList] at this
  exact List.mem_of_getElem? this
theorem mem_ex {a : Array Keyed} {s e : Nat} {x : Keyed} (h : x ∈ (a.extract s e).toList) : ∃ p, s ≤ p ∧ p < e ∧ p < a.size ∧ x = gk a p := by
  rw [ex_td] at h; exact mem_td h
theorem two_one (o : Od L) {a m : Array Keyed} {sa na nb k n2 : Nat} (h1 : Son L a sa (sa + na)) (h2 : Son L a (sa + na) (sa + na + nb)) (hz : sa + na + nb ≤ a.size) (hk : k < na) (hn : n2 ≤ nb) (n1 : 1 ≤ n2)
    (k1 : ∀ t, t < k → L (gk a (sa + na)) (gk a (sa + t)) = false) (k2 : ∀ t, n2 ≤ t → t < nb → L (gk a (sa + na + t)) (gk a (sa + na - 1)) = false)
    (g : Good L (a.extract (sa + k) (sa + na)).toList (a.extract (sa + na) (sa + na + n2)).toList m.toList) :
    Son L (spl (sa + k) a m) sa (sa + na + nb) ∧ (spl (sa + k) a m).Perm a ∧ ∀ q, q < sa ∨ sa + na + nb ≤ q → gk (spl (sa + k) a m) q = gk a q := by
  have ml : m.size = na - k + n2 := by
    have := g.2.length_eq
    rw [List.length_append, Array.length_toList, Array.length_toList, Array.length_toList, Array.size_extract, Array.size_extract] at this
    omega
  have hs : sa + k + m.size ≤ a.size := by omega
  have me : ∀ i, i < m.size → (∃ p, sa + k ≤ p ∧ p < sa + na ∧ gk m i = gk a p) ∨ (∃ p, sa + na ≤ p ∧ p < sa + na + n2 ∧ gk m i = gk a p) := fun i hi => by
    rcases List.mem_append.mp (g.2.mem_iff.mp (gk_mem hi)) with q | q
    · obtain ⟨p, p1, p2, _, e⟩ := mem_ex q; exact .inl ⟨p, p1, p2, e⟩
    · obtain ⟨p, p1, p2, _, e⟩ := mem_ex q; exact .inr ⟨p, p1, p2, e⟩
  refine ⟨fun p q hp hpq hq => ?_, spl_perm (by omega) (by omega) (by omega) g.2, fun q hq => spl_out hs (by omega)⟩
  by_cases c1 : p < sa + k
  · rw [spl_out hs (q := p) (.inl c1)]
    have low : ∀ x, sa + na ≤ x → x < sa + na + nb → L (gk a x) (gk a p) = false := fun x x1 x2 => by
      have a1 := k1 (p - sa) (by omega)
      rw [show sa + (p - sa) = p by omega] at a1
      exact o.tr a1 (h2 _ _ (Nat.le_refl _) x1 x2)
    by_cases c2 : q < sa + k
    · rw [spl_out hs (.inl c2)]; exact h1 p q hp hpq (by omega)
    · by_cases c3 : q < sa + k + m.size
      · rw [spl_in hs (by omega) c3]
        rcases me (q - (sa + k)) (by omega) with ⟨x, x1, x2, e⟩ | ⟨x, x1, x2, e⟩
        · rw [e]; exact h1 p x hp (by omega) x2
        · rw [e]; exact low x x1 (by omega)
      · rw [spl_out hs (.inr (by omega))]
        exact low q (by omega) hq
  · by_cases c3 : p < sa + k + m.size
    · rw [spl_in hs (q := p) (by omega) c3]
      by_cases c4 : q < sa + k + m.size
      · rw [spl_in hs (by omega) c4]
        exact srt_le o g.1 (by omega) (by omega)
      · rw [spl_out hs (.inr (by omega))]
        rcases me (p - (sa + k)) (by omega) with ⟨x, x1, x2, e⟩ | ⟨x, x1, x2, e⟩
        · rw [e]
          have b1 := h1 x (sa + na - 1) (by omega) (by omega) (by omega)
          have b2 := k2 (q - (sa + na)) (by omega) (by omega)
          rw [show sa + na + (q - (sa + na)) = q by omega] at b2
          exact o.tr b1 b2
        · rw [e]; exact h2 x q x1 (by omega) hq
    · rw [spl_out hs (q := p) (.inr (by omega)), spl_out hs (.inr (by omega))]
      exact h2 p q (by omega) hpq hq
def Runs (L : Keyed → Keyed → Bool) (a : Array Keyed) : List (Nat × Nat × Nat) → Nat → Nat → Prop
  | [], s, e => s = e
  | x :: r, s, e => x.1 = s ∧ 1 ≤ x.2.1 ∧ Son L a s (s + x.2.1) ∧ Runs L a r (s + x.2.1) e
theorem Son.same {a a' : Array Keyed} {s e : Nat} (h : Son L a s e) (g : ∀ q, s ≤ q → q < e → gk a' q = gk a q) : Son L a' s e := fun p q h1 h2 h3 => by
  rw [g p h1 (by omega), g q (by omega) h3]; exact h p q h1 h2 h3
theorem Runs.le {a : Array Keyed} : ∀ {l : List (Nat × Nat × Nat)} {s e : Nat}, Runs L a l s e → s + l.length ≤ e
  | [], s, e, h => by have : s = e := h; simp only [List.length_nil]; omega
  | x :: r, s, e, h => by have := h.2.2.2.le; have := h.2.1; rw [List.length_cons]; omega
theorem Runs.same {a a' : Array Keyed} : ∀ {l : List (Nat × Nat × Nat)} {s e : Nat}, Runs L a l s e → (∀ q, s ≤ q → q < e → gk a' q = gk a q) → Runs L a' l s e
  | [], s, e, h, g => h
  | x :: r, s, e, h, g => by
    have := h.2.2.2.le
    exact ⟨h.1, h.2.1, h.2.2.1.same fun q h1 h2 => g q h1 (by omega), h.2.2.2.same fun q h1 h2 => g q (by omega) h2⟩
theorem Runs.app {a : Array Keyed} : ∀ {l l' : List (Nat × Nat × Nat)} {s e : Nat}, Runs L a (l ++ l') s e ↔ ∃ m, Runs L a l s m ∧ Runs L a l' m e
  | [], l', s, e => ⟨fun h => ⟨s, rfl, h⟩, fun ⟨m, h1, h2⟩ => by have : s = m := h1; subst this; exact h2⟩
  | x :: r, l', s, e => by
    constructor
    · intro h
      obtain ⟨m, h1, h2⟩ := Runs.app.mp h.2.2.2
      exact ⟨m, ⟨h.1, h.2.1, h.2.2.1, h1⟩, h2⟩
    · rintro ⟨m, h1, h2⟩
      exact ⟨h1.1, h1.2.1, h1.2.2.1, Runs.app.mpr ⟨m, h1.2.2.2, h2⟩⟩
theorem two_at {α : Type} {p : Array α} {i : Nat} (h : i + 1 < p.size) : ∃ (l : List α) (x y : α) (r : List α), p.toList = l ++ x :: y :: r ∧ l.length = i ∧ p[i]? = some x ∧ p[i + 1]? = some y ∧ ∀ v, ((p.setIfInBounds i v).eraseIdxIfInBounds (i + 1)).toList = l ++ v :: r := by
  have h' : i + 1 < p.toList.length := by rw [Array.length_toList]; exact h
  refine ⟨p.toList.take i, p.toList[i], p.toList[i + 1], p.toList.drop (i + 2), ?_, ?_, ?_, ?_, fun v => ?_⟩
  · rw [← List.drop_eq_getElem_cons h', ← List.drop_eq_getElem_cons (by omega), List.take_append_drop]
  · rw [List.length_take]; omega
  · rw [← Array.getElem?_toList, List.getElem?_eq_getElem]
  · rw [← Array.getElem?_toList, List.getElem?_eq_getElem]
  · rw [Array.toList_eraseIdxIfInBounds, Array.toList_setIfInBounds]
    refine List.ext_getElem? fun q => ?_
    rw [List.getElem?_eraseIdx]
    by_cases c : q < i + 1
    · rw [if_pos c, List.getElem?_set]
      by_cases c2 : i = q
      · subst c2
        rw [if_pos rfl, if_pos (by omega), List.getElem?_append_right (by rw [List.length_take]; omega), List.length_take, Nat.min_eq_left (by omega), Nat.sub_self]
        rfl
      · rw [if_neg c2, List.getElem?_append_left (by rw [List.length_take]; omega), List.getElem?_take, if_pos (by omega)]
    · rw [if_neg c, List.getElem?_set, if_neg (by omega), List.getElem?_append_right (by rw [List.length_take]; omega), List.length_take, Nat.min_eq_left (by omega), show q - i = q - i - 1 + 1 by omega, List.getElem?_cons_succ, List.getElem?_drop]
      congr 1; omega
end
theorem mat_eq (i : Nat) : mergeAt' i = (do
    let s ← get
    let (some (p, m, z), some (q, n, _)) := ((pendingOf s)[i]?, (pendingOf s)[i + 1]?) | unsupported "internal:list.sort.pending"
    set (setPending s (((pendingOf s).setIfInBounds i (p, m + n, z)).eraseIdxIfInBounds (i + 1)))
    let some k ← gal false (← elem' (arrOf s) q) (arrOf s) p m 0 | return false
    let (p, m) := (p + k, m - k)
    if m == 0 then return true
    let some n ← gal true (← elem' (arrOf s) (p + m - 1)) (arrOf s) q n (n - 1) | return false
    if n == 0 then return true
    let x := (arrOf s).extract p q
    let y := (arrOf s).extract q (q + n)
    let r ← if m ≤ n then mlo x y else mhi x y
    modify fun s => setArr s (spl p (arrOf s) r)
    return (failedOf (← get)).isNone) := rfl
section
variable {prog : Program} {w : World} {A : Around} {E : Value → Shared → Prop} {s : Shared} {κ : SortKind} {L : Keyed → Keyed → Bool} {D : Keyed → Prop}
theorem wpS_st {M : Model} {σ : Type} {x : σ} {Q : PUnit → σ → Prop} {st : σ} (h : Q ⟨⟩ x) : wpS M A E s (set x : StateT σ Sem PUnit) Q st := by
  unfold wpS; rw [StateT.run_set]; exact wpAny_pure ⟨rfl, h⟩
def AllD (D : Keyed → Prop) (a : Array Keyed) : Prop := ∀ p, p < a.size → D (gk a p)
theorem AllD.perm {a a' : Array Keyed} (h : AllD D a) (hp : a'.Perm a) : AllD D a' := fun p hp' => by
  have := (Array.perm_iff_toList_perm.mp hp).mem_iff.mp (gk_mem hp')
  obtain ⟨q, _, hq, e⟩ := mem_drop (l := a) (i := 0) (by rw [List.drop_zero]; exact this)
  rw [e]; exact h q hq
theorem wpS_mat (H : Asks prog w A E s κ L D) (od : Od L) {ar : Array Keyed} {pe : Array (Nat × Nat × Nat)} {g i lo : Nat} {Q : Bool → SortSt → Prop}
    (hi : i + 1 < pe.size) (hr : Runs L ar pe.toList 0 lo) (hlo : lo ≤ ar.size) (hD : AllD D ar)
    (h : ∀ ar' pe' g', ar'.Perm ar → Runs L ar' pe'.toList 0 lo → pe'.size + 1 = pe.size → (∀ q, lo ≤ q → gk ar' q = gk ar q) → Q true (SortSt.mk' κ ar' pe' g' none)) :
    wpS (model prog w) A E s (mergeAt' i) Q (SortSt.mk' κ ar pe g none) := by
  rw [mat_eq]
  refine wpS_bind (wpS_get ?_)
  obtain ⟨l, ⟨p, m, z⟩, ⟨q, n, z'⟩, r, e1, e2, e3, e4, e5⟩ := two_at hi
  show wpS _ _ _ _ (match (pe[i]?, pe[i + 1]?) with | (some (p, m, z), some (q, n, _)) => _ | _ => _) _ _
  rw [e3, e4]
  dsimp only
  refine wpS_bind (wpS_st ?_)
  rw [e1] at hr
  obtain ⟨b, r1, r2⟩ := Runs.app.mp hr
  obtain ⟨h1, h2, h3, h4, h5, h6, h7⟩ := r2
  dsimp only at h1 h2 h3 h4 h5 h6 h7
  subst h1 h4
  have le1 := h7.le
  have e6 := e5 (p, m + n, z)
  have sz : ((pe.setIfInBounds i (p, m + n, z)).eraseIdxIfInBounds (i + 1)).size + 1 = pe.size := by
    rw [← Array.length_toList, e6, ← Array.length_toList (xs := pe), e1]
    simp only [List.length_append, List.length_cons]
    omega
  have done : ∀ ar' g', ar'.Perm ar → Son L ar' p (p + m + n) → (∀ q, q < p ∨ p + m + n ≤ q → gk ar' q = gk ar q) → Q true (SortSt.mk' κ ar' ((pe.setIfInBounds i (p, m + n, z)).eraseIdxIfInBounds (i + 1)) g' none) := fun ar' g' a1 a2 a3 => by
    refine h _ _ _ a1 ?_ sz fun q hq => a3 q (by omega)
    rw [e6]
    refine Runs.app.mpr ⟨p, r1.same fun q _ hq => a3 q (.inl hq), rfl, by show 1 ≤ m + n; omega, by show Son L ar' p (p + (m + n)); rw [← Nat.add_assoc]; exact a2, ?_⟩
    show Runs L ar' r (p + (m + n)) lo
    rw [← Nat.add_assoc]
    exact h7.same fun q hq _ => a3 q (.inr hq)
  refine wpS_bind (wpS_el (by show p + m < ar.size; omega) ?_)
  refine wpS_bind (wpS_gal H (fun t => !L (gk ar (p + m)) (gk ar (p + t))) (fun t => by rw [if_neg (by decide)]) rfl (hD _ (by omega)) (fun t ht => hD _ (by omega)) (by show p + m ≤ ar.size; omega) (by omega) (fun x y xy hy hb => ?_) fun k hk k1 k2 => ?_)
  · have hb' : L (gk ar (p + m)) (gk ar (p + y)) = false := by simpa using hb
    have := od.tr (h3 (p + x) (p + y) (by omega) (by omega) (by omega)) hb'
    show (!L (gk ar (p + m)) (gk ar (p + x))) = true
    rw [this]; rfl
  dsimp only
  have k1' : ∀ t, t < k → L (gk ar (p + m)) (gk ar (p + t)) = false := fun t ht => by simpa using k1 t ht
  have k2' : ∀ t, k ≤ t → t < m → L (gk ar (p + m)) (gk ar (p + t)) = true := fun t ht ht2 => by simpa using k2 t ht ht2
  clear k1 k2
  by_cases c1 : (m - k == 0) = true
  · rw [if_pos c1]
    have c1' := eq_of_beq c1
    refine wpS_pure (done ar g (Array.Perm.refl _) (fun x y hx hxy hy => ?_) fun q _ => rfl)
    by_cases d1 : y < p + m
    · exact h3 x y hx hxy d1
    · by_cases d2 : x < p + m
      · have := k1' (x - p) (by omega)
        rw [show p + (x - p) = x by omega] at this
        exact od.tr this (h6 _ _ (Nat.le_refl _) (by omega) hy)
      · exact h6 x y (by omega) hxy hy
  rw [if_neg c1]
  have c1' : ¬ m - k = 0 := fun e => c1 (by rw [e]; rfl)
  clear c1
  rw [show p + k + (m - k) - 1 = p + m - 1 by omega]
  refine wpS_bind (wpS_el (by show p + m - 1 < ar.size; omega) ?_)
  refine wpS_bind (wpS_gal H (fun t => L (gk ar (p + m + t)) (gk ar (p + m - 1))) (fun t => by rw [if_pos rfl]) rfl (hD _ (by omega)) (fun t ht => hD _ (by omega)) (by show p + m + n ≤ ar.size; omega) (by omega) (fun x y xy hy hb => ?_) fun n2 hn2 k4 k5 => ?_)
  · rcases od.neg _ (gk ar (p + m + x)) _ hb with f | f
    · rw [h6 (p + m + x) (p + m + y) (by omega) (by omega) (by omega)] at f; cases f
    · exact f
  dsimp only
  by_cases c2 : (n2 == 0) = true
  · rw [if_pos c2]
    have c2' := eq_of_beq c2
    refine wpS_pure (done ar g (Array.Perm.refl _) (fun x y hx hxy hy => ?_) fun q _ => rfl)
    by_cases d1 : y < p + m
    · exact h3 x y hx hxy d1
    · by_cases d2 : x < p + m
      · have := k5 (y - (p + m)) (by omega) (by omega)
        rw [show p + m + (y - (p + m)) = y by omega] at this
        exact od.tr (h3 x (p + m - 1) hx (by omega) (by omega)) this
      · exact h6 x y (by omega) hxy hy
  rw [if_neg c2]
  have c2' : ¬ n2 = 0 := fun e => c2 (by rw [e]; rfl)
  clear c2
  have fin : ∀ (R : Array Keyed) (g' : Nat), Good L (ar.extract (p + k) (p + m)).toList (ar.extract (p + m) (p + m + n2)).toList R.toList → wpS (model prog w) A E s (do
      modify fun s => setArr s (spl (p + k) (arrOf s) R)
      let u ← get
      pure (failedOf u).isNone) Q (SortSt.mk' κ ar ((pe.setIfInBounds i (p, m + n, z)).eraseIdxIfInBounds (i + 1)) g' none) := fun R g' hR => by
    refine wpS_bind (wpS_modify ?_)
    refine wpS_bind (wpS_get (wpS_pure ?_))
    obtain ⟨b1, b2, b3⟩ := two_one od (m := R) h3 h6 (by omega) (by omega) hn2 (by omega) k1' k5 hR
    exact done _ g' b2 b1 b3
  have za : (ar.extract (p + k) (p + m)).size = m - k := by rw [Array.size_extract]; omega
  have zb : (ar.extract (p + m) (p + m + n2)).size = n2 := by rw [Array.size_extract]; omega
  have da : ∀ x, x < (ar.extract (p + k) (p + m)).size → D (gk (ar.extract (p + k) (p + m)) x) := fun x hx => by
    rw [za] at hx; rw [gk_ex (by omega) (by omega)]; exact hD _ (by omega)
  have db : ∀ x, x < (ar.extract (p + m) (p + m + n2)).size → D (gk (ar.extract (p + m) (p + m + n2)) x) := fun x hx => by
    rw [zb] at hx; rw [gk_ex (by omega) (by omega)]; exact hD _ (by omega)
  have sa : Srt L (ar.extract (p + k) (p + m)).toList := h3.srt (by omega) (by omega) (by omega)
  have sb : Srt L (ar.extract (p + m) (p + m + n2)).toList := h6.srt (by omega) (by omega) (by omega)
  have h0 : ∀ x, x < (ar.extract (p + k) (p + m)).size → L (gk (ar.extract (p + k) (p + m)) x) (gk (ar.extract (p + m) (p + m + n2)) 0) = false := fun x hx => by
    rw [za] at hx
    rw [gk_ex (by omega) (by omega), gk_ex (by omega) (by omega)]
    have := k2' (k + x) (by omega) (by omega)
    rw [← Nat.add_assoc] at this
    exact od.asy _ _ this
  have hl : ∀ x, x < (ar.extract (p + m) (p + m + n2)).size → L (gk (ar.extract (p + k) (p + m)) ((ar.extract (p + k) (p + m)).size - 1)) (gk (ar.extract (p + m) (p + m + n2)) x) = false := fun x hx => by
    rw [zb] at hx
    rw [za, gk_ex (by omega) (by omega), gk_ex (by omega) (by omega), show p + k + (m - k - 1) = p + m - 1 by omega]
    exact od.asy _ _ (k4 x hx)
  by_cases c3 : m - k ≤ n2
  · rw [if_pos c3]
    exact wpS_bind (wpS_mlo H od da db (by rw [za]; omega) (by rw [zb]; omega) sa sb h0 hl fun R g' hR => fin R g' hR)
  · rw [if_neg c3]
    exact wpS_bind (wpS_mhi H od da db (by rw [za]; omega) (by rw [zb]; omega) sa sb h0 hl fun R g' hR => fin R g' hR)
end
section
variable {L : Keyed → Keyed → Bool}
def Up (L : Keyed → Keyed → Bool) (a : Array Keyed) (s e : Nat) : Prop := ∀ i, s < i → i < e → L (gk a i) (gk a (i - 1)) = false
def Dn (L : Keyed → Keyed → Bool) (a : Array Keyed) (s e : Nat) : Prop := ∀ i, s < i → i < e → L (gk a (i - 1)) (gk a i) = false
theorem Up.go (o : Od L) {a : Array Keyed} {s e : Nat} (h : Up L a s e) : ∀ (d p : Nat), s ≤ p → p + d < e → L (gk a (p + d)) (gk a p) = false
  | 0, p, _, _ => o.rf _
  | d + 1, p, h1, h2 => o.tr (h.go o d p h1 (by omega)) (h (p + d + 1) (by omega) h2)
theorem Up.son (o : Od L) {a : Array Keyed} {s e : Nat} (h : Up L a s e) : Son L a s e := fun p q h1 h2 h3 => by
  have := h.go o (q - p) p h1 (by omega)
  rw [show p + (q - p) = q by omega] at this
  exact this
theorem Son.up {a : Array Keyed} {s e : Nat} (h : Son L a s e) : Up L a s e := fun i h1 h2 => h _ _ (by omega) (by omega) h2
def Alk (L : Keyed → Keyed → Bool) (a b : Keyed) : Prop := L a b = false ∧ L b a = false
def Pw (L : Keyed → Keyed → Bool) (a b : Array Keyed) : Prop := ∀ q, Alk L (gk a q) (gk b q)
def Flat (L : Keyed → Keyed → Bool) (a : Array Keyed) (s e : Nat) : Prop := ∀ p q, s ≤ p → p < e → s ≤ q → q < e → L (gk a p) (gk a q) = false
theorem Pw.rf (o : Od L) (a : Array Keyed) : Pw L a a := fun q => ⟨o.rf _, o.rf _⟩
theorem Pw.mv (o : Od L) {a b : Array Keyed} (h : Pw L a b) {p q : Nat} (f : L (gk a p) (gk a q) = false) : L (gk b p) (gk b q) = false := o.tr (o.tr (h q).1 f) (h p).2
theorem Pw.dn (o : Od L) {a b : Array Keyed} (h : Pw L a b) {s e : Nat} (d : Dn L a s e) : Dn L b s e := fun i h1 h2 => h.mv o (d i h1 h2)
def rv (a : Array Keyed) (i j : Nat) : Array Keyed := mirror a i j ((j - i) / 2)
theorem gk_rv {a : Array Keyed} {i j : Nat} (h : j ≤ a.size) (k : Nat) : gk (rv a i j) k = if i ≤ k ∧ k < j then gk a (i + j - 1 - k) else gk a k := by
  have e := getElem?_mirror_all (i := i) h k
  by_cases c : i ≤ k ∧ k < j
  · rw [if_pos c] at e ⊢; exact gk_of e
  · rw [if_neg c] at e ⊢; exact gk_of e
theorem Flat.pw (o : Od L) {a : Array Keyed} {s e : Nat} (h : Flat L a s e) (hz : e ≤ a.size) : Pw L a (rv a s e) := fun q => by
  rw [gk_rv hz]
  by_cases c : s ≤ q ∧ q < e
  · rw [if_pos c]; exact ⟨h _ _ c.1 c.2 (by omega) (by omega), h _ _ (by omega) (by omega) c.1 c.2⟩
  · rw [if_neg c]; exact ⟨o.rf _, o.rf _⟩
structure Ch (lo : Nat) (a a' : Array Keyed) : Prop where
  pm : a'.Perm a
  at_ : ∀ q, q < lo → gk a' q = gk a q
theorem Ch.rf (lo : Nat) (a : Array Keyed) : Ch lo a a := ⟨Array.Perm.refl _, fun _ _ => rfl⟩
theorem Ch.tr {lo : Nat} {a b c : Array Keyed} (h : Ch lo a b) (k : Ch lo b c) : Ch lo a c := ⟨k.pm.trans h.pm, fun q hq => (k.at_ q hq).trans (h.at_ q hq)⟩
theorem Ch.sz {lo : Nat} {a b : Array Keyed} (h : Ch lo a b) : b.size = a.size := h.pm.size_eq
theorem ch_rv {lo : Nat} {a : Array Keyed} {i j : Nat} (h : j ≤ a.size) (hi : lo ≤ i) : Ch lo a (rv a i j) := ⟨mirror_perm _ _ _ _, fun q hq => by rw [gk_rv h, if_neg (by omega)]⟩
theorem dn_up {a : Array Keyed} {s e : Nat} (h : e ≤ a.size) (d : Dn L a s e) : Up L (rv a s e) s e := fun i h1 h2 => by
  rw [gk_rv h, gk_rv h, if_pos ⟨by omega, h2⟩, if_pos ⟨by omega, by omega⟩]
  have := d (s + e - 1 - (i - 1)) (by omega) (by omega)
  rw [show s + e - 1 - (i - 1) - 1 = s + e - 1 - i by omega] at this
  exact this
end
section
variable {prog : Program} {w : World} {A : Around} {E : Value → Shared → Prop} {s : Shared} {κ : SortKind} {L : Keyed → Keyed → Bool} {D : Keyed → Prop}
theorem wpS_la (H : Asks prog w A E s κ L D) {ar : Array Keyed} {pe : Array (Nat × Nat × Nat)} {g i j : Nat} {Q : Option Bool → SortSt → Prop} (hD : AllD D ar) (hi : i < ar.size) (hj : j < ar.size)
    (h : Q (some (L (gk ar i) (gk ar j))) (SortSt.mk' κ ar pe g none)) : wpS (model prog w) A E s (ltAt' i j) Q (SortSt.mk' κ ar pe g none) := by
  rw [ltAt'_eq]
  refine wpS_bind (wpS_get ?_)
  exact wpS_bind (wpS_el hi (wpS_bind (wpS_el hj (H _ _ (hD i hi) (hD j hj) _ _ rfl h))))
theorem wpS_rv {ar : Array Keyed} {pe : Array (Nat × Nat × Nat)} {g i j : Nat} {Q : Unit → SortSt → Prop} (h : Q () (SortSt.mk' κ (rv ar i j) pe g none)) : wpS (model prog w) A E s (reverseSlice' i j) Q (SortSt.mk' κ ar pe g none) := by
  rw [reverseSlice'_eq]; exact wpS_modify h
theorem wpS_cnt (H : Asks prog w A E s κ L D) (od : Od L) {ar : Array Keyed} {pe : Array (Nat × Nat × Nat)} {g lo n0 : Nat} {Q : Option Nat → SortSt → Prop} (hD : AllD D ar) (hz : lo + n0 ≤ ar.size) (h1 : 1 ≤ n0)
    (h : ∀ n ar', 1 ≤ n → n ≤ n0 → Ch lo ar ar' → Son L ar' lo (lo + n) → Q (some n) (SortSt.mk' κ ar' pe g none)) : wpS (model prog w) A E s (countRun' lo n0) Q (SortSt.mk' κ ar pe g none) := by
  rw [countRun'_eq]
  dsimp only
  refine wpS_bind (wpS_mono (wpS_forRange (I := fun x c st => st = SortSt.mk' κ ar pe g none ∧ c = (none, x) ∧ Up L ar lo (lo + x))
    (Q := fun c st => st = SortSt.mk' κ ar pe g none ∧ ∃ n, c = (none, n) ∧ 1 ≤ n ∧ n ≤ n0 ∧ Up L ar lo (lo + n) ∧ (n < n0 → L (gk ar (lo + n)) (gk ar (lo + n - 1)) = true)) ?_ ?_ ⟨rfl, rfl, fun i q1 q2 => by omega⟩) ?_)
  · rintro x c st x1 x2 ⟨rfl, rfl, u⟩
    dsimp only
    refine wpS_bind (wpS_la H hD (by omega) (by omega) ?_)
    dsimp only
    cases b : L (gk ar (lo + x)) (gk ar (lo + x - 1)) with
    | true => rw [if_pos rfl]; exact wpS_pure ⟨rfl, x, rfl, x1, by omega, u, fun _ => b⟩
    | false =>
      rw [if_neg (by decide)]
      refine wpS_pure ⟨rfl, rfl, fun i q1 q2 => ?_⟩
      by_cases c : i = lo + x
      · subst c; exact b
      · exact u i q1 (by omega)
  · rintro c st ⟨rfl, rfl, u⟩
    rw [show max 1 n0 = n0 by omega] at u ⊢
    exact ⟨rfl, n0, rfl, h1, Nat.le_refl _, u, fun q => by omega⟩
  rintro c st ⟨rfl, n, rfl, n1, n2, u, nx⟩
  dsimp only
  by_cases c1 : (n == n0) = true
  · rw [if_pos c1]
    exact wpS_pure (h n ar n1 n2 (Ch.rf _ _) (u.son od))
  rw [if_neg c1]
  have c1' : ¬ n = n0 := fun e => c1 (by rw [e]; exact beq_self_eq_true _)
  have nx' := nx (by omega)
  clear c1 nx
  have dn1 : ∀ a', Pw L ar a' → Flat L ar lo (lo + n) → Dn L a' lo (lo + (n + 1)) := fun a' hp hf i q1 q2 => by
    refine hp.mv od ?_
    by_cases c : i = lo + n
    · subst c; exact od.asy _ _ nx'
    · exact hf _ _ (by omega) (by omega) (by omega) (by omega)
  have mid : ∃ ar', Ch lo ar ar' ∧ Dn L ar' lo (lo + (n + 1)) ∧ ar' = (if n > 1 then rv ar lo (lo + n) else ar) ∨ (n > 1 ∧ L (gk ar lo) (gk ar (lo + n - 1)) = true) := by
    by_cases c2 : n > 1
    · cases b : L (gk ar lo) (gk ar (lo + n - 1)) with
      | true => exact ⟨ar, .inr ⟨c2, rfl⟩⟩
      | false =>
        have fl : Flat L ar lo (lo + n) := fun p q p1 p2 q1 q2 => od.tr (od.tr (u.son od q (lo + n - 1) q1 (by omega) (by omega)) b) (u.son od lo p (Nat.le_refl _) p1 p2)
        exact ⟨rv ar lo (lo + n), .inl ⟨ch_rv (by omega) (Nat.le_refl _), dn1 _ (fl.pw od (by omega)) fl, by rw [if_pos c2]⟩⟩
    · refine ⟨ar, .inl ⟨Ch.rf _ _, dn1 _ (Pw.rf od _) fun p q p1 p2 q1 q2 => ?_, by rw [if_neg c2]⟩⟩
      rw [show p = q by omega]; exact od.rf _
  by_cases c2 : n > 1
  all_goals first | rw [if_pos c2] | rw [if_neg c2]
  all_goals first
    | (refine wpS_bind (wpS_la H hD (by omega) (by omega) ?_)
       dsimp only
       by_cases b : L (gk ar lo) (gk ar (lo + n - 1)) = true
       · rw [if_pos b]; exact wpS_pure (h n ar n1 n2 (Ch.rf _ _) (u.son od))
       rw [if_neg b]
       refine wpS_bind (wpS_rv ?_)
       have dn2 : Ch lo ar (rv ar lo (lo + n)) ∧ Dn L (rv ar lo (lo + n)) lo (lo + (n + 1)) := by
         obtain ⟨a', ⟨x1, x2, x3⟩ | ⟨_, x⟩⟩ := mid
         · rw [if_pos c2] at x3; subst x3; exact ⟨x1, x2⟩
         · exact absurd x b
       generalize rv ar lo (lo + n) = ar2 at dn2 ⊢)
    | (have dn2 : Ch lo ar ar ∧ Dn L ar lo (lo + (n + 1)) := by
         obtain ⟨a', ⟨x1, x2, x3⟩ | ⟨x, _⟩⟩ := mid
         · rw [if_neg c2] at x3; subst x3; exact ⟨x1, x2⟩
         · exact absurd x c2
       have e2 : ∃ ar2, ar2 = ar := ⟨ar, rfl⟩
       obtain ⟨ar2, e2⟩ := e2
       rw [show SortSt.mk' κ ar pe g none = SortSt.mk' κ ar2 pe g none by rw [e2]]
       replace dn2 : Ch lo ar ar2 ∧ Dn L ar2 lo (lo + (n + 1)) := by rw [e2]; exact dn2)
  all_goals
    clear mid dn1 nx' u
    obtain ⟨ch, dn⟩ := dn2
    refine wpS_bind (wpS_ru ?_)
    refine wpS_bind (wpS_mono (wpS_forRange (I := fun x c st => ∃ nq ar', c = (none, x, nq) ∧ st = SortSt.mk' κ ar' pe g none ∧ Ch lo ar ar' ∧ Dn L ar' lo (lo + x) ∧ Flat L ar' (lo + x - (nq + 1)) (lo + x) ∧ nq + 1 ≤ x)
      (Q := fun c st => ∃ x nq ar', c = (none, x, nq) ∧ st = SortSt.mk' κ ar' pe g none ∧ Ch lo ar ar' ∧ Dn L ar' lo (lo + x) ∧ Flat L ar' (lo + x - (nq + 1)) (lo + x) ∧ nq + 1 ≤ x ∧ x ≤ n0) ?_ ?_ ⟨0, ar2, rfl, rfl, ch, dn, fun p q p1 p2 q1 q2 => ?_, by omega⟩) ?_)
    · rintro x c st x1 x2 ⟨nq, a3, rfl, rfl, ch3, dn3, fl3, le3⟩
      have z3 := ch3.sz
      have hD3 := hD.perm ch3.pm
      dsimp only
      refine wpS_bind (wpS_la H hD3 (by omega) (by omega) ?_)
      dsimp only
      cases b : L (gk a3 (lo + x)) (gk a3 (lo + x - 1)) with
      | true =>
        rw [if_pos rfl]
        have nxt : ∀ a4, Pw L a3 a4 → Dn L a4 lo (lo + (x + 1)) := fun a4 hp i q1 q2 => by
          by_cases c : i = lo + x
          · subst c; exact hp.mv od (od.asy _ _ b)
          · exact hp.dn od dn3 i q1 (by omega)
        have fl1 : ∀ a4 : Array Keyed, Flat L a4 (lo + (x + 1) - (0 + 1)) (lo + (x + 1)) := fun a4 p q p1 p2 q1 q2 => by
          rw [show p = q by omega]; exact od.rf _
        by_cases c4 : nq > 0
        · rw [if_pos c4]
          exact wpS_bind (wpS_rv (wpS_pure ⟨0, _, rfl, rfl, ch3.tr (ch_rv (by omega) (by omega)), nxt _ (fl3.pw od (by omega)), fl1 _, by omega⟩))
        · rw [if_neg c4]
          exact wpS_pure ⟨0, _, rfl, rfl, ch3, nxt _ (Pw.rf od _), fl1 _, by omega⟩
      | false =>
        rw [if_neg (by decide)]
        refine wpS_bind (wpS_la H hD3 (by omega) (by omega) ?_)
        dsimp only
        cases b2 : L (gk a3 (lo + x - 1)) (gk a3 (lo + x)) with
        | true => rw [if_pos rfl]; exact wpS_pure ⟨x, nq, a3, rfl, rfl, ch3, dn3, fl3, le3, by omega⟩
        | false =>
          rw [if_neg (by decide)]
          refine wpS_pure ⟨nq + 1, a3, rfl, rfl, ch3, fun i q1 q2 => ?_, fun p q p1 p2 q1 q2 => ?_, by omega⟩
          · by_cases c : i = lo + x
            · subst c; exact b2
            · exact dn3 i q1 (by omega)
          · by_cases cp : p = lo + x
            · subst cp
              by_cases cq : q = lo + x
              · subst cq; exact od.rf _
              · exact od.tr (fl3 (lo + x - 1) q (by omega) (by omega) (by omega) (by omega)) b
            · by_cases cq : q = lo + x
              · subst cq; exact od.tr b2 (fl3 p (lo + x - 1) (by omega) (by omega) (by omega) (by omega))
              · exact fl3 p q (by omega) (by omega) (by omega) (by omega)
    · rintro c st ⟨nq, a3, rfl, rfl, ch3, dn3, fl3, le3⟩
      rw [show max (n + 1) n0 = n0 by omega] at dn3 fl3 le3 ⊢
      exact ⟨n0, nq, a3, rfl, rfl, ch3, dn3, fl3, le3, Nat.le_refl _⟩
    · rw [show p = q by omega]; exact od.rf _
    rintro c st ⟨x, nq, a3, rfl, rfl, ch3, dn3, fl3, le3, x0⟩
    have z3 := ch3.sz
    dsimp only
    by_cases c5 : nq > 0
    all_goals first | rw [if_pos c5] | rw [if_neg c5]
    all_goals first
      | (have c6 : nq > 0 := c5
         refine wpS_bind (wpS_rv ?_)
         replace dn3 := (fl3.pw od (by omega)).dn od dn3
         replace ch3 := ch3.tr (ch_rv (lo := lo) (i := lo + x - (nq + 1)) (j := lo + x) (by omega) (by omega))
         clear fl3 z3
         generalize rv a3 (lo + x - (nq + 1)) (lo + x) = a4 at dn3 ch3 ⊢
         have z4 := ch3.sz)
      | (clear fl3 z3
         generalize a3 = a4 at dn3 ch3 ⊢
         have z4 := ch3.sz)
    all_goals
      refine wpS_bind (wpS_rv ?_)
      have u5 := dn_up (by omega) dn3
      have ch5 := ch3.tr (ch_rv (lo := lo) (i := lo) (j := lo + x) (by omega) (Nat.le_refl _))
      clear dn3 ch3
      generalize rv a4 lo (lo + x) = a5 at u5 ch5 ⊢
      have z5 := ch5.sz
      have hD5 := hD.perm ch5.pm
      refine wpS_bind (wpS_mono (wpS_forRange (I := fun y c st => st = SortSt.mk' κ a5 pe g none ∧ c = (none, y) ∧ Up L a5 lo (lo + y))
        (Q := fun c st => st = SortSt.mk' κ a5 pe g none ∧ ∃ n, c = (none, n) ∧ 1 ≤ n ∧ n ≤ n0 ∧ Up L a5 lo (lo + n)) ?_ ?_ ⟨rfl, rfl, u5⟩) ?_)
      · rintro y c st y1 y2 ⟨rfl, rfl, u⟩
        dsimp only
        refine wpS_bind (wpS_la H hD5 (by omega) (by omega) ?_)
        dsimp only
        cases b : L (gk a5 (lo + y)) (gk a5 (lo + y - 1)) with
        | true => rw [if_pos rfl]; exact wpS_pure ⟨rfl, y, rfl, by omega, by omega, u⟩
        | false =>
          rw [if_neg (by decide)]
          refine wpS_pure ⟨rfl, rfl, fun i q1 q2 => ?_⟩
          by_cases c : i = lo + y
          · subst c; exact b
          · exact u i q1 (by omega)
      · rintro c st ⟨rfl, rfl, u⟩
        rw [show max x n0 = n0 by omega] at u ⊢
        exact ⟨rfl, n0, rfl, h1, Nat.le_refl _, u⟩
      · rintro c st ⟨rfl, n, rfl, n1, n2, u⟩
        exact wpS_pure (h n a5 n1 n2 ch5 (u.son od))
end
section
variable {prog : Program} {w : World} {A : Around} {E : Value → Shared → Prop} {s : Shared} {κ : SortKind} {L : Keyed → Keyed → Bool} {D : Keyed → Prop}
theorem gk_bub {a : Array Keyed} {s d : Nat} (hs : s < a.size) (hd : d ≤ s) (k : Nat) : gk (bubble a s d) k = if k = s - d then gk a s else if s - d < k ∧ k ≤ s then gk a (k - 1) else gk a k := by
  have e := getElem?_bubble hs d hd k
  by_cases h1 : k = s - d
  · rw [if_pos h1] at e ⊢; exact gk_of e
  · rw [if_neg h1] at e ⊢
    by_cases h2 : s - d < k ∧ k ≤ s
    · rw [if_pos h2] at e ⊢; exact gk_of e
    · rw [if_neg h2] at e ⊢; exact gk_of e
theorem wpS_bin (H : Asks prog w A E s κ L D) (od : Od L) {ar : Array Keyed} {pe : Array (Nat × Nat × Nat)} {g lo n ok : Nat} {Q : Bool → SortSt → Prop} (hD : AllD D ar) (hz : lo + n ≤ ar.size) (h1 : 1 ≤ ok) (h2 : ok ≤ n) (hs : Son L ar lo (lo + ok))
    (h : ∀ ar', Ch lo ar ar' → Son L ar' lo (lo + n) → Q true (SortSt.mk' κ ar' pe g none)) : wpS (model prog w) A E s (binarySort' lo n ok) Q (SortSt.mk' κ ar pe g none) := by
  rw [binarySort'_eq]
  dsimp only
  rw [show max ok 1 = ok by omega]
  refine wpS_bind (wpS_mono (wpS_forRange (I := fun k c st => ∃ ar', c = (none, ()) ∧ st = SortSt.mk' κ ar' pe g none ∧ Ch lo ar ar' ∧ Son L ar' lo (lo + k))
    (Q := fun c st => ∃ ar', c = (none, ()) ∧ st = SortSt.mk' κ ar' pe g none ∧ Ch lo ar ar' ∧ Son L ar' lo (lo + n)) ?_ ?_ ⟨ar, rfl, rfl, Ch.rf _ _, hs⟩) ?_)
  · rintro k c st k1 k2 ⟨a1, rfl, rfl, ch, so⟩
    have z1 := ch.sz
    have hD1 := hD.perm ch.pm
    refine wpS_bind (wpS_mono (wpS_forRange (I := fun x c st => st = SortSt.mk' κ a1 pe g none ∧ ∃ l r, c = (none, l, r) ∧ l ≤ r ∧ r ≤ k ∧ r - l ≤ k - x ∧ (∀ i, i < l → L (gk a1 (lo + k)) (gk a1 (lo + i)) = false) ∧ (∀ i, r ≤ i → i < k → L (gk a1 (lo + k)) (gk a1 (lo + i)) = true))
      (Q := fun c st => st = SortSt.mk' κ a1 pe g none ∧ ∃ l r, c = (none, l, r) ∧ l ≤ k ∧ (∀ i, i < l → L (gk a1 (lo + k)) (gk a1 (lo + i)) = false) ∧ (∀ i, l ≤ i → i < k → L (gk a1 (lo + k)) (gk a1 (lo + i)) = true)) ?_ ?_ ⟨rfl, 0, k, rfl, by omega, by omega, by omega, fun i hi => by omega, fun i q1 q2 => by omega⟩) ?_)
    · rintro x c st _ hx ⟨rfl, l, r, rfl, lr, rk, rl, f1, f2⟩
      dsimp only
      by_cases c1 : l ≥ r
      · rw [if_pos c1]
        have e : l = r := by omega
        subst e
        exact wpS_pure ⟨rfl, _, _, rfl, rk, f1, f2⟩
      · rw [if_neg c1]
        refine wpS_bind (wpS_la H hD1 (by omega) (by omega) ?_)
        dsimp only
        cases b : L (gk a1 (lo + k)) (gk a1 (lo + (l + r) / 2)) with
        | true =>
          rw [if_pos rfl]
          refine wpS_pure ⟨rfl, _, _, rfl, by omega, by omega, by omega, f1, fun i q1 q2 => ?_⟩
          rcases od.neg _ (gk a1 (lo + i)) _ b with f | f
          · exact f
          · rw [so (lo + (l + r) / 2) (lo + i) (by omega) (by omega) (by omega)] at f; cases f
        | false =>
          rw [if_neg (by decide)]
          exact wpS_pure ⟨rfl, _, _, rfl, by omega, by omega, by omega, fun i q1 => od.tr (so (lo + i) (lo + (l + r) / 2) (by omega) (by omega) (by omega)) b, f2⟩
    · rintro c st ⟨rfl, l, r, rfl, lr, rk, rl, f1, f2⟩
      have e : l = r := by omega
      subst e
      exact ⟨rfl, _, _, rfl, rk, f1, f2⟩
    · rintro c st ⟨rfl, l, r, rfl, lk, f1, f2⟩
      dsimp only
      rw [moveDown'_eq]
      refine wpS_bind (wpS_modify (wpS_pure ⟨_, rfl, rfl, ⟨(bubble_perm _ _ _).trans ch.pm, fun q hq => ?_⟩, ?_⟩))
      · show gk (bubble a1 (lo + k) (lo + k - (lo + l))) q = _
        rw [gk_bub (by omega) (by omega), if_neg (by omega), if_neg (by omega)]
        exact ch.at_ q hq
      · refine Up.son od fun i q1 q2 => ?_
        show L (gk (bubble a1 (lo + k) (lo + k - (lo + l))) i) (gk (bubble a1 (lo + k) (lo + k - (lo + l))) (i - 1)) = false
        rw [gk_bub (by omega) (by omega), gk_bub (by omega) (by omega), show lo + k - (lo + k - (lo + l)) = lo + l by omega]
        by_cases c1 : i = lo + l
        · rw [if_pos c1, if_neg (by omega), if_neg (by omega), show i - 1 = lo + (i - 1 - lo) by omega]
          exact f1 _ (by omega)
        · rw [if_neg c1]
          by_cases c2 : lo + l < i ∧ i ≤ lo + k
          · rw [if_pos c2]
            by_cases c3 : i - 1 = lo + l
            · rw [if_pos c3, show i - 1 = lo + (i - 1 - lo) by omega]
              exact od.asy _ _ (f2 _ (by omega) (by omega))
            · rw [if_neg c3, if_pos (by omega)]
              exact so _ _ (by omega) (by omega) (by omega)
          · rw [if_neg c2, if_neg (by omega), if_neg (by omega)]
            exact so _ _ (by omega) (by omega) (by omega)
  · rintro c st ⟨a1, rfl, rfl, ch, so⟩
    rw [show max ok n = n by omega] at so
    exact ⟨a1, rfl, rfl, ch, so⟩
  · rintro c st ⟨a1, rfl, rfl, ch, so⟩
    exact wpS_pure (h a1 ch so)
theorem runs_snoc {a : Array Keyed} {l : List (Nat × Nat × Nat)} {lo n z : Nat} (h : Runs L a l 0 lo) (hn : 1 ≤ n) (hs : Son L a lo (lo + n)) : Runs L a (l ++ [(lo, n, z)]) 0 (lo + n) :=
  Runs.app.mpr ⟨lo, h, rfl, hn, hs, rfl⟩
theorem runs_map {a : Array Keyed} : ∀ {l l' : List (Nat × Nat × Nat)} {s e : Nat}, l'.map (fun x => (x.1, x.2.1)) = l.map (fun x => (x.1, x.2.1)) → Runs L a l s e → Runs L a l' s e
  | [], [], s, e, _, h => h
  | [], _ :: _, s, e, q, h => by cases q
  | _ :: _, [], s, e, q, h => by cases q
  | x :: l, y :: l', s, e, q, h => by
    simp only [List.map_cons, List.cons.injEq, Prod.mk.injEq] at q
    obtain ⟨⟨q1, q2⟩, q3⟩ := q
    refine ⟨q1.trans h.1, by rw [q2]; exact h.2.1, by rw [q2]; exact h.2.2.1, ?_⟩
    rw [q2]
    exact runs_map q3 h.2.2.2
theorem mod_map {p : Array (Nat × Nat × Nat)} {i pw : Nat} : (p.modify i fun x => (x.1, x.2.1, pw)).toList.map (fun x => (x.1, x.2.1)) = p.toList.map (fun x => (x.1, x.2.1)) := by
  rw [Array.toList_modify]
  generalize p.toList = l
  induction l generalizing i with
  | nil => cases i <;> rfl
  | cons x l ih =>
    cases i with
    | zero => rfl
    | succ i => rw [List.modify_succ_cons, List.map_cons, List.map_cons, ih]
theorem wpS_runs (H : Asks prog w A E s κ L D) (od : Od L) {ar : Array Keyed} {g : Nat} {Q : Unit → SortSt → Prop} (hD : AllD D ar) (h1 : 1 ≤ ar.size)
    (h : ∀ ar' pe g', ar'.Perm ar → Son L ar' 0 ar.size → Q () (SortSt.mk' κ ar' pe g' none)) : wpS (model prog w) A E s sortRuns' Q (SortSt.mk' κ ar #[] g none) := by
  rw [sortRuns'_eq]
  refine wpS_bind (wpS_get ?_)
  dsimp only
  have ea : arrOf (SortSt.mk' κ ar #[] g none) = ar := rfl
  simp only [ea]
  refine wpS_bind (wpS_mono (wpS_forRange (I := fun x c st => ∃ lo a1 pe g, c = (none, lo) ∧ st = SortSt.mk' κ a1 pe g none ∧ a1.Perm ar ∧ Runs L a1 pe.toList 0 lo ∧ lo ≤ ar.size ∧ (x ≤ lo ∨ lo = ar.size))
    (Q := fun c st => ∃ a1 pe g, c = (none, ar.size) ∧ st = SortSt.mk' κ a1 pe g none ∧ a1.Perm ar ∧ Runs L a1 pe.toList 0 ar.size) ?_ ?_ ⟨0, ar, #[], g, rfl, rfl, Array.Perm.refl _, rfl, by omega, .inl (by omega)⟩) ?_)
  rotate_left
  · rintro c st ⟨lo, a1, pe, g, rfl, rfl, pm, rn, le, x⟩
    have e : lo = ar.size := by
      have : max 0 ar.size = ar.size := by omega
      show lo = ar.size
      rcases x with x | x
      · have x' : max 0 ar.size ≤ lo := x
        omega
      · exact x
    subst e
    exact ⟨a1, pe, g, rfl, rfl, pm, rn⟩
  · rintro c st ⟨a1, pe, g, rfl, rfl, pm, rn⟩
    dsimp only
    have l0 := rn.le
    rw [Array.length_toList] at l0
    refine wpS_bind (wpS_mono (wpS_forRange (I := fun x c st => ∃ a1 pe g, c = (none, ()) ∧ st = SortSt.mk' κ a1 pe g none ∧ a1.Perm ar ∧ Runs L a1 pe.toList 0 ar.size ∧ (pe.size + x ≤ ar.size ∨ pe.size ≤ 1))
      (Q := fun c st => ∃ a1 pe g, c = (none, ()) ∧ st = SortSt.mk' κ a1 pe g none ∧ a1.Perm ar ∧ Runs L a1 pe.toList 0 ar.size ∧ pe.size ≤ 1) ?_ ?_ ⟨a1, pe, g, rfl, rfl, pm, rn, .inl (by omega)⟩) ?_)
    · clear pm rn l0
      rintro x c st _ hx ⟨a1, pe, g, rfl, rfl, pm, rn, le⟩
      refine wpS_bind (wpS_get ?_)
      by_cases c1 : pe.size ≤ 1
      · rw [if_pos c1]
        exact wpS_pure ⟨a1, pe, g, rfl, rfl, pm, rn, c1⟩
      · rw [if_neg c1]
        refine wpS_bind (wpS_mat H od ?_ rn (by rw [pm.size_eq]; omega) (hD.perm pm) fun a2 p2 g2 q1 q2 q3 q4 => ?_)
        · have q : ∀ (c : Prop) [Decidable c], (if c then pe.size - 2 - 1 else pe.size - 2) + 1 < pe.size := fun c _ => by split <;> omega
          exact q _
        · rw [if_neg (by decide)]
          exact wpS_pure ⟨a2, p2, g2, rfl, rfl, q1.trans pm, q2, by omega⟩
    · rintro c st ⟨a1, pe, g, rfl, rfl, pm, rn, le⟩
      refine ⟨a1, pe, g, rfl, rfl, pm, rn, ?_⟩
      rcases le with le | le
      · have le' : pe.size + max 0 ar.size ≤ ar.size := le
        omega
      · exact le
    · rintro c st ⟨a2, p2, g2, rfl, rfl, pm2, rn2, le2⟩
      refine wpS_pure (h a2 p2 g2 pm2 ?_)
      rw [← Array.length_toList] at le2
      generalize p2.toList = l at rn2 le2
      match l, rn2, le2 with
      | [], rn2, _ => have : 0 = ar.size := rn2; omega
      | [x], rn2, _ =>
        obtain ⟨_, _, r3, r4⟩ := rn2
        have r4' : 0 + x.2.1 = ar.size := r4
        rw [r4'] at r3
        exact r3
  rintro x c st _ hx ⟨lo, a1, pe, g, rfl, rfl, pm, rn, le, xl⟩
  have z1 := pm.size_eq
  dsimp only
  by_cases c1 : lo ≥ ar.size
  · rw [if_pos c1]
    have e : lo = ar.size := by omega
    subst e
    exact wpS_pure ⟨a1, pe, g, rfl, rfl, pm, rn⟩
  rw [if_neg c1]
  refine wpS_bind (wpS_cnt H od (hD.perm pm) (by omega) (by omega) fun n a2 n1 n2 ch so => ?_)
  dsimp only
  by_cases c2 : n < minRun' ar.size ar.size 0
  all_goals first | rw [if_pos c2] | rw [if_neg c2]
  all_goals first
    | (have c3 : n < minRun' ar.size ar.size 0 := c2
       refine wpS_bind (wpS_ru ?_)
       have z2 := ch.sz
       refine wpS_bind (wpS_bin H od ((hD.perm pm).perm ch.pm) (by omega) n1 (by omega) so fun a3 ch3 so3 => ?_)
       rw [if_neg (by decide)]
       have m1 : 1 ≤ min (ar.size - lo) (minRun' ar.size ar.size 0) := by omega
       have m2 : lo + min (ar.size - lo) (minRun' ar.size ar.size 0) ≤ ar.size := by omega
       replace ch := ch.tr ch3
       clear so c2 c3 n2 n1 z2
       generalize min (ar.size - lo) (minRun' ar.size ar.size 0) = n3 at m1 m2 so3 ⊢)
    | (have m1 := n1
       have m2 : lo + n ≤ ar.size := by omega
       clear n1 n2 c2
       have so3 := so
       clear so
       generalize a2 = a3 at ch so3 ⊢
       generalize n = n3 at m1 m2 so3 ⊢)
  all_goals
    have z3 := ch.sz
    have pm3 := ch.pm.trans pm
    have rn3 : Runs L a3 pe.toList 0 lo := rn.same fun q _ hq => ch.at_ q hq
    refine wpS_bind (wpS_get ?_)
    show wpS _ _ _ _ (match pe.back? with | some (s1, n1, _) => _ | _ => _) _ _
    cases eb : pe.back? with
    | none =>
      dsimp only
      refine wpS_bind (wpS_modify (wpS_pure ⟨_, a3, _, g, rfl, rfl, pm3, ?_, m2, .inl (by omega)⟩))
      show Runs L a3 (pe.push (lo, n3, 0)).toList 0 (lo + n3)
      rw [Array.toList_push]
      exact runs_snoc rn3 m1 so3
    | some b =>
      obtain ⟨s1, b1, y1⟩ := b
      dsimp only
      refine wpS_bind (wpS_mono (wpS_forRange (I := fun x c st => ∃ a4 pe g, c = (none, ()) ∧ st = SortSt.mk' κ a4 pe g none ∧ a4.Perm ar ∧ Runs L a4 pe.toList 0 lo ∧ Son L a4 lo (lo + n3))
        (Q := fun c st => ∃ a4 pe g, c = (none, ()) ∧ st = SortSt.mk' κ a4 pe g none ∧ a4.Perm ar ∧ Runs L a4 pe.toList 0 lo ∧ Son L a4 lo (lo + n3)) ?_ ?_ ⟨a3, pe, g, rfl, rfl, pm3, rn3, so3⟩) ?_)
      · rintro x c st _ hx ⟨a4, pe, g, rfl, rfl, pm4, rn4, so4⟩
        have z4 := pm4.size_eq
        refine wpS_bind (wpS_get ?_)
        show wpS _ _ _ _ (match if pe.size > 1 then pe[pe.size - 2]? else none with | some (_, _, older) => _ | _ => _) _ _
        by_cases d1 : pe.size > 1
        · rw [if_pos d1]
          cases ee : pe[pe.size - 2]? with
          | none => dsimp only; exact wpS_pure ⟨a4, pe, g, rfl, rfl, pm4, rn4, so4⟩
          | some v =>
            obtain ⟨v1, v2, v3⟩ := v
            dsimp only
            split
            · exact wpS_pure ⟨a4, pe, g, rfl, rfl, pm4, rn4, so4⟩
            · refine wpS_bind (wpS_mat H od (by show pe.size - 2 + 1 < pe.size; omega) rn4 (by omega) (hD.perm pm4) fun a5 p5 g5 q1 q2 q3 q4 => ?_)
              rw [if_neg (by decide)]
              exact wpS_pure ⟨a5, p5, g5, rfl, rfl, q1.trans pm4, q2, so4.same fun q r1 r2 => q4 q r1⟩
        · rw [if_neg d1]
          dsimp only
          exact wpS_pure ⟨a4, pe, g, rfl, rfl, pm4, rn4, so4⟩
      · rintro c st h; exact h
      · rintro c st ⟨a4, pe4, g4, rfl, rfl, pm4, rn4, so4⟩
        dsimp only
        refine wpS_bind (wpS_modify (wpS_bind (wpS_modify (wpS_pure ⟨_, a4, _, g4, rfl, rfl, pm4, ?_, m2, .inl (by omega)⟩))))
        show Runs L a4 ((pe4.modify (pe4.size - 1) _).push (lo, n3, 0)).toList 0 (lo + n3)
        rw [Array.toList_push]
        exact runs_snoc (runs_map mod_map rn4) m1 so4
end
end Tim
namespace Tim
open PySem PyProof.Rows
section
variable {prog : Program} {w : World} {A : Around} {E : Value → Shared → Prop} {s : Shared} {κ : SortKind} {L : Keyed → Keyed → Bool} {D : Keyed → Prop}
theorem sort_any (od : Od L) {a : Addr} {vs : List Value} {n : Nat} {P : Fin → Shared → Prop} (ho : s.heap.get? a = some (seqObj "list" vs.toArray n)) (h2 : 2 ≤ vs.length) (hz : vs.length ≤ sizeLine)
    (hk : ∀ (h' : Heap) (C : SortKind → Shared → Prop), (∀ b o, b ≠ a → s.heap.get? b = some o → h'.get? b = some o) → C κ { s with heap := h' } → wpAny (model prog w) A (keyKind' vs.toArray) C E { s with heap := h' })
    (H : ∀ h' : Heap, (∀ b o, b ≠ a → s.heap.get? b = some o → h'.get? b = some o) → Asks prog w A E { s with heap := h' } κ L D) (hD : AllD D (pairsOf vs))
    (h : ∀ ar : Array Keyed, ar.Perm (pairsOf vs) → Son L ar 0 (pairsOf vs).size → P (.done (.ret .none)) { s with heap := sortedHeap s.heap a vs (ar.map (·.2)) }) :
    wpAny (model prog w) A (Builtin.«list.sort» ⟨[.ref a], []⟩) P E s := by
  rw [list_sort_plain]
  have lt := Heap.lt_size ho
  have zl : vs.toArray.size = vs.length := by simp
  refine wpAny_bind (listItems_at ho rfl ?_)
  refine wpAny_bind (listUpdate_at ho rfl ?_ (by omega) (Nat.zero_le _))
  have hu := get?_update_seq ho (fun _ => #[])
  generalize ec : (if ((#[] : Array Value).size == vs.toArray.size) = true then n else n + 1) = c at hu
  refine wpAny_bind (seqEpoch_at hu rfl ?_)
  refine wpAny_bind (wpAny_newTuple ?_ (by rw [Array.length_toList, zl]; exact hz))
  refine wpAny_bind (wpAny_newList ?_ (Nat.zero_le _))
  refine wpAny_holding ?_
  generalize eh : ((s.heap.update a (Obj.mapSeq fun _ => #[])).push (seqObj "tuple" vs.toArray 0)).push (seqObj "list" #[] 0) = hh
  have keep : ∀ b o, b ≠ a → s.heap.get? b = some o → hh.get? b = some o := fun b o ne e => by
    rw [← eh]
    exact Heap.get?_push_of_some _ (Heap.get?_push_of_some _ (by rw [Heap.get?_update_other _ _ (fun q => ne q.symm)]; exact e))
  have at_ : hh.get? a = some (seqObj "list" #[] c) := by
    rw [← eh]
    exact Heap.get?_push_of_some _ (Heap.get?_push_of_some _ hu)
  have eh' : ∀ out : Array Value, hh.update a (Obj.mapSeq fun _ => out) = sortedHeap s.heap a vs out := fun out => by rw [← eh]; rfl
  show wpAny (model prog w) A _ P E { s with heap := hh }
  dsimp only
  rw [if_neg (by omega), if_neg (by omega)]
  refine wpAny_bind (hk hh _ keep ?_)
  have zp := pairsOf_size vs
  refine wpAny_bind (wpAny_mono (wpS_runs (H hh keep) od (ar := pairsOf vs) (g := 7) (Q := fun _ st => ∃ ar pe g', st = SortSt.mk' κ ar pe g' none ∧ ar.Perm (pairsOf vs) ∧ Son L ar 0 (pairsOf vs).size) hD (by omega) fun ar pe g' q1 q2 => ⟨ar, pe, g', rfl, q1, q2⟩) ?_ fun _ _ e => e)
  rintro ⟨⟨⟩, st⟩ s' ⟨rfl, ar, pe, g', est, q1, q2⟩
  have est' : st = SortSt.mk' κ ar pe g' none := est
  subst est'
  have za := q1.size_eq
  refine wpAny_bind (seqEpoch_at at_ rfl ?_)
  refine wpAny_bind (listUpdate_at at_ rfl ?_ (Nat.zero_le _) (by show (ar.map (·.2)).size ≤ _; rw [Array.size_map, za, zp]; omega))
  show wpAny _ _ (if (c != c) = true then _ else _) P E _
  rw [if_neg (by simp)]
  refine wpAny_pure ?_
  have := h ar q1 q2
  rw [← eh'] at this
  exact this
def ltI (x y : Keyed) : Bool := decide (numOf x.1 < numOf y.1)
theorem od_ltI : Od ltI := ⟨fun a b h => decide_eq_false (by have := of_decide_eq_true h; omega), fun a b c h => by
  have := of_decide_eq_true h
  by_cases q : numOf a.1 < numOf b.1
  · exact .inl (decide_eq_true q)
  · exact .inr (decide_eq_true (by omega))⟩
theorem asks_ltI : Asks prog w A E s oneType' ltI (fun x => ∃ n t, x.1 = .int n t) := fun x y hx hy st Q hk hQ => by
  obtain ⟨n, t, e1⟩ := hx
  obtain ⟨m, u, e2⟩ := hy
  rw [lt'_eq]
  refine wpS_bind (wpS_get ?_)
  rw [hk, keyLt'_oneType, e1, e2]
  have e : ltI x y = decide (n < m) := by unfold ltI; rw [e1, e2]; rfl
  rw [e] at hQ
  exact wpS_bind (wpS_lift (wpAny_attempt (oneLt_int ⟨rfl, wpS_pure hQ⟩)))
theorem K_gk (a : Array Keyed) (i : Nat) : K a i = numOf (gk a i).1 := by
  unfold K gk
  rw [Array.getD_eq_getD_getElem?]
  cases a[i]? <;> rfl
theorem sort_ints {a : Addr} {vs : List Value} {ns : List Int} {n : Nat} {P : Fin → Shared → Prop} (ho : s.heap.get? a = some (seqObj "list" vs.toArray n)) (hI : IntsAre vs ns) (hz : vs.length ≤ sizeLine)
    (h : ∀ (out : Array Value) (ns' : List Int), IntsAre out.toList ns' → ns'.Perm ns → ns'.Pairwise (· ≤ ·) → P (.done (.ret .none)) { s with heap := sortedHeap s.heap a vs out }) :
    wpAny (model prog w) A (Builtin.«list.sort» ⟨[.ref a], []⟩) P E s := by
  by_cases h2 : vs.length < 64
  · exact list_sort_tree ho hI h2 h
  refine sort_any od_ltI ho (by omega) hz (fun h' C _ hC => ?_) (fun h' _ => asks_ltI) (fun p hp => ?_) fun ar q1 q2 => ?_
  · obtain ⟨v, u, r, rfl⟩ : ∃ v u r, vs = v :: u :: r := by
      match vs, h2 with
      | [], h2 => exact absurd (by show 0 < 64; omega) h2
      | [_], h2 => exact absurd (by show 1 < 64; omega) h2
      | v :: u :: r, _ => exact ⟨v, u, r, rfl⟩
    rw [keyKind_ints hI]
    exact wpAny_pure hC
  · exact hI.intKeys _ (gk_mem hp)
  · obtain ⟨ns', b1, b2, b3⟩ := sorted_out (xs := ar) hI q1 fun i j hij hj => by
      show K ar i ≤ K ar j
      rw [K_gk, K_gk]
      have := of_decide_eq_false (q2 i j (Nat.zero_le _) hij hj)
      omega
    exact h _ ns' b1 b2 b3
end
end Tim
set_option maxHeartbeats 4000000
namespace L2
open PySem PySem.W PySem.Spec PyProof.Rows PySem.Calls
theorem call_sortedDB {X : Cx} (hc : X.calm = true) : CallR X (.builtin "sorted") (fun xs H Q => ∃ (d : Addr) (kvs : List (Key × V)) (ns : List Int), xs = [.ref d] ∧ H d = some (.dK kvs) ∧ kvs.map (·.1) = ns.map Sum.inl ∧
    ∀ (l : Addr) (ns' : List Int), H l = none → ns'.Perm ns → ns'.Pairwise (· ≤ ·) → Q (.ref l) (upd H l (.lst (ns'.map V.int)))) := by
  intro pins s σ H xs us Q I rv h
  obtain ⟨d, kvs, ns, rfl, hd, hk, q⟩ := h
  obtain ⟨u, rfl, ru⟩ := rv.one
  cases ru
  obtain ⟨hz, hS, vs, r, m⟩ : kvs.length ≤ sizeLine ∧ (d == sysModules) = false ∧ ∃ vs, KV kvs vs ∧ s.heap.DictOf (mixKind X.prog X.w) d vs := I.hok d _ hd
  obtain ⟨ep, hat⟩ := m.dictAt
  have hkl : kvs.length = vs.length := Paired.length r
  have hnl : kvs.length = ns.length := by have := congrArg List.length hk; simpa using this
  refine call_function_entry kind_sorted plain_sorted entry_sorted (args_sorted1 _) ?_
  unfold Builtin.«sorted»; refine wpAny_bind (m := checkCount "sorted" 1 1 _) (wpAny_pure ?_)
  refine wpAny_bind (keys_in (A := X.A.in1) (kdl_dict (knd := mixKind X.prog X.w) (kvs := vs) (ep := ep) hS) (I.ok.hd hc) hat (by omega) fun h1 tk acc kp hsz hacc => ?_)
  have hal : acc.toList.length = ns.length := by rw [Array.length_toList, hacc.1]; omega
  have hI : IntsAre acc.toList ns := ints_get hal fun j v n hv hn => by
    obtain ⟨k, x, hkx, his⟩ := hacc.2 j v (by rw [← Array.getElem?_toList]; exact hv)
    have hj : j < kvs.length := by have := (List.getElem?_eq_some_iff.mp hn).1; omega
    have hkj : (kvs.map (·.1))[j]? = some (Sum.inl n) := by rw [hk, List.getElem?_map, hn]; rfl
    have hkk : k = Sum.inl n := by
      have p := kv_get r hkx
      rw [hkj] at p
      exact (Option.some.inj p).symm
    subst hkk
    rcases keyIs_shape (k := Sum.inl n) his with ⟨i, t, e1, e2⟩ | ⟨y, t, e1, e2⟩
    · cases e1; exact ⟨t, e2⟩
    · cases e1
  refine wpAny_bind (wpAny_newList ?_ (by omega))
  have hoL : (h1.push (seqObj "list" acc.toList.toArray 0)).get? h1.objs.size = some (seqObj "list" acc.toList.toArray 0) := Heap.get?_push_size _ rfl
  refine wpAny_bind (wpAny_holding (wpAny_call_entry slot_list_sort ⟨_, hoL, rfl⟩ entry_list_sort (Tim.sort_ints (s := { s with heap := h1.push (seqObj "list" acc.toList.toArray 0), toks := tk }) hoL hI (by omega) fun out ns' b1 b2 b3 => ⟨_, rfl, ?_⟩) (args_list_sort _)))
  refine wpAny_pure ⟨_, rfl, ?_⟩
  obtain ⟨ec, hout⟩ := sortedHeap_at (out := out) hoL
  have keep : ∀ b o, s.heap.get? b = some o → (sortedHeap (h1.push (seqObj "list" acc.toList.toArray 0)) h1.objs.size acc.toList out).get? b = some o := fun b o e => by
    have e1 := kp b o e
    have hlt := Heap.lt_size e1
    rw [sortedHeap_old (Nat.ne_of_lt hlt) (by rw [size_push']; exact Nat.lt_succ_of_lt hlt)]
    exact Heap.get?_push_of_some _ e1
  have hln : (ns'.map V.int).length ≤ sizeLine := by rw [List.length_map, b2.length_eq]; omega
  refine ⟨.ref h1.objs.size, _, I.laid (t' := tk) (o := .lst (ns'.map V.int)) keep hsz ⟨hln, out.toList, ec, ints_vals b1, by rw [Array.toArray_toList]; exact hout⟩, rfl, q _ ns' (I.hok.fresh hsz) b2 b3⟩
end L2
set_option maxHeartbeats 4000000

namespace Law
open PySem L2
def scB (N ps : List Str) (sc : Scope) : Bool := decide N.Nodup && ps.all (fun x => decide (sc.names.lookup x = some .local) || decide (sc.names.lookup x = some .cell)) && sc.names.all fun y => decide (y.2 ≠ .free)
theorem sc_of {N ps : List Str} {sc : Scope} (h1 : sc.kind = .function) (h2 : sc.isCoroutine = false) (h3 : sc.isGenerator = false) (h4 : N.take ps.length = ps) (h : scB N ps sc = true) : FnScope N ps sc := by
  unfold scB at h
  simp only [Bool.and_eq_true, List.all_eq_true, Bool.or_eq_true, decide_eq_true_eq] at h
  exact ⟨h1, h2, h3, h.1.1, h4, h.1.2, h.2⟩
abbrev ExF (K : PySem.W.Frag) (a b : Addr) (r : Bool) : Prop := PySem.W.exmOne K (.ref a) (.ref b) = some r
structure FnA (K : PySem.W.Frag) (x : Str) (st : Stmt) (f : Addr) (d : FuncData) : Prop where
  a : PySem.W.nsIn K mainGlobals x = some (some (.ref f))
  U : Fun K x x st f d
structure MtA (K : PySem.W.Frag) (C : Addr) (x q : Str) (st : Stmt) (f : Addr) (d : FuncData) : Prop where
  a : PySem.W.findIn K (.ref C) x = some (some (.ref f))
  i : PySem.W.isFn K (.ref f) = true
  U : Fun K x q st f d
structure ClA (K : PySem.W.Frag) (x : Str) (C : Addr) : Prop where
  a : PySem.W.nsIn K mainGlobals x = some (some (.ref C))
  c : Cls K C
  m : PySem.W.makesIn K C = true
  k : PySem.W.keepIn K (.ref C) = true
structure XcA (K : PySem.W.Frag) (x : Str) (E : Addr) : Prop where
  a : PySem.W.nsIn K mainGlobals x = some (some (.ref E))
  e : PySem.W.excIn K E bmVE "ValueError.__new__" = true
theorem fn_of {P : Program} {w : World} {K : PySem.W.Frag} {mg : Str → Option Value} {base : Heap} {CX : CXT} {h : Heap} {x : Str} {n : Nat} {st : Stmt} {f : Addr} {d : FuncData} {ps : List Str} {sp : Sp} (X : K.In h) (G : h.Ns mainGlobals mg) (a : FnA K x st f d) (b : Binds K d ps []) (o : FnOk P w K mg base CX n f d ps sp) : Fn P w K mg base CX x n ps sp := ⟨_, _, PySem.W.mg_of X G a.a, a.U.kp, b, o⟩
theorem fm_of {P : Program} {w : World} {K : PySem.W.Frag} {mg : Str → Option Value} {base : Heap} {CX : CXT} {C : Addr} {x q : Str} {n : Nat} {st : Stmt} {f : Addr} {d : FuncData} {ps : List Str} {sp : Sp} (a : MtA K C x q st f d) (b : Binds K d ps []) (o : FnOk P w K mg base CX n f d ps sp) : FnM P w K mg base CX C x n ps sp := ⟨_, _, ⟨a.a, a.i, a.U.kp⟩, b, o⟩
def top (i : Nat) : Stmt := PySem.Challenge.pw_agegrade_k45_bands_of_sons.main.body.getD i (.Pass ⟨0, 0, 0, 0⟩)
abbrev s_draw : Stmt := top 25
theorem sc_draw : FnScope ["_law_cell_here", "_law_limits", "_law_rest", "_law_seed", "_law_row", "_law_many_here"] ["_law_cell_here", "_law_limits"] (defScope s_draw) := sc_of rfl rfl rfl rfl (by decide +kernel)
abbrev s_rule : Stmt := top 28
theorem sc_rule : FnScope ["_law_cell_here", "_law_row", "_law_stays", "_law_grades", "_law_least", "_law_shuts", "_law_most"] ["_law_cell_here"] (defScope s_rule) := sc_of rfl rfl rfl rfl (by decide +kernel)
abbrev s_cell : Stmt := top 26
theorem sc_cell : FnScope ["_law_script", "_law_k"] ["_law_script", "_law_k"] (defScope s_cell) := sc_of rfl rfl rfl rfl (by decide +kernel)
abbrev s_check_stays : Stmt := top 22
theorem sc_check_stays : FnScope ["stays", "stay"] ["stays"] (defScope s_check_stays) := sc_of rfl rfl rfl rfl (by decide +kernel)
abbrev s_Rule___init__ : Stmt := inClass (top 23) 0
theorem sc_Rule___init__ : FnScope ["self", "stays", "gap", "opens", "shuts", "least", "most", "names"] ["self", "stays", "gap", "opens", "shuts", "least", "most", "names"] (defScope s_Rule___init__) := sc_of rfl rfl rfl rfl (by decide +kernel)
abbrev s_made : Stmt := top 29
theorem sc_made : FnScope ["_law_d"] ["_law_d"] (defScope s_made) := sc_of rfl rfl rfl rfl (by decide +kernel)
abbrev s_same : Stmt := top 27
theorem sc_same : FnScope ["_law_found", "_law_due", "_law_k"] ["_law_found", "_law_due"] (defScope s_same) := sc_of rfl rfl rfl rfl (by decide +kernel)
abbrev s_many : Stmt := top 31
theorem sc_many : FnScope ["_law_script", "_law_few"] ["_law_script", "_law_few"] (defScope s_many) := sc_of rfl rfl rfl rfl (by decide +kernel)
abbrev s_grade : Stmt := top 30
theorem sc_grade : FnScope ["_law_stays", "_law_stood", "_law_k"] ["_law_stays", "_law_stood"] (defScope s_grade) := sc_of rfl rfl rfl rfl (by decide +kernel)
abbrev s_Rule_stays : Stmt := inClass (top 23) 1
theorem sc_Rule_stays : FnScope ["self"] ["self"] (defScope s_Rule_stays) := sc_of rfl rfl rfl rfl (by decide +kernel)
abbrev s_Rule_begin : Stmt := inClass (top 23) 4
theorem sc_Rule_begin : FnScope ["self", "grade"] ["self", "grade"] (defScope s_Rule_begin) := sc_of rfl rfl rfl rfl (by decide +kernel)
abbrev s_fathering_feasts : Stmt := top 2
theorem sc_fathering_feasts : FnScope ["rule"] ["rule"] (defScope s_fathering_feasts) := sc_of rfl rfl rfl rfl (by decide +kernel)
abbrev s_check_beat : Stmt := top 12
theorem sc_check_beat : FnScope ["rule", "beat"] ["rule", "beat"] (defScope s_check_beat) := sc_of rfl rfl rfl rfl (by decide +kernel)
abbrev s_check_terms : Stmt := top 13
theorem sc_check_terms : FnScope ["rule", "beat", "young", "old"] ["rule", "beat", "young", "old"] (defScope s_check_terms) := sc_of rfl rfl rfl rfl (by decide +kernel)
abbrev s_next_band : Stmt := top 14
theorem sc_next_band : FnScope ["rule", "beat", "young", "old", "band", "begins", "ends", "soonest", "latest", "first", "last", "opening"] ["rule", "beat", "young", "old", "band"] (defScope s_next_band) := sc_of rfl rfl rfl rfl (by decide +kernel)
abbrev s_sons_band : Stmt := top 15
theorem sc_sons_band : FnScope ["rule", "beat", "young", "old", "band"] ["rule", "beat", "young", "old", "band"] (defScope s_sons_band) := sc_of rfl rfl rfl rfl (by decide +kernel)
abbrev s_steady : Stmt := top 32
theorem sc_steady : FnScope ["_law_cell_here", "_law_d", "_law_row", "_law_beat", "_law_first", "_law_last", "_law_young", "_law_old", "_law_met"] ["_law_cell_here", "_law_d"] (defScope s_steady) := sc_of rfl rfl rfl rfl (by decide +kernel)
abbrev s_sons : Stmt := top 33
theorem sc_sons : FnScope ["_law_d", "_law_steady_here", "_law_ages", "_law_found", "_law_age", "_law_father", "_law_grade_here"] ["_law_d", "_law_steady_here", "_law_ages"] (defScope s_sons) := sc_of rfl rfl rfl rfl (by decide +kernel)
abbrev s_law : Stmt := top 34
theorem sc_law : FnScope ["_law_script", "_law_d", "_law_rule_here", "_law_k", "_law_cell_here", "_law_steady_here", "_law_row", "_law_wide", "_law_sons_here", "_law_due"] ["_law_script"] (defScope s_law) := sc_of rfl rfl rfl rfl (by decide +kernel)
structure Txt (K : PySem.W.Frag) (mg : Str → Option Value) (CRule : Addr) (EBadAges : Addr) (EBadBand : Addr) (EBadBeat : Addr) : Prop where
  z_bool : mg "bool" = none
  z_int : mg "int" = none
  z_isinstance : mg "isinstance" = none
  z_len : mg "len" = none
  z_list : mg "list" = none
  z_max : mg "max" = none
  z_min : mg "min" = none
  z_range : mg "range" = none
  z_sorted : mg "sorted" = none
  z_str : mg "str" = none
  z_sum : mg "sum" = none
  z_tuple : mg "tuple" = none
  c_LONGEST_STAY : ∃ t, mg "LONGEST_STAY" = some (.int 6 t)
  c_LONGEST_YEARS : ∃ t, mg "LONGEST_YEARS" = some (.int 40 t)
  c_MOST_GRADES : ∃ t, mg "MOST_GRADES" = some (.int 8 t)
  c_MOST_NAMES : ∃ t, mg "MOST_NAMES" = some (.int 60 t)
  c_OLDEST_FATHER : ∃ t, mg "OLDEST_FATHER" = some (.int 120 t)
  c_WIDEST_GAP : ∃ t, mg "WIDEST_GAP" = some (.int 60 t)
  cl_Rule : Cls K CRule
  na_Rule_lengths : NoAttr K CRule "lengths"
  na_Rule_gap : NoAttr K CRule "gap"
  na_Rule_opens : NoAttr K CRule "opens"
  na_Rule_shuts : NoAttr K CRule "shuts"
  na_Rule_least : NoAttr K CRule "least"
  na_Rule_most : NoAttr K CRule "most"
  na_Rule_names : NoAttr K CRule "names"
  x_BadAges : ExcC K mg "BadAges" EBadAges
  x_BadBand : ExcC K mg "BadBand" EBadBand
  x_BadBeat : ExcC K mg "BadBeat" EBadBeat

section
variable {P : Program} {w : World} {K : PySem.W.Frag} {mg : Str → Option Value} {base : Heap} {CRule EBadAges EBadBand EBadBeat : Addr}
/-! ### the draws -/
/-- the items of a draw: as many as the limits, each from 0 to its limit -/
def Drawn (rs ls : List Int) : Prop := rs.length = ls.length ∧ ∀ (i : Nat) (r m : Int), rs[i]? = some r → ls[i]? = some m → 0 ≤ r ∧ r < m
def spDraw (K : PySem.W.Frag) : Sp := fun vs H Q _ => ∃ (c : Int) (p : Addr) (ls : List Int), vs = [.int c, .ref p] ∧ SqL K H p (ls.map V.int) ∧ ls.length ≤ 100 ∧ (∀ m ∈ ls, 0 < m ∧ m < 1000000) ∧
  ∀ (l : Addr) (rs : List Int) (H' : Hp), H l = none → Same H H' → H' l = some (.lst (rs.map V.int)) → Drawn rs ls → Q (.ref l) H'
theorem drawn_snoc {rs ls : List Int} {i : Nat} {r m : Int} (hi : ls[i]? = some m) (hl : rs.length = i) (h0 : 0 ≤ r) (h1 : r < m) (h : ∀ (i : Nat) (r m : Int), rs[i]? = some r → ls[i]? = some m → 0 ≤ r ∧ r < m) :
    (rs ++ [r]).length = i + 1 ∧ ∀ (i : Nat) (r' m : Int), (rs ++ [r])[i]? = some r' → ls[i]? = some m → 0 ≤ r' ∧ r' < m := by
  refine ⟨by simp [hl], fun j r' m' hr hm => ?_⟩
  by_cases hj : j < rs.length
  · rw [List.getElem?_append_left hj] at hr
    exact h j r' m' hr hm
  · have hj' : j < rs.length + 1 := by
      have := (List.getElem?_eq_some_iff.mp hr).1
      simpa using this
    have e : j = rs.length := by omega
    subst e
    rw [List.getElem?_append_right (Nat.le_refl _)] at hr
    simp at hr
    rw [hl, hi] at hm
    cases hm
    subst hr
    exact ⟨h0, h1⟩
theorem ok_draw {f : Addr} {fd : FuncData} (U : Fun K "_law_draw" "_law_draw" s_draw f fd) (T : Txt K mg CRule EBadAges EBadBand EBadBeat) : FnOk P w K mg base (CX1 P w) 1 f fd ["_law_cell_here", "_law_limits"] (spDraw K) := by
  refine U.okX sc_draw (fun vs H Q E h => ?_) (fun cdv A outer s H vs Q E hF hr h => ?_)
  · obtain ⟨c, p, ls, rfl, _⟩ := h
    rfl
  · obtain ⟨c, p, ls, rfl, hS, hlen, hpos, k⟩ := h
    refine ⟨_, (PSs.p0 (pss_cons (ps_join (ps_set (i := 2) sc_draw.nd rfl (Or.inl rfl) (pe_ifExp (pt_cmpR op_ge (pv 0) (pe_op op_pow pe_int pe_int) (nomark _)) (pv 0) pe_int)))
  (pss_cons (ps_set (i := 3) sc_draw.nd rfl (Or.inl rfl) (pe_op op_mod (pe_op op_add (pe_op op_mul (pe_op op_mod (pv 0) pe_int) pe_int) pe_int) pe_int))
  (pss_cons (ps_set (i := 4) sc_draw.nd rfl (Or.inl rfl) (pe_lst pa_nil))
  (pss_cons (ps_for (passes_own std_cx hF) rfl (pi_list (pv 1)) (pg_name (i := 5) sc_draw.nd rfl (Or.inl rfl))
  (pss_cons (ps_set (i := 3) sc_draw.nd rfl (Or.inl rfl) (pe_op op_mod (pe_op op_add (pe_op op_mul (pv 3) pe_int) pe_int) pe_int))
  (pss_cons (ps_expr (pe_bm PySem.F.plainAttrs_list PySem.F.slot_list_append PySem.F.type_list_append mt_append (pv 4) (pa_cons (pe_ifExp (pt_cmpR op_gt (pv 2) pe_int (nomark _)) (pe_op op_mod (pv 2) (pv 5)) (pe_op op_mod (pe_op op_add (pe_op op_fdiv (pv 3) pe_int) (pe_op op_mul (pe_op op_mod (pv 3) pe_int) pe_int)) (pv 5))) pa_nil)))
  (pss_one (ps_set (i := 2) sc_draw.nd rfl (Or.inl rfl) (pe_op op_fdiv (pv 2) (pv 5)))))))
  (pss_one (ps_ret (pv 4)))))))), ?_⟩
    -- rest: what is drawn from, not below 0
    refine ⟨fun σ H0 => H0 = H ∧ ∃ rest : Int, 0 ≤ rest ∧ σ = [some (.int c), some (.ref p), some (.int rest), none, none, none], ?_, ?_⟩
    · refine ⟨_, rfl, _, _, rfl, rfl, ⟨by decide, by decide, by decide⟩, _, _, rfl, rfl, _, rfl, ?_⟩
      exact ite2 (fun hc => ⟨_, rfl, rfl, c, Int.le_trans (by decide) (of_decide_eq_true hc), rfl⟩) (fun hc => ⟨rfl, 0, by decide, rfl⟩)
    · rintro σ H0 ⟨rfl, rest, hz, rfl⟩
      -- seed, row
      refine ⟨_, rfl, _, _, rfl, rfl, (by show (0 : Int) < 2147483629; decide), _, _, rfl, rfl, .inr ⟨by decide, by decide⟩, _, _, rfl, rfl, _, _, rfl, rfl, (by show (0 : Int) < 2147483647; decide), Nat.zero_le _, fun l hl => ?_⟩
      have s1 : Same H0 (upd H0 l (.lst [])) := (Same.refl H0).upd_new hl
      refine ⟨_, rfl, p, rfl, ⟨_, s1.seq hS⟩, for_list (K := K) (a := p) (xs := ls.map V.int) (fun i σ H2 => ∃ (rest seed : Int) (rs : List Int) (v : Option V),
        σ = [some (.int c), some (.ref p), some (.int rest), some (.int seed), some (.ref l), v] ∧ 0 ≤ rest ∧ (0 ≤ seed ∧ seed < 2147483647) ∧ Same H0 H2 ∧ H2 l = some (.lst (rs.map V.int)) ∧ rs.length = i ∧ ∀ (i : Nat) (r m : Int), rs[i]? = some r → ls[i]? = some m → 0 ≤ r ∧ r < m)
        ⟨_, _, [], none, rfl, hz, ⟨Int.emod_nonneg _ (by decide), Int.emod_lt_of_pos _ (by decide)⟩, s1, upd_same, rfl, fun i r m h => by simp at h⟩ (fun i σ H2 _ ⟨_, _, _, _, _, _, _, s2, _⟩ => s2.seq hS) ?_ ?_⟩
      · rintro i y σ H2 hi ⟨rest, seed, rs, v, rfl, h0, ⟨h1, h2⟩, s2, hl2, hrl, hb⟩
        obtain ⟨m, rfl, hm⟩ := map_at hi
        have hil : i < ls.length := (List.getElem?_eq_some_iff.mp hm).1
        obtain ⟨m0, m1⟩ := hpos m (List.mem_of_getElem? hm)
        refine ⟨_, rfl, _, _, rfl, rfl, .inl ⟨by omega, by omega⟩, _, _, rfl, rfl, _, _, rfl, rfl, (by show (0 : Int) < 2147483647; decide), ?_⟩
        have e1 := Int.emod_nonneg (seed * 69621 + 12553) (b := 2147483647) (by decide)
        have e2 := Int.emod_lt_of_pos (seed * 69621 + 12553) (b := 2147483647) (by decide)
        refine ⟨_, rfl, .inl ⟨rfl, _, SqL.of hl2⟩, _, rfl, _, _, rfl, rfl, _, rfl, ?_⟩
        refine ite2 (fun hc => ?_) (fun hc => ?_)
        · refine ⟨_, rfl, _, rfl, _, _, rfl, rfl, m0, ?_⟩
          refine ⟨l, _, _, rfl, rfl, hl2, small1000 (by rw [List.length_map]; omega), ?_⟩
          refine ⟨_, rfl, _, rfl, _, _, rfl, rfl, ⟨m0, by omega⟩, ?_⟩
          obtain ⟨b1, b2⟩ := drawn_snoc hm hrl (Int.emod_nonneg rest (by omega)) (Int.emod_lt_of_pos rest m0) hb
          exact ⟨_, _, rs ++ [rest % m], _, rfl, Int.ediv_nonneg h0 (by omega), ⟨e1, e2⟩, s2.upd_own hl, (by rw [upd_same, List.map_append]; rfl), b1, b2⟩
        · refine ⟨_, rfl, _, _, rfl, rfl, ⟨by decide, by decide⟩, _, rfl, _, _, rfl, rfl, (by show (0 : Int) < 8191; decide), _, _, rfl, rfl, .inr ⟨by decide, by decide⟩, _, _, rfl, rfl, _, rfl, _, _, rfl, rfl, m0, ?_⟩
          refine ⟨l, _, _, rfl, rfl, hl2, small1000 (by rw [List.length_map]; omega), ?_⟩
          refine ⟨_, rfl, _, rfl, _, _, rfl, rfl, ⟨m0, by omega⟩, ?_⟩
          obtain ⟨b1, b2⟩ := drawn_snoc hm hrl (Int.emod_nonneg _ (by omega)) (Int.emod_lt_of_pos _ m0) hb
          exact ⟨_, _, rs ++ [_], _, rfl, Int.ediv_nonneg h0 (by omega), ⟨e1, e2⟩, s2.upd_own hl, (by rw [upd_same, List.map_append]; rfl), b1, b2⟩
      · rintro σ H2 ⟨rest, seed, rs, v, rfl, h0, ⟨h1, h2⟩, s2, hl2, hrl, hb⟩
        refine ⟨_, rfl, ?_⟩
        exact k l rs H2 hl s2 hl2 ⟨by rw [hrl, List.length_map], hb⟩

/-! ### the rule that is drawn -/
structure DR where
  stays : List Int
  gap : Int
  opens : Int
  shuts : Int
  least : Int
  most : Int
  names : Int
structure GoodD (D : DR) : Prop where
  len : 1 ≤ D.stays.length ∧ D.stays.length ≤ 8
  st : ∀ z ∈ D.stays, 1 ≤ z ∧ z ≤ 6
  gap : 1 ≤ D.gap ∧ D.gap ≤ 60
  op : 0 ≤ D.opens ∧ D.opens ≤ D.shuts ∧ D.shuts < (D.stays.length : Int)
  lm : 1 ≤ D.least ∧ D.least ≤ D.most ∧ D.most ≤ 40
  nm : 1 ≤ D.names ∧ D.names ≤ 60
def drow (p : Addr) (D : DR) : List V := [.ref p, .int D.gap, .int D.opens, .int D.shuts, .int D.least, .int D.most, .int D.names]
def DAt (H : Hp) (d p : Addr) (D : DR) : Prop := H d = some (.lst (drow p D)) ∧ H p = some (.lst (D.stays.map V.int))
def spRule : Sp := fun vs H Q _ => ∃ c : Int, vs = [.int c] ∧ ∀ (d p : Addr) (D : DR) (H' : Hp), H d = none → H p = none → Same H H' → DAt H' d p D → GoodD D → Q (.ref d) H'
theorem cutV_from (xs : List V) (k : Nat) (h : k ≤ xs.length) : cutV xs (some (k : Int)) none = xs.drop k := by
  unfold cutV
  rw [HT.sIx_none, HT.sIx_nat, Nat.min_eq_left h]
  exact List.take_of_length_le (by rw [List.length_drop]; omega)
theorem six_at (i : Nat) (h : i < 8) : ([5, 8, 60, 40, 40, 60, 8, 8, 6, 6, 6, 6, 6, 6, 6, 6] : List Int)[i + 8]? = some 6 := by
  match i, h with
  | 0, _ => rfl
  | 1, _ => rfl
  | 2, _ => rfl
  | 3, _ => rfl
  | 4, _ => rfl
  | 5, _ => rfl
  | 6, _ => rfl
  | 7, _ => rfl
theorem drawn8 {rs : List Int} (h : Drawn rs [5, 8, 60, 40, 40, 60, 8, 8, 6, 6, 6, 6, 6, 6, 6, 6]) : ∃ (r0 r1 r2 r3 r4 r5 r6 r7 : Int) (ts : List Int), rs = r0 :: r1 :: r2 :: r3 :: r4 :: r5 :: r6 :: r7 :: ts ∧ (0 ≤ r1 ∧ r1 < 8) ∧ (0 ≤ r2 ∧ r2 < 60) ∧ (0 ≤ r3 ∧ r3 < 40) ∧ (0 ≤ r4 ∧ r4 < 40) ∧ (0 ≤ r5 ∧ r5 < 60) ∧ (0 ≤ r6 ∧ r6 < 8) ∧ (0 ≤ r7 ∧ r7 < 8) ∧ ts.length = 8 ∧ ∀ z ∈ ts, 0 ≤ z ∧ z < 6 := by
  obtain ⟨hl, hb⟩ := h
  match rs, hl, hb with
  | r0 :: r1 :: r2 :: r3 :: r4 :: r5 :: r6 :: r7 :: ts, hl, hb =>
    have ht : ts.length = 8 := by simpa using hl
    refine ⟨r0, r1, r2, r3, r4, r5, r6, r7, ts, rfl, hb 1 _ _ rfl rfl, hb 2 _ _ rfl rfl, hb 3 _ _ rfl rfl, hb 4 _ _ rfl rfl, hb 5 _ _ rfl rfl, hb 6 _ _ rfl rfl, hb 7 _ _ rfl rfl, ht, fun z hz => ?_⟩
    obtain ⟨i, hi⟩ := List.getElem?_of_mem hz
    have h8 : i < 8 := by have := (List.getElem?_eq_some_iff.mp hi).1; omega
    exact hb (i + 8) z 6 hi (six_at i h8)
theorem take_at {ss : List Int} {k : Nat} (h : ∀ z ∈ ss, 1 ≤ z ∧ z ≤ 6) : ∀ z ∈ ss.take k, 1 ≤ z ∧ z ≤ 6 := fun z hz => h z (List.mem_of_mem_take hz)
theorem ok_rule {f : Addr} {fd : FuncData} (U : Fun K "_law_rule" "_law_rule" s_rule f fd) (T : Txt K mg CRule EBadAges EBadBand EBadBeat) (F_draw : Fn P w K mg base (CX1 P w) "_law_draw" 1 ["_law_cell_here", "_law_limits"] (spDraw K)) : FnOk P w K mg base (CX1 P w) 2 f fd ["_law_cell_here"] spRule := by
  refine U.okX sc_rule (fun vs H Q E h => ?_) (fun cdv A outer s H vs Q E hF hr h => ?_)
  · obtain ⟨c, rfl, _⟩ := h
    rfl
  · obtain ⟨c, rfl, k⟩ := h
    refine ⟨_, (PSs.p0 (pss_cons (ps_set (i := 1) sc_rule.nd rfl (Or.inl rfl) (pe_fnS F_draw (hr.mono (by first | decide | omega)) (passS std_cx) (pa_cons (pv 0) (pa_cons (pe_op op_cat (pe_lst (pa_cons pe_int (pa_cons pe_int (pa_cons pe_int (pa_cons pe_int (pa_cons pe_int (pa_cons pe_int (pa_cons pe_int (pa_cons pe_int pa_nil))))))))) (pe_comp (N' := ["_law_k"]) (cap := [none]) (by exact CompOk.of (by kernel_rfl)) rfl (pi_range1 rfl T.z_range (pa_cons pe_int pa_nil)) (fun _ _ _ _ => (pg_name (i := 0) (show List.Nodup (["_law_k"] : List Str) by decide +kernel) rfl (Or.inl rfl) (Or.inr rfl))) (fun _ _ _ _ => pf_nil) (fun _ _ _ _ => pe_int))) pa_nil))))
  (pss_cons (ps_comp (j := 2) sc_rule.nd rfl rfl (N' := ["_law_one"]) (cap := [none]) (by exact CompOk.of (by kernel_rfl)) rfl (pi_list (pe_slice sl_list (pv 1) (po_some pe_int) po_none)) (fun _ _ _ _ => (pg_name (i := 0) (show List.Nodup (["_law_one"] : List Str) by decide +kernel) rfl (Or.inl rfl) (Or.inr rfl))) (fun _ _ _ _ => pf_nil) (fun _ _ _ _ => (pe_op op_add pe_int (pv 0))))
  (pss_cons (ps_join (ps_if (pt_cmpR op_gt (pe_ix ix_list (pv 1) pe_int (fun _ _ => rfl)) pe_int (nomark _)) (pss_cons (ps_set (i := 1) sc_rule.nd rfl (Or.inl rfl) (pe_lst (pa_cons pe_int (pa_cons (pe_op op_mod (pe_ix ix_list (pv 1) pe_int (fun _ _ => rfl)) pe_int) (pa_cons (pe_op op_mod (pe_ix ix_list (pv 1) pe_int (fun _ _ => rfl)) pe_int) (pa_cons (pe_op op_mod (pe_ix ix_list (pv 1) pe_int (fun _ _ => rfl)) pe_int) (pa_cons (pe_op op_mod (pe_ix ix_list (pv 1) pe_int (fun _ _ => rfl)) pe_int) (pa_cons (pe_op op_mod (pe_ix ix_list (pv 1) pe_int (fun _ _ => rfl)) pe_int) (pa_cons (pe_ix ix_list (pv 1) pe_int (fun _ _ => rfl)) (pa_cons (pe_ix ix_list (pv 1) pe_int (fun _ _ => rfl)) pa_nil))))))))))
  (pss_one (ps_comp (j := 2) sc_rule.nd rfl rfl (N' := ["_law_one"]) (cap := [none]) (by exact CompOk.of (by kernel_rfl)) rfl (pi_list (pv 2)) (fun _ _ _ _ => (pg_name (i := 0) (show List.Nodup (["_law_one"] : List Str) by decide +kernel) rfl (Or.inl rfl) (Or.inr rfl))) (fun _ _ _ _ => pf_nil) (fun _ _ _ _ => (pe_op op_fdiv (pe_op op_add (pv 0) pe_int) pe_int))))) pss_nil))
  (pss_cons (ps_set (i := 3) sc_rule.nd rfl (Or.inl rfl) (pe_op op_add (pe_ix ix_list (pv 1) pe_int (fun _ _ => rfl)) pe_int))
  (pss_cons (ps_set (i := 4) sc_rule.nd rfl (Or.inl rfl) (pe_op op_add (pe_ix ix_list (pv 1) pe_int (fun _ _ => rfl)) pe_int))
  (pss_cons (ps_set (i := 5) sc_rule.nd rfl (Or.inl rfl) (pe_op op_mod (pe_ix ix_list (pv 1) pe_int (fun _ _ => rfl)) (pv 3)))
  (pss_cons (ps_set (i := 6) sc_rule.nd rfl (Or.inl rfl) (pe_op op_add (pv 4) (pe_op op_mod (pe_ix ix_list (pv 1) pe_int (fun _ _ => rfl)) (pe_op op_sub pe_int (pv 4)))))
  (pss_one (ps_ret (pe_lst (pa_cons (pe_slice sl_list (pv 2) po_none (po_some (pv 3))) (pa_cons (pe_op op_add (pe_ix ix_list (pv 1) pe_int (fun _ _ => rfl)) pe_int) (pa_cons (pe_op op_mod (pe_ix ix_list (pv 1) pe_int (fun _ _ => rfl)) (pe_op op_add (pv 5) pe_int)) (pa_cons (pv 5) (pa_cons (pv 4) (pa_cons (pv 6) (pa_cons (pe_op op_add (pe_ix ix_list (pv 1) pe_int (fun _ _ => rfl)) pe_int) pa_nil)))))))))))))))))), ?_⟩
    -- the limits
    refine ⟨_, rfl, (by show 8 ≤ sizeLine; decide), fun p1 hp1 => ⟨8, rfl, by decide, by decide, fun l hl => ?_⟩⟩
    refine comp_rangeI (n := 8) (rest := []) (fun _ => V.int 6) (by decide) (fun i hi C H2 _ h => h) ?_
    have hl1 : H l = none := (Same.refl H).upd_new hp1 |>.free hl
    have n1 : p1 ≠ l := ne_of_none upd_same hl
    refine ⟨p1, l, _, _, rfl, rfl, (by rw [upd_ne n1]; exact upd_same), upd_same, (by show 16 ≤ sizeLine; decide), fun q hq => ?_⟩
    refine ⟨c, q, [5, 8, 60, 40, 40, 60, 8, 8, 6, 6, 6, 6, 6, 6, 6, 6], rfl, SqL.of upd_same, by decide, by decide, fun row rs H3 hrow0 s3 hrow hdr => ?_⟩
    have sH : Same H H3 := (((((Same.refl H).upd_new hp1).upd_new hl).upd_new hq).trans s3)
    obtain ⟨r0, r1, r2, r3, r4, r5, r6, r7, ts, rfl, ⟨a1, b1⟩, ⟨a2, b2⟩, ⟨a3, b3⟩, ⟨a4, b4⟩, ⟨a5, b5⟩, ⟨a6, b6⟩, ⟨a7, b7⟩, hts, hbs⟩ := drawn8 hdr
    clear hdr
    -- the stays
    refine ⟨_, rfl, 8, rfl, row, _, rfl, SqL.of hrow, fun q2 hq2 => ?_⟩
    have ec : cutV ((r0 :: r1 :: r2 :: r3 :: r4 :: r5 :: r6 :: r7 :: ts).map V.int) (some 8) none = ts.map V.int := cutV_from _ 8 (by simp)
    rw [ec]
    refine ⟨q2, rfl, ⟨_, SqL.of upd_same⟩, fun l2 hl2 => ?_⟩
    have nq2 : q2 ≠ l2 := ne_of_none upd_same hl2
    refine comp_mapI (ns := ts) (fun z => 1 + z) (fun ys => SqL.of (by rw [upd_ne nq2]; exact upd_same)) (small1000 (by omega)) (fun z hz C H2 hC => ⟨_, rfl, _, _, rfl, rfl, hC⟩) ?_
    have s4 : Same H (upd (upd H3 q2 (.lst (ts.map V.int))) l2 (.lst ((ts.map fun z => 1 + z).map V.int))) := (sH.upd_new hq2).upd_new hl2
    have nrow : row ≠ q2 := ne_of_none hrow hq2
    have nrow2 : row ≠ l2 := ne_of_none (show (upd H3 q2 _) row = some _ from (upd_ne nrow).trans hrow) hl2
    have hrow5 : (upd (upd H3 q2 (.lst (ts.map V.int))) l2 (.lst ((ts.map fun z => 1 + z).map V.int))) row = some (.lst (V.int r0 :: V.int r1 :: V.int r2 :: V.int r3 :: V.int r4 :: V.int r5 :: V.int r6 :: V.int r7 :: ts.map V.int)) := by rw [upd_ne nrow2, upd_ne nrow]; exact hrow
    have hl5 : (upd (upd H3 q2 (.lst (ts.map V.int))) l2 (.lst ((ts.map fun z => 1 + z).map V.int))) l2 = some (.lst ((ts.map fun z => 1 + z).map V.int)) := upd_same
    generalize upd (upd H3 q2 (.lst (ts.map V.int))) l2 (.lst ((ts.map fun z => 1 + z).map V.int)) = H4 at *
    -- the narrower rule, or not
    refine ⟨fun σ H5 => ∃ (row st : Addr) (x0 x1 x2 x3 x4 x5 x6 x7 : Int) (tl : List V) (ss : List Int), σ = [some (.int c), some (.ref row), some (.ref st), none, none, none, none] ∧ Same H H5 ∧
      H5 row = some (.lst (V.int x0 :: V.int x1 :: V.int x2 :: V.int x3 :: V.int x4 :: V.int x5 :: V.int x6 :: V.int x7 :: tl)) ∧ H5 st = some (.lst (ss.map V.int)) ∧ ss.length = 8 ∧ (∀ z ∈ ss, 1 ≤ z ∧ z ≤ 6) ∧
      (0 ≤ x1 ∧ x1 < 8) ∧ (0 ≤ x2 ∧ x2 < 60) ∧ (0 ≤ x3 ∧ x3 < 40) ∧ (0 ≤ x4 ∧ x4 < 40) ∧ (0 ≤ x5 ∧ x5 < 60) ∧ (0 ≤ x6 ∧ x6 < 8) ∧ (0 ≤ x7 ∧ x7 < 8), ?_, ?_⟩
    · have hr := SqL.of (K := K) hrow5
      refine ⟨_, rfl, row, _, _, _, rfl, rfl, hr, atI_nat (j := 0) rfl, _, _, rfl, rfl, _, rfl, ?_⟩
      refine ite2 (fun hc => ?_) (fun hc => ?_)
      · refine ⟨_, rfl, row, _, _, _, rfl, rfl, hr, atI_nat (j := 1) rfl, _, _, rfl, rfl, (by show (0 : Int) < 4; decide), _, rfl, row, _, _, _, rfl, rfl, hr, atI_nat (j := 2) rfl, _, _, rfl, rfl, (by show (0 : Int) < 7; decide), _, rfl, row, _, _, _, rfl, rfl, hr, atI_nat (j := 3) rfl, _, _, rfl, rfl, (by show (0 : Int) < 3; decide), _, rfl, row, _, _, _, rfl, rfl, hr, atI_nat (j := 4) rfl, _, _, rfl, rfl, (by show (0 : Int) < 5; decide), _, rfl, row, _, _, _, rfl, rfl, hr, atI_nat (j := 5) rfl, _, _, rfl, rfl, (by show (0 : Int) < 9; decide), _, rfl, row, _, _, _, rfl, rfl, hr, atI_nat (j := 6) rfl, _, rfl, row, _, _, _, rfl, rfl, hr, atI_nat (j := 7) rfl, (by show 8 ≤ sizeLine; decide), fun row2 hrow2 => ?_⟩
        have nl2 : l2 ≠ row2 := ne_of_none hl5 hrow2
        refine ⟨_, rfl, l2, rfl, ⟨_, SqL.of ((upd_ne nl2).trans hl5)⟩, fun l3 hl3 => ?_⟩
        have nl3 : l2 ≠ l3 := ne_of_none (show (upd _ row2 _) l2 = some _ from (upd_ne nl2).trans hl5) hl3
        refine comp_mapI (ns := ts.map fun z => 1 + z) (fun z => (z + 1) / 2) (fun ys => SqL.of (by rw [upd_ne nl3, upd_ne nl2]; exact hl5)) (small1000 (by rw [List.length_map]; omega)) (fun z hz C H2 hC => ⟨_, rfl, _, _, rfl, rfl, _, _, rfl, rfl, ⟨by decide, by decide⟩, hC⟩) ?_
        refine ⟨row2, l3, 1, _, _, _, _, _, _, _, [], (ts.map fun z => 1 + z).map fun z => (z + 1) / 2, rfl, (s4.upd_new hrow2).upd_new hl3, (by rw [upd_ne (ne_of_none upd_same hl3)]; exact upd_same), upd_same, (by rw [List.length_map, List.length_map]; exact hts), ?_, ⟨by omega, by omega⟩, ⟨by omega, by omega⟩, ⟨by omega, by omega⟩, ⟨by omega, by omega⟩, ⟨by omega, by omega⟩, ⟨a6, b6⟩, ⟨a7, b7⟩⟩
        intro z hz
        obtain ⟨y, hy, rfl⟩ := List.mem_map.mp hz
        obtain ⟨x, hx, rfl⟩ := List.mem_map.mp hy
        have := hbs x hx
        omega
      · refine ⟨row, l2, r0, _, _, _, _, _, _, _, _, ts.map fun z => 1 + z, rfl, s4, hrow5, hl5, (by rw [List.length_map]; exact hts), ?_, ⟨a1, b1⟩, ⟨a2, b2⟩, ⟨a3, b3⟩, ⟨a4, b4⟩, ⟨a5, b5⟩, ⟨a6, b6⟩, ⟨a7, b7⟩⟩
        intro z hz
        obtain ⟨x, hx, rfl⟩ := List.mem_map.mp hz
        have := hbs x hx
        omega
    · rintro σ H5 ⟨row, st, x0, x1, x2, x3, x4, x5, x6, x7, tl, ss, rfl, s5, hrow, hst, hlen, hss, ⟨c1, d1⟩, ⟨c2, d2⟩, ⟨c3, d3⟩, ⟨c4, d4⟩, ⟨c5, d5⟩, ⟨c6, d6⟩, ⟨c7, d7⟩⟩
      have hr := SqL.of (K := K) hrow
      have m1 := Int.emod_nonneg x6 (b := x1 + 1) (by omega)
      have m2 := Int.emod_lt_of_pos x6 (b := x1 + 1) (by omega)
      have m3 := Int.emod_nonneg x4 (b := 41 - (x3 + 1)) (by omega)
      have m4 := Int.emod_lt_of_pos x4 (b := 41 - (x3 + 1)) (by omega)
      have m5 := Int.emod_nonneg x7 (b := x6 % (x1 + 1) + 1) (by omega)
      have m6 := Int.emod_lt_of_pos x7 (b := x6 % (x1 + 1) + 1) (by omega)
      refine ⟨_, rfl, row, _, _, _, rfl, rfl, hr, atI_nat (j := 1) rfl, _, _, rfl, rfl, _, rfl, row, _, _, _, rfl, rfl, hr, atI_nat (j := 3) rfl, _, _, rfl, rfl, _, rfl, row, _, _, _, rfl, rfl, hr, atI_nat (j := 6) rfl, _, rfl, _, _, rfl, rfl, (by show (0 : Int) < x1 + 1; omega), _, rfl, _, rfl, row, _, _, _, rfl, rfl, hr, atI_nat (j := 4) rfl, _, rfl, _, _, rfl, rfl, _, _, rfl, rfl, (by show (0 : Int) < 41 - (x3 + 1); omega), _, _, rfl, rfl, ?_⟩
      -- what is told
      refine ⟨_, rfl, _, rfl, _, rfl, st, _, rfl, SqL.of hst, fun p hp => ?_⟩
      have np : row ≠ p := ne_of_none hrow hp
      have hr2 : SqL K (upd H5 p (.lst (cutV (ss.map V.int) none (some (x1 + 1))))) row _ := SqL.of (by rw [upd_ne np]; exact hrow)
      refine ⟨_, rfl, row, _, _, _, rfl, rfl, hr2, atI_nat (j := 2) rfl, _, _, rfl, rfl, _, rfl, row, _, _, _, rfl, rfl, hr2, atI_nat (j := 7) rfl, _, rfl, _, _, rfl, rfl, _, _, rfl, rfl, (by show (0 : Int) < x6 % (x1 + 1) + 1; omega), _, rfl, _, rfl, _, rfl, _, rfl, row, _, _, _, rfl, rfl, hr2, atI_nat (j := 5) rfl, _, _, rfl, rfl, (by show 7 ≤ sizeLine; decide), fun d hd => ?_⟩
      obtain ⟨g, hg⟩ := Int.eq_ofNat_of_zero_le (show 0 ≤ x1 + 1 by omega)
      have ecut : cutV (ss.map V.int) none (some (x1 + 1)) = (ss.take g).map V.int := by rw [hg, cutV_to, List.map_take]
      have hg2 : (ss.take g).length = g := by rw [List.length_take, hlen]; omega
      refine k d p ⟨ss.take g, x2 + 1, x7 % (x6 % (x1 + 1) + 1), x6 % (x1 + 1), x3 + 1, x3 + 1 + x4 % (41 - (x3 + 1)), x5 + 1⟩ _ (Same.free (s5.upd_new hp) hd) (s5.free hp) ((s5.upd_new hp).upd_new hd) ⟨upd_same, ?_⟩ ⟨⟨?_, ?_⟩, take_at hss, ⟨?_, ?_⟩, ⟨m5, ?_, ?_⟩, ⟨?_, ?_, ?_⟩, ⟨?_, ?_⟩⟩
      · rw [upd_ne (ne_of_none upd_same hd), upd_same, ecut]
      all_goals (dsimp only; omega)

/-! ### the script's cells -/
theorem iteP {c A B : Prop} [Decidable c] (hc : c) (h : A) : if decide c = true then A else B := by
  rw [if_pos (decide_eq_true hc)]
  exact h
theorem iteN {c A B : Prop} [Decidable c] (hc : ¬ c) (h : B) : if decide c = true then A else B := by
  rw [if_neg (by rw [decide_eq_false hc]; exact Bool.false_ne_true)]
  exact h
theorem iteNT {c A B : Prop} [Decidable c] (hc : ¬ c) (h : A) : if (!decide c) = true then A else B := by
  rw [decide_eq_false hc]
  exact iteT h
theorem lt1000 {n : Nat} (h : Nat.blt n 1000 = true) : n < 1000 := Nat.le_of_ble_eq_true h
def spCell (K : PySem.W.Frag) : Sp := fun vs H Q _ => ∃ (a : Addr) (ns : List Int) (j : Nat), vs = [.ref a, .int j] ∧ SqL K H a (ns.map V.int) ∧ ns.length ≤ 63 ∧ ∀ z : Int, Q (.int z) H
theorem ok_cell {f : Addr} {fd : FuncData} (U : Fun K "_law_cell" "_law_cell" s_cell f fd) (T : Txt K mg CRule EBadAges EBadBand EBadBeat) : FnOk P w K mg base (CX1 P w) 1 f fd ["_law_script", "_law_k"] (spCell K) := by
  refine U.okX sc_cell (fun vs H Q E h => ?_) (fun cdv A outer s H vs Q E hF hr h => ?_)
  · obtain ⟨a, ns, j, rfl, _⟩ := h
    rfl
  · obtain ⟨a, ns, j, rfl, hS, hlen, k⟩ := h
    refine ⟨_, (PSs.p0 (pss_cons (ps_if (pt_cmpR op_lt (pv 1) (pe_callB call_len_seq rfl T.z_len bb_len (pa_cons (pv 0) pa_nil)) (nomark _)) (pss_one (ps_ret (pe_ix ix_list (pv 0) (pv 1) (fun _ _ => rfl)))) pss_nil)
  (pss_one (ps_ret (pe_op op_add (pe_op op_add (pe_op op_mul (pe_op op_mod (pe_callB (call_sumL rfl) rfl T.z_sum bb_sum (pa_cons (pv 0) pa_nil)) pe_int) pe_int) (pe_op op_mul (pe_callB call_len_seq rfl T.z_len bb_len (pa_cons (pv 0) pa_nil)) pe_int)) (pe_op op_mul (pv 1) pe_int)))))), ?_⟩
    have hlm : (ns.map V.int).length = ns.length := List.length_map ..
    refine ⟨_, rfl, _, rfl, a, _, rfl, .inl hS, _, _, rfl, rfl, _, rfl, ite2 (fun hc => ?_) (fun hc => ?_)⟩
    · have hj : j < ns.length := by have := of_decide_eq_true hc; omega
      exact ⟨_, rfl, _, rfl, a, _, _, V.int ns[j], rfl, rfl, hS, atI_nat (by rw [List.getElem?_map, List.getElem?_eq_getElem hj]; rfl), k _⟩
    · exact ⟨_, rfl, a, _, rfl, hS, _, _, rfl, rfl, (by show (0 : Int) < 1000003; decide), _, _, rfl, rfl, .inr ⟨by decide, by decide⟩, _, rfl, a, _, rfl, .inl hS, _, _, rfl, rfl, .inr ⟨by decide, by decide⟩, _, _, rfl, rfl, _, rfl, _, _, rfl, rfl, .inr ⟨by decide, by decide⟩, _, _, rfl, rfl, k _⟩

/-! ### the program's rule -/
def rflds (lp : Addr) (D : DR) : List (Str × V) := [("lengths", .ref lp), ("gap", .int D.gap), ("opens", .int D.opens), ("shuts", .int D.shuts), ("least", .int D.least), ("most", .int D.most), ("names", .int D.names)]
theorem rf_lengths (lp : Addr) (D : DR) : (rflds lp D).lookup ("lengths" : Str) = some (V.ref lp) := by kernel_rfl
theorem rf_gap (lp : Addr) (D : DR) : (rflds lp D).lookup ("gap" : Str) = some (V.int D.gap) := by kernel_rfl
theorem rf_opens (lp : Addr) (D : DR) : (rflds lp D).lookup ("opens" : Str) = some (V.int D.opens) := by kernel_rfl
theorem rf_shuts (lp : Addr) (D : DR) : (rflds lp D).lookup ("shuts" : Str) = some (V.int D.shuts) := by kernel_rfl
theorem rf_least (lp : Addr) (D : DR) : (rflds lp D).lookup ("least" : Str) = some (V.int D.least) := by kernel_rfl
theorem rf_most (lp : Addr) (D : DR) : (rflds lp D).lookup ("most" : Str) = some (V.int D.most) := by kernel_rfl
theorem rf_names (lp : Addr) (D : DR) : (rflds lp D).lookup ("names" : Str) = some (V.int D.names) := by kernel_rfl
structure RuleAt (C : Addr) (H : Hp) (x lp : Addr) (D : DR) : Prop where
  ob : ∃ dx, H x = some (.ins C dx (rflds lp D))
  ls : H lp = some (.lst (D.stays.map V.int))
theorem RuleAt.same {C : Addr} {H H' : Hp} {x lp : Addr} {D : DR} (R : RuleAt C H x lp D) (s : Same H H') : RuleAt C H' x lp D := ⟨let ⟨dx, e⟩ := R.ob; ⟨dx, s _ _ e⟩, s _ _ R.ls⟩
theorem DAt.same {H H' : Hp} {d p : Addr} {D : DR} (R : DAt H d p D) (s : Same H H') : DAt H' d p D := ⟨s _ _ R.1, s _ _ R.2⟩
def spCheck (K : PySem.W.Frag) : Sp := fun vs H Q _ => ∃ (st : Addr) (ss : List Int), vs = [.ref st] ∧ SqL K H st (ss.map V.int) ∧ (1 ≤ ss.length ∧ ss.length ≤ 8) ∧ (∀ z ∈ ss, 1 ≤ z ∧ z ≤ 6) ∧ Q .non H
theorem ok_check {f : Addr} {fd : FuncData} (U : Fun K "check_stays" "check_stays" s_check_stays f fd) (T : Txt K mg CRule EBadAges EBadBand EBadBeat) : FnOk P w K mg base (CX1 P w) 1 f fd ["stays"] (spCheck K) := by
  refine U.okX sc_check_stays (fun vs H Q E h => ?_) (fun cdv A outer s H vs Q E hF hr h => ?_)
  · obtain ⟨st, ss, rfl, _⟩ := h
    rfl
  · obtain ⟨st, ss, rfl, hS, ⟨l1, l2⟩, hss, k⟩ := h
    refine ⟨_, (PSs.p0 (pss_cons (ps_if (pt_not (pt_chain op_le op_le pe_int (pe_callB call_len_seq rfl T.z_len bb_len (pa_cons (pv 0) pa_nil)) (pe_gi rfl T.c_MOST_GRADES))) (pss_one ps_never) pss_nil)
  (pss_one (ps_for (passes_own std_cx hF) rfl (pi_list (pv 0)) (pg_name (i := 1) sc_check_stays.nd rfl (Or.inl rfl))
  (pss_one (ps_if (pt_not (pt_chain op_le op_le pe_int (pv 1) (pe_gi rfl T.c_LONGEST_STAY))) (pss_one ps_never) pss_nil)))))), ?_⟩
    have hlm : (ss.map V.int).length = ss.length := List.length_map ..
    refine ⟨_, rfl, st, _, rfl, .inl hS, _, _, rfl, rfl, _, rfl, iteP (by omega) ⟨_, _, rfl, rfl, _, rfl, iteNS (by omega) ?_⟩⟩
    refine ⟨_, rfl, st, rfl, ⟨_, hS⟩, for_list (K := K) (a := st) (xs := ss.map V.int) (fun i σ H2 => (∃ v, σ = [some (.ref st), v]) ∧ H2 = H) ⟨⟨_, rfl⟩, rfl⟩ (fun i σ H2 _ ⟨_, e⟩ => by rw [e]; exact hS) ?_ ?_⟩
    · rintro i y σ H2 hi ⟨⟨v, rfl⟩, rfl⟩
      obtain ⟨z, rfl, hz⟩ := map_at hi
      obtain ⟨z1, z2⟩ := hss z (List.mem_of_getElem? hz)
      exact ⟨_, rfl, _, _, rfl, rfl, _, rfl, iteP z1 ⟨_, _, rfl, rfl, _, rfl, iteNS z2 ⟨⟨_, rfl⟩, rfl⟩⟩⟩
    · rintro σ H2 ⟨⟨v, rfl⟩, rfl⟩
      exact k
def spInit (K : PySem.W.Frag) (C : Addr) : Sp := fun vs H Q _ => ∃ (x dx st : Addr) (D : DR), vs = [.ref x, .ref st, .int D.gap, .int D.opens, .int D.shuts, .int D.least, .int D.most, .int D.names] ∧ H x = some (.ins C dx []) ∧ SqL K H st (D.stays.map V.int) ∧ GoodD D ∧
  ∀ (lp : Addr) (H' : Hp), H lp = none → (∀ b o, H b = some o → b ≠ x → H' b = some o) → RuleAt C H' x lp D → Q .non H'
theorem ok_init {f : Addr} {fd : FuncData} (U : Fun K "__init__" "Rule.__init__" s_Rule___init__ f fd) (T : Txt K mg CRule EBadAges EBadBand EBadBeat) (F_check_stays : Fn P w K mg base (CX1 P w) "check_stays" 1 ["stays"] (spCheck K)) :
    FnOk P w K mg base (CX1 P w) 2 f fd ["self", "stays", "gap", "opens", "shuts", "least", "most", "names"] (spInit K CRule) := by
  refine U.okX sc_Rule___init__ (fun vs H Q E h => ?_) (fun cdv A outer s H vs Q E hF hr h => ?_)
  · obtain ⟨x, dx, st, D, rfl, _⟩ := h
    rfl
  · obtain ⟨x, dx, st, D, rfl, hx, hS, ⟨⟨g1, g2⟩, gs, ⟨g3, g4⟩, ⟨g5, g6, g7⟩, ⟨g8, g9, g10⟩, ⟨g11, g12⟩⟩, k⟩ := h
    refine ⟨_, (PSs.p0 (pss_cons (ps_expr (pe_fnS F_check_stays (hr.mono (by first | decide | omega)) (passS std_cx) (pa_cons (pv 1) pa_nil)))
  (pss_cons (ps_if (pt_not (pt_chain op_le op_le pe_int (pv 2) (pe_gi rfl T.c_WIDEST_GAP))) (pss_one ps_never) pss_nil)
  (pss_cons (ps_if (pt_not (pt_chain3 op_le op_le op_lt pe_int (pv 3) (pv 4) (pe_callB call_len_seq rfl T.z_len bb_len (pa_cons (pv 1) pa_nil)))) (pss_one ps_never) pss_nil)
  (pss_cons (ps_if (pt_not (pt_chain3 op_le op_le op_le pe_int (pv 5) (pv 6) (pe_gi rfl T.c_LONGEST_YEARS))) (pss_one ps_never) pss_nil)
  (pss_cons (ps_if (pt_not (pt_chain op_le op_le pe_int (pv 7) (pe_gi rfl T.c_MOST_NAMES))) (pss_one ps_never) pss_nil)
  (pss_cons (ps_fld (pv 0) (pe_callTy call_list_of rfl T.z_list bb_list (pa_cons (pv 1) pa_nil)) rfl)
  (pss_cons (ps_fld (pv 0) (pv 2) rfl)
  (pss_cons (ps_fld (pv 0) (pv 3) rfl)
  (pss_cons (ps_fld (pv 0) (pv 4) rfl)
  (pss_cons (ps_fld (pv 0) (pv 5) rfl)
  (pss_cons (ps_fld (pv 0) (pv 6) rfl)
  (pss_one (ps_fld (pv 0) (pv 7) rfl)))))))))))))), ?_⟩
    have hlm : (D.stays.map V.int).length = D.stays.length := List.length_map ..
    refine ⟨_, rfl, st, _, rfl, hS, ⟨g1, g2⟩, gs, ?_⟩
    refine ⟨_, rfl, _, _, rfl, rfl, _, rfl, iteP g3 ⟨_, _, rfl, rfl, _, rfl, iteNS g4 ?_⟩⟩
    refine ⟨_, rfl, _, _, rfl, rfl, _, rfl, iteP g5 ⟨_, rfl, _, _, rfl, rfl, _, rfl, iteP g6 ⟨_, rfl, st, _, rfl, .inl hS, _, _, rfl, rfl, _, rfl, iteNS (by omega) ?_⟩⟩⟩
    refine ⟨_, rfl, _, _, rfl, rfl, _, rfl, iteP g8 ⟨_, rfl, _, _, rfl, rfl, _, rfl, iteP g9 ⟨_, _, rfl, rfl, _, rfl, iteNS g10 ?_⟩⟩⟩
    refine ⟨_, rfl, _, _, rfl, rfl, _, rfl, iteP g11 ⟨_, _, rfl, rfl, _, rfl, iteNS g12 ?_⟩⟩
    refine ⟨_, rfl, st, _, rfl, .inl hS, fun lp hlp => ?_⟩
    have nx : x ≠ lp := ne_of_none hx hlp
    refine ⟨_, rfl, x, CRule, dx, _, rfl, (by rw [upd_ne nx]; exact hx), T.cl_Rule, T.na_Rule_lengths, lt1000 (by kernel_rfl), ?_⟩
    refine ⟨_, rfl, _, rfl, x, CRule, dx, _, rfl, upd_same, T.cl_Rule, T.na_Rule_gap, lt1000 (by kernel_rfl), ?_⟩
    refine ⟨_, rfl, _, rfl, x, CRule, dx, _, rfl, upd_same, T.cl_Rule, T.na_Rule_opens, lt1000 (by kernel_rfl), ?_⟩
    refine ⟨_, rfl, _, rfl, x, CRule, dx, _, rfl, upd_same, T.cl_Rule, T.na_Rule_shuts, lt1000 (by kernel_rfl), ?_⟩
    refine ⟨_, rfl, _, rfl, x, CRule, dx, _, rfl, upd_same, T.cl_Rule, T.na_Rule_least, lt1000 (by kernel_rfl), ?_⟩
    refine ⟨_, rfl, _, rfl, x, CRule, dx, _, rfl, upd_same, T.cl_Rule, T.na_Rule_most, lt1000 (by kernel_rfl), ?_⟩
    refine ⟨_, rfl, _, rfl, x, CRule, dx, _, rfl, upd_same, T.cl_Rule, T.na_Rule_names, lt1000 (by kernel_rfl), ?_⟩
    refine k lp _ hlp (fun b o e hb => ?_) ⟨⟨dx, upd_same.trans (congrArg (fun l => some (HO.ins CRule dx l)) (show _ = rflds lp D by kernel_rfl))⟩, ?_⟩
    · rw [upd_ne hb, upd_ne hb, upd_ne hb, upd_ne hb, upd_ne hb, upd_ne hb, upd_ne hb, upd_ne (ne_of_none e hlp)]
      exact e
    · rw [upd_ne nx.symm, upd_ne nx.symm, upd_ne nx.symm, upd_ne nx.symm, upd_ne nx.symm, upd_ne nx.symm, upd_ne nx.symm]
      exact upd_same

def spMade (C : Addr) : Sp := fun vs H Q _ => ∃ (d p : Addr) (D : DR), vs = [.ref d] ∧ DAt H d p D ∧ GoodD D ∧ ∀ (x lp : Addr) (H' : Hp), H x = none → H lp = none → Same H H' → RuleAt C H' x lp D → Q (.ref x) H'
theorem ok_made {f : Addr} {fd : FuncData} (U : Fun K "_law_made" "_law_made" s_made f fd) (T : Txt K mg CRule EBadAges EBadBand EBadBeat) (I_Rule : FnI P w K mg base (CX1 P w) "Rule" CRule 2 ["self", "stays", "gap", "opens", "shuts", "least", "most", "names"] (spInit K CRule)) :
    FnOk P w K mg base (CX1 P w) 4 f fd ["_law_d"] (spMade CRule) := by
  refine U.okX sc_made (fun vs H Q E h => ?_) (fun cdv A outer s H vs Q E hF hr h => ?_)
  · obtain ⟨d, p, D, rfl, _⟩ := h
    rfl
  · obtain ⟨d, p, D, rfl, ⟨hd, hp⟩, hG, k⟩ := h
    refine ⟨_, (PSs.p0 (pss_one (ps_ret (pe_mkS I_Rule (hr.mono (by first | decide | omega)) (passS std_cx) (pa_cons (pe_callTy call_list_of rfl T.z_list bb_list (pa_cons (pe_ix ix_list (pv 0) pe_int (fun _ _ => rfl)) pa_nil)) (pa_cons (pe_ix ix_list (pv 0) pe_int (fun _ _ => rfl)) (pa_cons (pe_ix ix_list (pv 0) pe_int (fun _ _ => rfl)) (pa_cons (pe_ix ix_list (pv 0) pe_int (fun _ _ => rfl)) (pa_cons (pe_ix ix_list (pv 0) pe_int (fun _ _ => rfl)) (pa_cons (pe_ix ix_list (pv 0) pe_int (fun _ _ => rfl)) (pa_cons (pe_ix ix_list (pv 0) pe_int (fun _ _ => rfl)) pa_nil))))))))))), ?_⟩
    refine ⟨_, rfl, d, _, _, _, rfl, rfl, SqL.of hd, rfl, p, _, rfl, .inl (SqL.of hp), fun st hst => ?_⟩
    have nd : d ≠ st := ne_of_none hd hst
    have hd2 : SqL K (upd H st (.lst (D.stays.map V.int))) d (drow p D) := SqL.of (by rw [upd_ne nd]; exact hd)
    refine ⟨_, rfl, d, _, _, _, rfl, rfl, hd2, rfl, _, rfl, d, _, _, _, rfl, rfl, hd2, rfl, _, rfl, d, _, _, _, rfl, rfl, hd2, rfl, _, rfl, d, _, _, _, rfl, rfl, hd2, rfl, _, rfl, d, _, _, _, rfl, rfl, hd2, rfl, _, rfl, d, _, _, _, rfl, rfl, hd2, rfl, fun x dx hx hdx hne => ?_⟩
    have s1 : Same H (upd H st (.lst (D.stays.map V.int))) := (Same.refl H).upd_new hst
    have s2 : Same (upd H st (.lst (D.stays.map V.int))) (upd (upd (upd H st (.lst (D.stays.map V.int))) dx (.own x)) x (.ins CRule dx [])) := fun b o e => by
      rw [upd_ne (ne_of_none e hx), upd_ne (ne_of_none e hdx)]
      exact e
    refine ⟨x, dx, st, D, rfl, upd_same, s2.seq (SqL.of upd_same), hG, fun lp H' hlp hk hR => ⟨rfl, ?_⟩⟩
    refine k x lp H' (s1.free hx) ((s1.trans s2).free hlp) (fun b o e => ?_) hR
    exact hk b o (s2 b o (s1 b o e)) (ne_of_none (s1 b o e) hx)

/-! ### sameness of two told things: the same numbers, texts, bools, Nones, and lists and tuples of such -/
def Scal : V → Prop
  | .non => True
  | .int _ => True
  | .str _ => True
  | _ => False
def SameS (R : Hp → V → V → Prop) (H : Hp) (x y : V) : Prop :=
  (x = y ∧ Scal x) ∨ ∃ (a b : Addr) (xs ys : List V), x = .ref a ∧ y = .ref b ∧ ((H a = some (.lst xs) ∧ H b = some (.lst ys)) ∨ (H a = some (.tup xs) ∧ H b = some (.tup ys))) ∧ xs.length = ys.length ∧ xs.length ≤ 1000 ∧
    ∀ (i : Nat) u v, xs[i]? = some u → ys[i]? = some v → R H u v
def SameN : Nat → Hp → V → V → Prop
  | 0 => fun _ _ _ => False
  | n + 1 => SameS (SameN n)
theorem SameN.same : ∀ (n : Nat) {H H' : Hp} {x y : V}, Same H H' → SameN n H x y → SameN n H' x y
  | 0, _, _, _, _, _, h => h
  | n + 1, H, H', x, y, s, h => by
    rcases h with h | ⟨a, b, xs, ys, e1, e2, h, l1, l2, h3⟩
    · exact .inl h
    · refine .inr ⟨a, b, xs, ys, e1, e2, ?_, l1, l2, fun i u v hu hv => SameN.same n s (h3 i u v hu hv)⟩
      rcases h with ⟨h1, h2⟩ | ⟨h1, h2⟩
      · exact .inl ⟨s _ _ h1, s _ _ h2⟩
      · exact .inr ⟨s _ _ h1, s _ _ h2⟩
theorem sameN_int {n : Nat} {H : Hp} {i : Int} : SameN (n + 1) H (.int i) (.int i) := .inl ⟨rfl, trivial⟩
theorem sameN_scal {n : Nat} {H : Hp} {x : V} (h : Scal x) : SameN (n + 1) H x x := .inl ⟨rfl, h⟩
/-- two lists of the same numbers -/
theorem sameN_ints {n : Nat} {H : Hp} {a b : Addr} {ns : List Int} (h1 : H a = some (.lst (ns.map V.int))) (h2 : H b = some (.lst (ns.map V.int))) (hl : ns.length ≤ 1000) : SameN (n + 2) H (.ref a) (.ref b) := by
  refine .inr ⟨a, b, _, _, rfl, rfl, .inl ⟨h1, h2⟩, rfl, by rw [List.length_map]; exact hl, fun i u v hu hv => ?_⟩
  rw [hu] at hv
  cases hv
  obtain ⟨z, rfl, _⟩ := map_at hu
  exact sameN_int
def spSame (n : Nat) : Sp := fun vs H Q _ => ∃ x y : V, vs = [x, y] ∧ SameN n H x y ∧ ∀ H', Same H H' → Q (.bl true) H'
theorem ok_same_step {f : Addr} {fd : FuncData} (n k : Nat) (U : Fun K "_law_same" "_law_same" s_same f fd) (T : Txt K mg CRule EBadAges EBadBand EBadBeat) (F_same : Fn P w K mg base (CX1 P w) "_law_same" k ["_law_found", "_law_due"] (spSame n)) :
    FnOk P w K mg base (CX1 P w) (k + 1) f fd ["_law_found", "_law_due"] (spSame (n + 1)) := by
  refine U.okX sc_same (fun vs H Q E h => ?_) (fun cdv A outer s H vs Q E hF hr h => ?_)
  · obtain ⟨x, y, rfl, _⟩ := h
    rfl
  · obtain ⟨x, y, rfl, hS, k⟩ := h
    refine ⟨_, (PSs.p0 (pss_cons (ps_if (pt_cmpR op_isN (pv 1) pe_non (nomark _)) (pss_one (ps_ret (pe_cmpR op_isN (pv 0) pe_non (nomark _)))) pss_nil)
  (pss_cons (ps_if (pt_cmpR op_ne (pe_callB call_isi rfl T.z_isinstance bb_isinstance (pa_cons (pv 1) (pa_cons (pe_ty rfl T.z_bool bb_bool) pa_nil))) (pe_callB call_isi rfl T.z_isinstance bb_isinstance (pa_cons (pv 0) (pa_cons (pe_ty rfl T.z_bool bb_bool) pa_nil))) (nomark _)) (pss_one (ps_ret pe_bl)) pss_nil)
  (pss_cons (ps_if (pt_val (pe_callB call_isiT rfl T.z_isinstance bb_isinstance (pa_cons (pv 1) (pa_cons (pe_tup (pa_cons (pe_ty rfl T.z_int bb_int) (pa_cons (pe_ty rfl T.z_str bb_str) pa_nil))) pa_nil)))) (pss_one (ps_ret (pe_and (pe_cmpR op_eq (pe_callB call_isi rfl T.z_isinstance bb_isinstance (pa_cons (pv 0) (pa_cons (pe_ty rfl T.z_int bb_int) pa_nil))) (pe_callB call_isi rfl T.z_isinstance bb_isinstance (pa_cons (pv 1) (pa_cons (pe_ty rfl T.z_int bb_int) pa_nil))) (nomark _)) (pe_one (pe_cmpR op_eq (pv 0) (pv 1) (nomark _)))))) pss_nil)
  (pss_cons (ps_if (PW.pt (pw_and (pt_val (pe_callB call_isi rfl T.z_isinstance bb_isinstance (pa_cons (pv 1) (pa_cons (pe_ty rfl T.z_tuple bb_tuple) pa_nil)))) (pw_and1 (pt_not (pt_val (pe_callB call_isi rfl T.z_isinstance bb_isinstance (pa_cons (pv 0) (pa_cons (pe_ty rfl T.z_tuple bb_tuple) pa_nil)))))))) (pss_one (ps_ret pe_bl)) pss_nil)
  (pss_cons (ps_if (PW.pt (pw_and (pt_val (pe_callB call_isi rfl T.z_isinstance bb_isinstance (pa_cons (pv 1) (pa_cons (pe_ty rfl T.z_list bb_list) pa_nil)))) (pw_and1 (pt_not (pt_val (pe_callB call_isi rfl T.z_isinstance bb_isinstance (pa_cons (pv 0) (pa_cons (pe_ty rfl T.z_list bb_list) pa_nil)))))))) (pss_one (ps_ret pe_bl)) pss_nil)
  (pss_cons (ps_if (pt_cmpR op_ne (pe_callB call_len_seq rfl T.z_len bb_len (pa_cons (pv 0) pa_nil)) (pe_callB call_len_seq rfl T.z_len bb_len (pa_cons (pv 1) pa_nil)) (nomark _)) (pss_one (ps_ret pe_bl)) pss_nil)
  (pss_cons (ps_for (passes_own std_cx hF) rfl (pi_range1 rfl T.z_range (pa_cons (pe_callB call_len_seq rfl T.z_len bb_len (pa_cons (pv 1) pa_nil)) pa_nil)) (pg_name (i := 2) sc_same.nd rfl (Or.inl rfl))
  (pss_one (ps_if (pt_not (pt_val (pe_fnS F_same (hr.mono (by first | decide | omega)) (passS std_cx) (pa_cons (pe_ix ix_seq (pv 0) (pv 2) (fun _ _ => rfl)) (pa_cons (pe_ix ix_seq (pv 1) (pv 2) (fun _ _ => rfl)) pa_nil))))) (pss_one (ps_ret pe_bl)) pss_nil)))
  (pss_one (ps_ret pe_bl)))))))))), ?_⟩
    rcases hS with ⟨rfl, hsc⟩ | ⟨a, b, xs, ys, rfl, rfl, hab, hl, hl2, hel⟩
    · cases x with
      | non =>
        exact ⟨_, rfl, rfl, _, rfl, iteT ⟨_, rfl, rfl, k H (Same.refl H)⟩⟩
      | bl _ => exact hsc.elim
      | int x =>
        refine ⟨_, rfl, rfl, _, rfl, iteF ?_⟩
        refine ⟨_, rfl, _, _, _, _, rfl, .int _, kit_int_bool, _, rfl, _, _, _, _, rfl, .int _, kit_int_bool, rfl, _, rfl, iteF ?_⟩
        refine ⟨_, rfl, (by show 2 ≤ sizeLine; decide), fun p hp => ⟨_, p, ["int", "str"], _, _, rfl, upd_same, .int _, kit_int_IS, _, rfl, iteT ?_⟩⟩
        refine ⟨_, rfl, _, _, _, _, rfl, .int _, kit_int_int, _, rfl, _, _, _, _, rfl, .int _, kit_int_int, rfl, _, rfl, iteT ?_⟩
        refine ⟨_, rfl, _, rfl, rfl, ?_⟩
        rw [decide_eq_true rfl]
        exact k _ ((Same.refl H).upd_new hp)
      | str x =>
        refine ⟨_, rfl, rfl, _, rfl, iteF ?_⟩
        refine ⟨_, rfl, _, _, _, _, rfl, .str _, kit_str_bool, _, rfl, _, _, _, _, rfl, .str _, kit_str_bool, rfl, _, rfl, iteF ?_⟩
        refine ⟨_, rfl, (by show 2 ≤ sizeLine; decide), fun p hp => ⟨_, p, ["int", "str"], _, _, rfl, upd_same, .str _, kit_str_IS, _, rfl, iteT ?_⟩⟩
        refine ⟨_, rfl, _, _, _, _, rfl, .str _, kit_str_int, _, rfl, _, _, _, _, rfl, .str _, kit_str_int, rfl, _, rfl, iteT ?_⟩
        refine ⟨_, rfl, _, rfl, rfl, ?_⟩
        rw [decide_eq_true rfl]
        exact k _ ((Same.refl H).upd_new hp)
      | byt _ => exact hsc.elim
      | flt _ => exact hsc.elim
      | ref _ => exact hsc.elim
      | ty _ => exact hsc.elim
    · refine ⟨_, rfl, rfl, _, rfl, iteF ?_⟩
      have sq : ∀ {H1 : Hp}, Same H H1 → (SqL K H1 a xs ∨ SqT K H1 a xs) ∧ (SqL K H1 b ys ∨ SqT K H1 b ys) := fun s1 => by
        rcases hab with ⟨ha, hb⟩ | ⟨ha, hb⟩
        · exact ⟨.inl (SqL.of (s1 _ _ ha)), .inl (SqL.of (s1 _ _ hb))⟩
        · exact ⟨.inr (SqT.of (s1 _ _ ha)), .inr (SqT.of (s1 _ _ hb))⟩
      have ix : ∀ {H1 : Hp} {c : Addr} {zs : List V} {i : Nat} {u : V} {Q : VK}, (SqL K H1 c zs ∨ SqT K H1 c zs) → zs[i]? = some u → Q u H1 → rIx K (.ref c) (.int (0 + (i : Int))) H1 Q := fun {H1 c zs i u Q} h1 h2 h3 => by
        rw [Int.zero_add]
        rcases h1 with h1 | h1
        · exact .inl ⟨c, zs, _, u, rfl, rfl, h1, atI_nat h2, h3⟩
        · exact .inr (.inl ⟨c, zs, _, u, rfl, rfl, h1, atI_nat h2, h3⟩)
      rcases hab with ⟨ha, hb⟩ | ⟨ha, hb⟩
      · refine ⟨_, rfl, _, _, _, _, rfl, .lst hb, kit_list_bool, _, rfl, _, _, _, _, rfl, .lst ha, kit_list_bool, rfl, _, rfl, iteF ?_⟩
        refine ⟨_, rfl, (by show 2 ≤ sizeLine; decide), fun p hp => ?_⟩
        have s1 : Same H (upd H p (.tup ([("int" : String), "str"].map V.ty))) := (Same.refl H).upd_new hp
        have ha1 := s1 _ _ ha
        have hb1 := s1 _ _ hb
        refine ⟨_, p, ["int", "str"], _, _, rfl, upd_same, .lst hb1, kit_list_IS, _, rfl, iteF ?_⟩
        refine ⟨_, rfl, _, _, _, _, rfl, .lst hb1, kit_list_tuple, _, rfl, iteF ?_⟩
        refine iteF ?_
        refine ⟨_, rfl, _, _, _, _, rfl, .lst hb1, kit_list_list, _, rfl, iteT ⟨_, rfl, _, _, _, _, rfl, .lst ha1, kit_list_list, _, rfl, iteF ?_⟩⟩
        refine ⟨_, rfl, a, _, rfl, .inl (SqL.of ha1), _, rfl, b, _, rfl, .inl (SqL.of hb1), rfl, _, rfl, iteNS (by rw [hl]) ?_⟩
        refine ⟨_, rfl, b, _, rfl, .inl (SqL.of hb1), _, rfl, by omega, by omega, for_range (fun i σ H2 => Same H H2 ∧ ∃ v, σ = [some (.ref a), some (.ref b), v]) ⟨s1, _, rfl⟩ ?_ ?_⟩
        · rintro i σ H2 hi ⟨s2, v, rfl⟩
          have hi1 : i < ys.length := by omega
          have hi2 : i < xs.length := by omega
          have q := sq s2
          refine ⟨_, rfl, _, rfl, ix q.1 (List.getElem?_eq_getElem hi2) ⟨_, rfl, _, rfl, ix q.2 (List.getElem?_eq_getElem hi1) ⟨_, _, rfl, SameN.same n s2 (hel i _ _ (List.getElem?_eq_getElem hi2) (List.getElem?_eq_getElem hi1)), fun H3 s3 => ⟨_, rfl, iteF ?_⟩⟩⟩⟩
          exact ⟨s2.trans s3, _, rfl⟩
        · rintro σ H2 ⟨s2, v, rfl⟩
          exact k H2 s2
      · refine ⟨_, rfl, _, _, _, _, rfl, .tup hb, kit_tuple_bool, _, rfl, _, _, _, _, rfl, .tup ha, kit_tuple_bool, rfl, _, rfl, iteF ?_⟩
        refine ⟨_, rfl, (by show 2 ≤ sizeLine; decide), fun p hp => ?_⟩
        have s1 : Same H (upd H p (.tup ([("int" : String), "str"].map V.ty))) := (Same.refl H).upd_new hp
        have ha1 := s1 _ _ ha
        have hb1 := s1 _ _ hb
        refine ⟨_, p, ["int", "str"], _, _, rfl, upd_same, .tup hb1, kit_tuple_IS, _, rfl, iteF ?_⟩
        refine ⟨_, rfl, _, _, _, _, rfl, .tup hb1, kit_tuple_tuple, _, rfl, iteT ⟨_, rfl, _, _, _, _, rfl, .tup ha1, kit_tuple_tuple, _, rfl, iteF ?_⟩⟩
        refine ⟨_, rfl, _, _, _, _, rfl, .tup hb1, kit_tuple_list, _, rfl, iteF ?_⟩
        refine iteF ?_
        refine ⟨_, rfl, a, _, rfl, .inr (SqT.of ha1), _, rfl, b, _, rfl, .inr (SqT.of hb1), rfl, _, rfl, iteNS (by rw [hl]) ?_⟩
        refine ⟨_, rfl, b, _, rfl, .inr (SqT.of hb1), _, rfl, by omega, by omega, for_range (fun i σ H2 => Same H H2 ∧ ∃ v, σ = [some (.ref a), some (.ref b), v]) ⟨s1, _, rfl⟩ ?_ ?_⟩
        · rintro i σ H2 hi ⟨s2, v, rfl⟩
          have hi1 : i < ys.length := by omega
          have hi2 : i < xs.length := by omega
          have q := sq s2
          refine ⟨_, rfl, _, rfl, ix q.1 (List.getElem?_eq_getElem hi2) ⟨_, rfl, _, rfl, ix q.2 (List.getElem?_eq_getElem hi1) ⟨_, _, rfl, SameN.same n s2 (hel i _ _ (List.getElem?_eq_getElem hi2) (List.getElem?_eq_getElem hi1)), fun H3 s3 => ⟨_, rfl, iteF ?_⟩⟩⟩⟩
          exact ⟨s2.trans s3, _, rfl⟩
        · rintro σ H2 ⟨s2, v, rfl⟩
          exact k H2 s2
theorem ok_same {f : Addr} {fd : FuncData} (U : Fun K "_law_same" "_law_same" s_same f fd) (T : Txt K mg CRule EBadAges EBadBand EBadBeat) (hm : mg "_law_same" = some (.ref f)) (hk : PySem.W.keepIn K (.ref f) = true) (hb : Binds K fd ["_law_found", "_law_due"] []) :
    ∀ n : Nat, FnOk P w K mg base (CX1 P w) (n + 1) f fd ["_law_found", "_law_due"] (spSame (n + 1))
  | 0 => ok_same_step 0 0 U T ⟨f, fd, hm, hk, hb, ⟨fun _ _ _ _ ⟨_, _, _, h, _⟩ => h.elim, fun _ _ _ _ _ _ _ _ _ _ _ _ _ ⟨_, _, _, h, _⟩ => h.elim⟩⟩
  | n + 1 => ok_same_step (n + 1) (n + 1) U T ⟨f, fd, hm, hk, hb, ok_same U T hm hk hb n⟩

def spMany (K : PySem.W.Frag) : Sp := fun vs H Q _ => ∃ (a : Addr) (ns : List Int) (n : Int), vs = [.ref a, .int n] ∧ SqL K H a (ns.map V.int) ∧ ns.length ≤ 63 ∧ (1 ≤ n ∧ n ≤ 63) ∧ ∀ m : Int, n ≤ m → m ≤ 63 → Q (.int m) H
theorem ok_many {f : Addr} {fd : FuncData} (U : Fun K "_law_many" "_law_many" s_many f fd) (T : Txt K mg CRule EBadAges EBadBand EBadBeat) : FnOk P w K mg base (CX1 P w) 1 f fd ["_law_script", "_law_few"] (spMany K) := by
  refine U.okX sc_many (fun vs H Q E h => ?_) (fun cdv A outer s H vs Q E hF hr h => ?_)
  · obtain ⟨a, ns, n, rfl, _⟩ := h
    rfl
  · obtain ⟨a, ns, n, rfl, hS, hl, ⟨n1, n2⟩, k⟩ := h
    refine ⟨_, (PSs.p0 (pss_one (ps_ret (pe_callB (call_max2 rfl) rfl T.z_max bb_max (pa_cons (pv 1) (pa_cons (pe_callB (call_min2 rfl) rfl T.z_min bb_min (pa_cons (pe_callB call_len_seq rfl T.z_len bb_len (pa_cons (pv 0) pa_nil)) (pa_cons pe_int pa_nil))) pa_nil)))))), ?_⟩
    have hlm : (ns.map V.int).length = ns.length := List.length_map ..
    refine ⟨_, rfl, _, rfl, a, _, rfl, .inl hS, _, _, rfl, _, _, rfl, k _ ?_ ?_⟩
    · split <;> split <;> omega
    · split <;> split <;> omega

/-! ### the grade: walking the stays -/
def gradeF : List Int → Int → Int → Option Int
  | [], _, _ => none
  | s :: r, n, k => if n < s then some k else gradeF r (n - s) (k + 1)
def gradeOf (ss : List Int) (n : Int) : Option Int := if n < 0 then none else gradeF ss n 0
def optV : Option Int → V
  | none => .non
  | some k => .int k
theorem gradeF_drop {ss : List Int} {i : Nat} {z n k : Int} (h : ss[i]? = some z) : gradeF (ss.drop i) n k = if n < z then some k else gradeF (ss.drop (i + 1)) (n - z) (k + 1) := by
  obtain ⟨hi, e⟩ := List.getElem?_eq_some_iff.mp h
  rw [List.drop_eq_getElem_cons hi, e]
  rfl
theorem gradeF_end {ss : List Int} {n k : Int} : gradeF (ss.drop ss.length) n k = none := by rw [List.drop_length]; rfl
def spGradeL (K : PySem.W.Frag) : Sp := fun vs H Q _ => ∃ (p : Addr) (ss : List Int) (n : Int), vs = [.ref p, .int n] ∧ SqL K H p (ss.map V.int) ∧ ss.length ≤ 100 ∧ Q (optV (gradeOf ss n)) H
theorem ok_grade {f : Addr} {fd : FuncData} (U : Fun K "_law_grade" "_law_grade" s_grade f fd) (T : Txt K mg CRule EBadAges EBadBand EBadBeat) : FnOk P w K mg base (CX1 P w) 1 f fd ["_law_stays", "_law_stood"] (spGradeL K) := by
  refine U.okX sc_grade (fun vs H Q E h => ?_) (fun cdv A outer s H vs Q E hF hr h => ?_)
  · obtain ⟨p, ss, n, rfl, _⟩ := h
    rfl
  · obtain ⟨p, ss, n, rfl, hS, hl, k⟩ := h
    refine ⟨_, (PSs.p0 (pss_cons (ps_if (pt_cmpR op_lt (pv 1) pe_int (nomark _)) (pss_one (ps_ret pe_non)) pss_nil)
  (pss_cons (ps_for (passes_own std_cx hF) rfl (pi_range1 rfl T.z_range (pa_cons (pe_callB call_len_seq rfl T.z_len bb_len (pa_cons (pv 0) pa_nil)) pa_nil)) (pg_name (i := 2) sc_grade.nd rfl (Or.inl rfl))
  (pss_cons (ps_if (pt_cmpR op_lt (pv 1) (pe_ix ix_list (pv 0) (pv 2) (fun _ _ => rfl)) (nomark _)) (pss_one (ps_ret (pv 2))) pss_nil)
  (pss_one (ps_set (i := 1) sc_grade.nd rfl (Or.inl rfl) (pe_op op_sub (pv 1) (pe_ix ix_list (pv 0) (pv 2) (fun _ _ => rfl)))))))
  (pss_one (ps_ret pe_non))))), ?_⟩
    have hlm : (ss.map V.int).length = ss.length := List.length_map ..
    refine ⟨_, rfl, _, _, rfl, rfl, _, rfl, ite2 (fun hc => ?_) (fun hc => ?_)⟩
    · have e : gradeOf ss n = none := by unfold gradeOf; rw [if_pos (of_decide_eq_true hc)]
      rw [e] at k
      exact k
    · have hn : ¬ n < 0 := fun h => hc (decide_eq_true h)
      have e : gradeOf ss n = gradeF ss n 0 := by unfold gradeOf; rw [if_neg hn]
      rw [e] at k
      refine ⟨_, rfl, p, _, rfl, .inl hS, _, rfl, by omega, by omega, for_range (fun i σ H2 => H2 = H ∧ ∃ (m : Int) (v : Option V), σ = [some (.ref p), some (.int m), v] ∧ gradeF ss n 0 = gradeF (ss.drop i) m (i : Int)) ⟨rfl, n, _, rfl, rfl⟩ ?_ ?_⟩
      · rintro i σ H2 hi ⟨rfl, m, v, rfl, em⟩
        have hi' : i < ss.length := by omega
        have hz : ss[i]? = some ss[i] := List.getElem?_eq_getElem hi'
        have hv : atI (ss.map V.int) (0 + (i : Int)) = some (V.int ss[i]) := by rw [Int.zero_add]; exact atI_nat (by rw [List.getElem?_map, hz]; rfl)
        rw [gradeF_drop hz] at em
        refine ⟨_, rfl, _, rfl, _, rfl, p, _, _, _, rfl, rfl, hS, hv, _, _, rfl, rfl, _, rfl, ite2 (fun hc => ?_) (fun hc => ?_)⟩
        · rw [if_pos (of_decide_eq_true hc)] at em
          rw [em] at k
          refine ⟨_, rfl, ?_⟩
          have e2 : (0 + (i : Int)) = i := Int.zero_add _
          rw [e2]
          exact k
        · rw [if_neg (fun h => hc (decide_eq_true h))] at em
          exact ⟨_, rfl, _, rfl, _, rfl, p, _, _, _, rfl, rfl, hS, hv, _, _, rfl, rfl, rfl, _, _, rfl, em⟩
      · rintro σ H2 ⟨rfl, m, v, rfl, em⟩
        have e3 : (Int.toNat ((ss.map V.int).length : Int)) = ss.length := by omega
        rw [e3, gradeF_end] at em
        rw [em] at k
        exact k

/-! ### how many feasts a set has stood when its men may have sons, and when no more -/
theorem sum_nonneg {l : List Int} (h : ∀ z ∈ l, 0 ≤ z) : 0 ≤ l.sum := by
  induction l with
  | nil => decide
  | cons a r ih =>
    have h1 := h a (List.mem_cons_self ..)
    have h2 := ih fun z hz => h z (List.mem_cons_of_mem _ hz)
    rw [List.sum_cons]; omega
theorem take_succ_sum : ∀ {ss : List Int} {j : Nat} {z : Int}, ss[j]? = some z → (ss.take (j + 1)).sum = (ss.take j).sum + z
  | [], _, _, h => by cases h
  | a :: r, 0, z, h => by cases h; show (a :: []).sum = ([] : List Int).sum + a; rw [List.sum_cons]; show a + ([] : List Int).sum = _; rw [show ([] : List Int).sum = 0 from rfl]; omega
  | a :: r, j + 1, z, h => by
    have ih := take_succ_sum (ss := r) (j := j) (z := z) h
    show (a :: r.take (j + 1)).sum = (a :: r.take j).sum + z
    rw [List.sum_cons, List.sum_cons, ih]; omega
theorem take_mono : ∀ {ss : List Int} {i j : Nat}, (∀ z ∈ ss, 0 ≤ z) → i ≤ j → (ss.take i).sum ≤ (ss.take j).sum
  | [], i, j, _, _ => by rw [List.take_nil, List.take_nil]; exact Int.le_refl _
  | a :: r, 0, j, h, _ => by
    rw [List.take_zero]
    exact sum_nonneg fun z hz => h z (List.mem_of_mem_take hz)
  | a :: r, i + 1, 0, _, h => by omega
  | a :: r, i + 1, j + 1, h, hij => by
    show (a :: r.take i).sum ≤ (a :: r.take j).sum
    have ih := take_mono (ss := r) (i := i) (j := j) (fun z hz => h z (List.mem_cons_of_mem _ hz)) (by omega)
    rw [List.sum_cons, List.sum_cons]; omega
def bgn (D : DR) : Int := (D.stays.take D.opens.toNat).sum
def enn (D : DR) : Int := (D.stays.take (D.shuts.toNat + 1)).sum
theorem GoodD.nn {D : DR} (g : GoodD D) : ∀ z ∈ D.stays, 0 ≤ z := fun z hz => by have := (g.st z hz).1; omega
theorem sum48 : ∀ {ss : List Int}, (∀ z ∈ ss, 1 ≤ z ∧ z ≤ 6) → ss.sum ≤ 6 * (ss.length : Int)
  | [], _ => by decide
  | a :: r, h => by
    have h1 := (h a (List.mem_cons_self ..)).2
    have ih := sum48 (ss := r) fun z hz => h z (List.mem_cons_of_mem _ hz)
    rw [List.sum_cons, List.length_cons]; omega
theorem GoodD.be {D : DR} (g : GoodD D) : 0 ≤ bgn D ∧ bgn D < enn D ∧ enn D ≤ D.stays.sum ∧ D.stays.sum ≤ 48 := by
  have h1 := sum_nonneg (l := D.stays.take D.opens.toNat) fun z hz => g.nn z (List.mem_of_mem_take hz)
  have hs : D.shuts.toNat < D.stays.length := by have := g.op; omega
  have h2 := take_succ_sum (List.getElem?_eq_getElem hs)
  have h3 := (g.st _ (List.getElem_mem hs)).1
  have h4 := take_mono (i := D.opens.toNat) (j := D.shuts.toNat) g.nn (by have := g.op; omega)
  have h5 := take_mono (i := D.shuts.toNat + 1) (j := D.stays.length) g.nn (by omega)
  rw [List.take_length] at h5
  have h6 := sum48 g.st
  have h7 := g.len
  refine ⟨h1, ?_, h5, by omega⟩
  show (D.stays.take D.opens.toNat).sum < (D.stays.take (D.shuts.toNat + 1)).sum
  omega
theorem gradeF_spec : ∀ {ss : List Int} {n k : Int}, (∀ z ∈ ss, 0 ≤ z) → 0 ≤ n → n < ss.sum → ∃ j : Nat, gradeF ss n k = some (k + (j : Int)) ∧ j < ss.length ∧ (ss.take j).sum ≤ n ∧ n < (ss.take (j + 1)).sum
  | [], n, k, _, h0, h1 => by have h2 : n < 0 := h1; omega
  | a :: r, n, k, hz, h0, h1 => by
    rw [List.sum_cons] at h1
    by_cases h : n < a
    · refine ⟨0, ?_, by rw [List.length_cons]; omega, h0, ?_⟩
      · show (if n < a then some k else _) = _
        rw [if_pos h]; congr 1; omega
      · show n < (a :: []).sum
        rw [List.sum_cons]; show n < a + 0; omega
    · obtain ⟨j, e, hl, h2, h3⟩ := gradeF_spec (ss := r) (n := n - a) (k := k + 1) (fun z h => hz z (List.mem_cons_of_mem _ h)) (by omega) (by omega)
      refine ⟨j + 1, ?_, by rw [List.length_cons]; omega, ?_, ?_⟩
      · show (if n < a then some k else _) = _
        rw [if_neg h, e]; congr 1; omega
      · show (a :: r.take j).sum ≤ n
        rw [List.sum_cons]; omega
      · show n < (a :: r.take (j + 1)).sum
        rw [List.sum_cons]; omega
/-- among the feasts that a set stands, its men may have sons from the one number on, to the other -/
theorem grade_between {D : DR} (g : GoodD D) {n : Int} (h0 : 0 ≤ n) (h1 : n < D.stays.sum) : ∃ k : Int, gradeOf D.stays n = some k ∧ (D.opens ≤ k ↔ bgn D ≤ n) ∧ (k ≤ D.shuts ↔ n < enn D) := by
  obtain ⟨j, e, hl, h2, h3⟩ := gradeF_spec (k := 0) g.nn h0 h1
  have ho := g.op
  refine ⟨j, ?_, ⟨fun h => ?_, fun h => ?_⟩, ⟨fun h => ?_, fun h => ?_⟩⟩
  · unfold gradeOf; rw [if_neg (by omega), e]; congr 1; omega
  · have := take_mono (i := D.opens.toNat) (j := j) g.nn (by omega)
    show (D.stays.take D.opens.toNat).sum ≤ n
    omega
  · by_cases hj : D.opens ≤ j
    · exact hj
    · have := take_mono (i := j + 1) (j := D.opens.toNat) g.nn (by omega)
      have h4 : (D.stays.take D.opens.toNat).sum ≤ n := h
      omega
  · have := take_mono (i := j + 1) (j := D.shuts.toNat + 1) g.nn (by omega)
    show n < (D.stays.take (D.shuts.toNat + 1)).sum
    omega
  · by_cases hj : (j : Int) ≤ D.shuts
    · exact hj
    · have := take_mono (i := D.shuts.toNat + 1) (j := j) g.nn (by omega)
      have h4 : n < (D.stays.take (D.shuts.toNat + 1)).sum := h
      omega
def spStays (C : Addr) : Sp := fun vs H Q _ => ∃ (x lp : Addr) (D : DR), vs = [.ref x] ∧ RuleAt C H x lp D ∧ ∀ l, H l = none → Q (.ref l) (upd H l (.lst (D.stays.map V.int)))
theorem ok_stays {f : Addr} {fd : FuncData} (U : Fun K "stays" "Rule.stays" s_Rule_stays f fd) (T : Txt K mg CRule EBadAges EBadBand EBadBeat) : FnOk P w K mg base (CX1 P w) 1 f fd ["self"] (spStays CRule) := by
  refine U.okX sc_Rule_stays (fun vs H Q E h => ?_) (fun cdv A outer s H vs Q E hF hr h => ?_)
  · obtain ⟨x, lp, D, rfl, _⟩ := h
    rfl
  · obtain ⟨x, lp, D, rfl, ⟨⟨dx, hx⟩, hlp⟩, k⟩ := h
    refine ⟨_, (PSs.p0 (pss_one (ps_ret (pe_callTy call_list_of rfl T.z_list bb_list (pa_cons (pe_fld (pv 0) rfl) pa_nil))))), ?_⟩
    exact ⟨_, rfl, x, CRule, dx, _, _, rfl, hx, T.cl_Rule, T.na_Rule_lengths, rf_lengths _ _, lp, _, rfl, .inl (SqL.of hlp), k⟩
def spBegin0 (C : Addr) : Sp := fun vs H Q _ => ∃ (x lp : Addr) (D : DR) (j : Nat), vs = [.ref x, .int (j : Int)] ∧ RuleAt C H x lp D ∧ j < D.stays.length ∧ ∀ H', Same H H' → Q (.int (D.stays.take j).sum) H'
theorem ok_begin0 {f : Addr} {fd : FuncData} (U : Fun K "begin" "Rule.begin" s_Rule_begin f fd) (T : Txt K mg CRule EBadAges EBadBand EBadBeat) : FnOk P w K mg base (CX1 P w) 1 f fd ["self", "grade"] (spBegin0 CRule) := by
  refine U.okX sc_Rule_begin (fun vs H Q E h => ?_) (fun cdv A outer s H vs Q E hF hr h => ?_)
  · obtain ⟨x, lp, D, j, rfl, _⟩ := h
    rfl
  · obtain ⟨x, lp, D, j, rfl, ⟨⟨dx, hx⟩, hlp⟩, hj, k⟩ := h
    refine ⟨_, (PSs.p0 (pss_cons (ps_if (pt_not (pt_chain op_le op_lt pe_int (pv 1) (pe_callB call_len_seq rfl T.z_len bb_len (pa_cons (pe_fld (pv 0) rfl) pa_nil)))) (pss_one ps_never) pss_nil)
  (pss_one (ps_ret (pe_callB (call_sumL rfl) rfl T.z_sum bb_sum (pa_cons (pe_slice sl_list (pe_fld (pv 0) rfl) po_none (po_some (pv 1))) pa_nil)))))), ?_⟩
    have hlm : (D.stays.map V.int).length = D.stays.length := List.length_map ..
    refine ⟨_, rfl, _, _, rfl, rfl, _, rfl, iteP (by omega) ⟨_, rfl, x, CRule, dx, _, _, rfl, hx, T.cl_Rule, T.na_Rule_lengths, rf_lengths _ _, lp, _, rfl, .inl (SqL.of hlp), _, _, rfl, rfl, _, rfl, iteNS (by omega) ?_⟩⟩
    refine ⟨_, rfl, x, CRule, dx, _, _, rfl, hx, T.cl_Rule, T.na_Rule_lengths, rf_lengths _ _, _, rfl, _, rfl, lp, _, rfl, SqL.of hlp, fun p hp => ?_⟩
    refine ⟨p, D.stays.take j, rfl, SqL.of (by rw [upd_same, cutV_to, List.map_take]), ?_⟩
    exact k _ ((Same.refl H).upd_new hp)
def spFF (C : Addr) : Sp := fun vs H Q _ => ∃ (x lp : Addr) (D : DR), vs = [.ref x] ∧ RuleAt C H x lp D ∧ GoodD D ∧ ∀ (r : Addr) (H' : Hp), H r = none → Same H H' → H' r = some (.tup [.int (bgn D), .int (enn D)]) → Q (.ref r) H'
theorem ok_ff {f : Addr} {fd : FuncData} (U : Fun K "fathering_feasts" "fathering_feasts" s_fathering_feasts f fd) (T : Txt K mg CRule EBadAges EBadBand EBadBeat) (M_Rule_begin : FnM P w K mg base (CX1 P w) CRule "begin" 1 ["self", "grade"] (spBegin0 CRule)) (M_Rule_stays : FnM P w K mg base (CX1 P w) CRule "stays" 1 ["self"] (spStays CRule)) :
    FnOk P w K mg base (CX1 P w) 2 f fd ["rule"] (spFF CRule) := by
  refine U.okX sc_fathering_feasts (fun vs H Q E h => ?_) (fun cdv A outer s H vs Q E hF hr h => ?_)
  · obtain ⟨x, lp, D, rfl, _⟩ := h
    rfl
  · obtain ⟨x, lp, D, rfl, hR, hG, k⟩ := h
    obtain ⟨dx, hx⟩ := hR.ob
    have ho := hG.op
    obtain ⟨o, eo⟩ := Int.eq_ofNat_of_zero_le ho.1
    obtain ⟨u, eu⟩ := Int.eq_ofNat_of_zero_le (show 0 ≤ D.shuts by omega)
    have hu : u < D.stays.length := by omega
    have hv : atI (D.stays.map V.int) D.shuts = some (V.int D.stays[u]) := by rw [eu]; exact atI_nat (by rw [List.getElem?_map, List.getElem?_eq_getElem hu]; rfl)
    refine ⟨_, (PSs.p0 (pss_one (ps_ret (pe_tup (pa_cons (pe_mtS (pv 0) M_Rule_begin (hr.mono (by first | decide | omega)) (passS std_cx) (pa_cons (pe_fld (pv 0) rfl) pa_nil) T.cl_Rule) (pa_cons (pe_op op_add (pe_mtS (pv 0) M_Rule_begin (hr.mono (by first | decide | omega)) (passS std_cx) (pa_cons (pe_fld (pv 0) rfl) pa_nil) T.cl_Rule) (pe_ix ix_list (pe_mt0S (pv 0) M_Rule_stays (hr.mono (by first | decide | omega)) (passS std_cx) T.cl_Rule) (pe_fld (pv 0) rfl) (fun _ _ => rfl))) pa_nil)))))), ?_⟩
    refine ⟨_, rfl, x, dx, _, rfl, hx, (by kernel_rfl), _, rfl, x, CRule, dx, _, _, rfl, hx, T.cl_Rule, T.na_Rule_opens, rf_opens _ _, x, lp, D, o, (by rw [eo] <;> rfl), hR, by omega, fun H1 s1 => ?_⟩
    have hx1 := s1 _ _ hx
    refine ⟨_, rfl, x, dx, _, rfl, hx1, (by kernel_rfl), _, rfl, x, CRule, dx, _, _, rfl, hx1, T.cl_Rule, T.na_Rule_shuts, rf_shuts _ _, x, lp, D, u, (by rw [eu] <;> rfl), hR.same s1, hu, fun H2 s2 => ?_⟩
    have hx2 := s2 _ _ hx1
    refine ⟨_, rfl, x, dx, _, rfl, hx2, (by kernel_rfl), x, lp, D, rfl, (hR.same s1).same s2, fun l hl => ?_⟩
    have hx3 := ((Same.refl H2).upd_new (o := .lst (D.stays.map V.int)) hl) _ _ hx2
    refine ⟨_, rfl, x, CRule, dx, _, _, rfl, hx3, T.cl_Rule, T.na_Rule_shuts, rf_shuts _ _, l, _, _, _, rfl, rfl, SqL.of upd_same, hv, _, _, rfl, rfl, (by show 2 ≤ sizeLine; decide), fun r hr => ?_⟩
    have s3 : Same H (upd H2 l (.lst (D.stays.map V.int))) := (s1.trans s2).upd_new hl
    have e1 : (D.stays.take o).sum = bgn D := by show _ = (D.stays.take D.opens.toNat).sum; rw [eo]; rfl
    have e2 : (D.stays.take u).sum + D.stays[u] = enn D := by
      show _ = (D.stays.take (D.shuts.toNat + 1)).sum
      rw [eu]
      exact (take_succ_sum (List.getElem?_eq_getElem hu)).symm
    rw [← e1, ← e2] at k
    exact k r _ (s3.free hr) (s3.upd_new hr) upd_same

/-! ### entry ages of sons, where feasts are held at an even beat -/
def OkBeat (D : DR) (b : Int) : Prop := D.least ≤ b ∧ b ≤ D.most
def OkAges (y o : Int) : Prop := 1 ≤ y ∧ y ≤ o ∧ o ≤ 120
def Few (n : Int) : Prop := -(10 ^ 40) < n ∧ n < 10 ^ 40
theorem decN {p : Prop} [Decidable p] (h : (!decide p) = true) : ¬ p := fun z => by rw [decide_eq_true z] at h; cases h
theorem decY {p : Prop} [Decidable p] (h : ¬ (!decide p) = true) : p := by
  by_cases z : p
  · exact z
  · rw [decide_eq_false z] at h; exact absurd rfl h
def spCheckBeat (C EB : Addr) : Sp := fun vs H Q E => ∃ (x lp : Addr) (D : DR) (b : Int), vs = [.ref x, .int b] ∧ RuleAt C H x lp D ∧ GoodD D ∧ Few b ∧ (OkBeat D b → Q .non H) ∧ (¬ OkBeat D b → E (.ref EB) none H)
theorem ok_check_beat {f : Addr} {fd : FuncData} (U : Fun K "check_beat" "check_beat" s_check_beat f fd) (T : Txt K mg CRule EBadAges EBadBand EBadBeat) : FnOk P w K mg base (CX1 P w) 1 f fd ["rule", "beat"] (spCheckBeat CRule EBadBeat) := by
  refine U.okX sc_check_beat (fun vs H Q E h => ?_) (fun cdv A outer s H vs Q E hF hr h => ?_)
  · obtain ⟨x, lp, D, b, rfl, _⟩ := h
    rfl
  · obtain ⟨x, lp, D, b, rfl, hR, hG, ⟨b1, b2⟩, k1, k2⟩ := h
    obtain ⟨dx, hx⟩ := hR.ob
    have hl := hG.lm
    have l1 := small_log (i := D.least) (by omega) (by omega)
    have l2 := small_log (i := D.most) (by omega) (by omega)
    refine ⟨_, (PSs.p0 (pss_one (ps_if (pt_not (pt_chain op_le op_le (pe_fld (pv 0) rfl) (pv 1) (pe_fld (pv 0) rfl))) (pss_one (ps_raise T.x_BadBeat std_cx rfl (pa_cons (pe_fstr (pj_str (pj_int (pe_fld (pv 0) rfl) (pj_str (pj_int (pe_fld (pv 0) rfl) (pj_str (pj_int (pv 1) pj_nil))))))) pa_nil))) pss_nil))), ?_⟩
    refine ⟨_, rfl, x, CRule, dx, _, _, rfl, hx, T.cl_Rule, T.na_Rule_least, rf_least _ _, _, rfl, _, _, rfl, rfl, _, rfl, ite2 (fun hc => ?_) (fun hc => ?_)⟩
    · have h1 : D.least ≤ b := of_decide_eq_true hc
      refine ⟨_, rfl, x, CRule, dx, _, _, rfl, hx, T.cl_Rule, T.na_Rule_most, rf_most _ _, _, _, rfl, rfl, _, rfl, ite2 (fun hn => ?_) (fun hn => ?_)⟩
      · have h2 : ¬ b ≤ D.most := decN hn
        exact ⟨_, rfl, x, CRule, dx, _, _, rfl, hx, T.cl_Rule, T.na_Rule_least, rf_least _ _, _, rfl, l1, _, rfl, x, CRule, dx, _, _, rfl, hx, T.cl_Rule, T.na_Rule_most, rf_most _ _, _, rfl, l2, _, rfl, b, rfl, small_log b1 b2, fun z => ⟨by show 1 ≤ sizeLine; decide, k2 fun q => h2 q.2⟩⟩
      · exact k1 ⟨h1, decY hn⟩
    · have h1 : ¬ D.least ≤ b := fun z => hc (decide_eq_true z)
      exact ⟨_, rfl, iteT ⟨_, rfl, x, CRule, dx, _, _, rfl, hx, T.cl_Rule, T.na_Rule_least, rf_least _ _, _, rfl, l1, _, rfl, x, CRule, dx, _, _, rfl, hx, T.cl_Rule, T.na_Rule_most, rf_most _ _, _, rfl, l2, _, rfl, b, rfl, small_log b1 b2, fun z => ⟨by show 1 ≤ sizeLine; decide, k2 fun q => h1 q.1⟩⟩⟩
def spCheckTerms (C EB EA : Addr) : Sp := fun vs H Q E => ∃ (x lp : Addr) (D : DR) (b y o : Int), vs = [.ref x, .int b, .int y, .int o] ∧ RuleAt C H x lp D ∧ GoodD D ∧ Few b ∧ Few y ∧ Few o ∧ (OkBeat D b → OkAges y o → Q .non H) ∧ (¬ OkBeat D b → E (.ref EB) none H) ∧ (OkBeat D b → ¬ OkAges y o → E (.ref EA) none H)
theorem ok_check_terms {f : Addr} {fd : FuncData} (U : Fun K "check_terms" "check_terms" s_check_terms f fd) (T : Txt K mg CRule EBadAges EBadBand EBadBeat) (F_check_beat : Fn P w K mg base (CX1 P w) "check_beat" 1 ["rule", "beat"] (spCheckBeat CRule EBadBeat)) :
    FnOk P w K mg base (CX1 P w) 2 f fd ["rule", "beat", "young", "old"] (spCheckTerms CRule EBadBeat EBadAges) := by
  refine U.okX sc_check_terms (fun vs H Q E h => ?_) (fun cdv A outer s H vs Q E hF hr h => ?_)
  · obtain ⟨x, lp, D, b, y, o, rfl, _⟩ := h
    rfl
  · obtain ⟨x, lp, D, b, y, o, rfl, hR, hG, hb, ⟨y1, y2⟩, ⟨o1, o2⟩, k1, k2, k3⟩ := h
    refine ⟨_, (PSs.p0 (pss_cons (ps_expr (pe_fnS F_check_beat (hr.mono (by first | decide | omega)) (passS std_cx) (pa_cons (pv 0) (pa_cons (pv 1) pa_nil))))
  (pss_one (ps_if (pt_not (pt_chain3 op_le op_le op_le pe_int (pv 2) (pv 3) (pe_gi rfl T.c_OLDEST_FATHER))) (pss_one (ps_raise T.x_BadAges std_cx rfl (pa_cons (pe_fstr (pj_str (pj_int (pv 2) (pj_str (pj_int (pv 3) pj_nil))))) pa_nil))) pss_nil)))), ?_⟩
    refine ⟨_, rfl, _, rfl, x, lp, D, b, rfl, hR, hG, hb, fun okb => ?_, k2⟩
    refine ⟨_, rfl, _, _, rfl, rfl, _, rfl, ite2 (fun hc => ?_) (fun hc => ?_)⟩
    · have h1 : 1 ≤ y := of_decide_eq_true hc
      refine ⟨_, rfl, _, _, rfl, rfl, _, rfl, ite2 (fun hc => ?_) (fun hc => ?_)⟩
      · have h2 : y ≤ o := of_decide_eq_true hc
        refine ⟨_, _, rfl, rfl, _, rfl, ite2 (fun hn => ?_) (fun hn => ?_)⟩
        · have h3 : ¬ o ≤ 120 := decN hn
          exact ⟨_, rfl, y, rfl, small_log y1 y2, _, rfl, o, rfl, small_log o1 o2, fun z => ⟨by show 1 ≤ sizeLine; decide, k3 okb fun q => h3 q.2.2⟩⟩
        · exact k1 okb ⟨h1, h2, decY hn⟩
      · have h2 : ¬ y ≤ o := fun z => hc (decide_eq_true z)
        exact ⟨_, rfl, iteT ⟨_, rfl, y, rfl, small_log y1 y2, _, rfl, o, rfl, small_log o1 o2, fun z => ⟨by show 1 ≤ sizeLine; decide, k3 okb fun q => h2 q.2.1⟩⟩⟩
    · have h1 : ¬ 1 ≤ y := fun z => hc (decide_eq_true z)
      exact ⟨_, rfl, iteT ⟨_, rfl, y, rfl, small_log y1 y2, _, rfl, o, rfl, small_log o1 o2, fun z => ⟨by show 1 ≤ sizeLine; decide, k3 okb fun q => h1 q.1⟩⟩⟩
/-! ### the band of sons of a band -/
def soonF (D : DR) (b : Int) : Int := bgn D * b
def latF (D : DR) (b : Int) : Int := enn D * b - 1
def fiF (D : DR) (b y lo : Int) : Int := if y - latF D b > lo then y - latF D b else lo
def laF (D : DR) (b o hi : Int) : Int := if o - soonF D b < hi then o - soonF D b else hi
def sonLo (D : DR) (b y o lo : Int) : Int := D.gap * b - (if o - fiF D b y lo < latF D b then o - fiF D b y lo else latF D b)
def sonHi (D : DR) (b y o hi : Int) : Int := D.gap * b - (if y - laF D b o hi > soonF D b then y - laF D b o hi else soonF D b)
def nbF (D : DR) (b y o : Int) (p : Int × Int) : Option (Int × Int) := if laF D b o p.2 < fiF D b y p.1 then none else some (sonLo D b y o p.1, sonHi D b y o p.2)
theorem if_c {c : Prop} [Decidable c] (x y : Int) : (c ∧ (if c then x else y) = x) ∨ (¬ c ∧ (if c then x else y) = y) := by
  by_cases h : c
  · exact .inl ⟨h, if_pos h⟩
  · exact .inr ⟨h, if_neg h⟩
theorem fi_c (D : DR) (b y lo : Int) : (y - latF D b > lo ∧ fiF D b y lo = y - latF D b) ∨ (¬ y - latF D b > lo ∧ fiF D b y lo = lo) := if_c _ _
theorem la_c (D : DR) (b o hi : Int) : (o - soonF D b < hi ∧ laF D b o hi = o - soonF D b) ∨ (¬ o - soonF D b < hi ∧ laF D b o hi = hi) := if_c _ _
theorem slo_c (D : DR) (b y o lo : Int) : (o - fiF D b y lo < latF D b ∧ sonLo D b y o lo = D.gap * b - (o - fiF D b y lo)) ∨ (¬ o - fiF D b y lo < latF D b ∧ sonLo D b y o lo = D.gap * b - latF D b) := by
  unfold sonLo
  rcases if_c (c := o - fiF D b y lo < latF D b) (o - fiF D b y lo) (latF D b) with ⟨h, e⟩ | ⟨h, e⟩
  · exact .inl ⟨h, by rw [e]⟩
  · exact .inr ⟨h, by rw [e]⟩
theorem shi_c (D : DR) (b y o hi : Int) : (y - laF D b o hi > soonF D b ∧ sonHi D b y o hi = D.gap * b - (y - laF D b o hi)) ∨ (¬ y - laF D b o hi > soonF D b ∧ sonHi D b y o hi = D.gap * b - soonF D b) := by
  unfold sonHi
  rcases if_c (c := y - laF D b o hi > soonF D b) (y - laF D b o hi) (soonF D b) with ⟨h, e⟩ | ⟨h, e⟩
  · exact .inl ⟨h, by rw [e]⟩
  · exact .inr ⟨h, by rw [e]⟩
def spNext (C : Addr) : Sp := fun vs H Q _ => ∃ (x lp bp : Addr) (D : DR) (b y o : Int) (p : Int × Int), vs = [.ref x, .int b, .int y, .int o, .ref bp] ∧ RuleAt C H x lp D ∧ GoodD D ∧ OkBeat D b ∧ H bp = some (.tup [.int p.1, .int p.2]) ∧
  (nbF D b y o p = none → ∀ H', Same H H' → Q .non H') ∧ (∀ q, nbF D b y o p = some q → ∀ (r : Addr) (H' : Hp), H r = none → Same H H' → H' r = some (.tup [.int q.1, .int q.2]) → Q (.ref r) H')
theorem ok_next {f : Addr} {fd : FuncData} (U : Fun K "next_band" "next_band" s_next_band f fd) (T : Txt K mg CRule EBadAges EBadBand EBadBeat) (F_fathering_feasts : Fn P w K mg base (CX1 P w) "fathering_feasts" 2 ["rule"] (spFF CRule)) :
    FnOk P w K mg base (CX1 P w) 3 f fd ["rule", "beat", "young", "old", "band"] (spNext CRule) := by
  refine U.okX sc_next_band (fun vs H Q E h => ?_) (fun cdv A outer s H vs Q E hF hr h => ?_)
  · obtain ⟨x, lp, bp, D, b, y, o, p, rfl, _⟩ := h
    rfl
  · obtain ⟨x, lp, bp, D, b, y, o, p, rfl, hR, hG, ⟨b1, b2⟩, hp, k1, k2⟩ := h
    have hl := hG.lm
    refine ⟨_, (PSs.p0 (pss_cons (ps_asg (pe_fnS F_fathering_feasts (hr.mono (by first | decide | omega)) (passS std_cx) (pa_cons (pv 0) pa_nil)) (pg_tup rfl (pgs_cons (pg_name (i := 5) sc_next_band.nd rfl (Or.inl rfl)) (pgs_cons (pg_name (i := 6) sc_next_band.nd rfl (Or.inl rfl)) pgs_nil))))
  (pss_cons (ps_set (i := 7) sc_next_band.nd rfl (Or.inl rfl) (pe_op op_mul (pv 5) (pv 1)))
  (pss_cons (ps_set (i := 8) sc_next_band.nd rfl (Or.inl rfl) (pe_op op_sub (pe_op op_mul (pv 6) (pv 1)) pe_int))
  (pss_cons (ps_set (i := 9) sc_next_band.nd rfl (Or.inl rfl) (pe_callB (call_max2 rfl) rfl T.z_max bb_max (pa_cons (pe_ix ix_tup (pv 4) pe_int (fun _ _ => rfl)) (pa_cons (pe_op op_sub (pv 2) (pv 8)) pa_nil))))
  (pss_cons (ps_set (i := 10) sc_next_band.nd rfl (Or.inl rfl) (pe_callB (call_min2 rfl) rfl T.z_min bb_min (pa_cons (pe_ix ix_tup (pv 4) pe_int (fun _ _ => rfl)) (pa_cons (pe_op op_sub (pv 3) (pv 7)) pa_nil))))
  (pss_cons (ps_if (pt_cmpR op_gt (pv 9) (pv 10) (nomark _)) (pss_one (ps_ret pe_non)) pss_nil)
  (pss_cons (ps_set (i := 11) sc_next_band.nd rfl (Or.inl rfl) (pe_op op_mul (pe_fld (pv 0) rfl) (pv 1)))
  (pss_one (ps_ret (pe_tup (pa_cons (pe_op op_sub (pv 11) (pe_callB (call_min2 rfl) rfl T.z_min bb_min (pa_cons (pv 8) (pa_cons (pe_op op_sub (pv 3) (pv 9)) pa_nil)))) (pa_cons (pe_op op_sub (pv 11) (pe_callB (call_max2 rfl) rfl T.z_max bb_max (pa_cons (pv 7) (pa_cons (pe_op op_sub (pv 2) (pv 10)) pa_nil)))) pa_nil))))))))))))), ?_⟩
    refine ⟨_, rfl, x, lp, D, rfl, hR, hG, fun r H1 hr s1 h1 => ⟨r, _, rfl, SqT.of h1, rfl, _, _, rfl, _, _, rfl, rfl, ?_⟩⟩
    obtain ⟨dx, hx0⟩ := hR.ob
    have hx := s1 _ _ hx0
    have ht : SqT K H1 bp [.int p.1, .int p.2] := SqT.of (s1 _ _ hp)
    refine ⟨_, rfl, _, rfl, _, _, rfl, rfl, .inr ⟨by omega, by omega⟩, ?_⟩
    refine ⟨_, rfl, _, rfl, _, _, rfl, rfl, .inr ⟨by omega, by omega⟩, _, _, rfl, rfl, ?_⟩
    refine ⟨_, rfl, bp, _, _, _, rfl, rfl, ht, rfl, _, rfl, _, rfl, _, _, rfl, rfl, _, _, rfl, ?_⟩
    refine ⟨_, rfl, bp, _, _, _, rfl, rfl, ht, rfl, _, rfl, _, rfl, _, _, rfl, rfl, _, _, rfl, ?_⟩
    refine ⟨_, rfl, _, rfl, _, _, rfl, rfl, _, rfl, ite2 (fun hc => ?_) (fun hc => ?_)⟩
    · have h : laF D b o p.2 < fiF D b y p.1 := of_decide_eq_true hc
      exact k1 (if_pos h) H1 s1
    · have h : ¬ laF D b o p.2 < fiF D b y p.1 := fun z => hc (decide_eq_true z)
      refine ⟨_, rfl, x, CRule, dx, _, _, rfl, hx, T.cl_Rule, T.na_Rule_gap, rf_gap _ _, _, rfl, _, _, rfl, rfl, .inr ⟨by omega, by omega⟩, ?_⟩
      exact ⟨_, rfl, _, rfl, _, rfl, _, rfl, _, _, rfl, rfl, _, _, rfl, _, _, rfl, rfl, _, rfl, _, rfl, _, rfl, _, rfl, _, _, rfl, rfl, _, _, rfl, _, _, rfl, rfl, (by show 2 ≤ sizeLine; decide), fun q hq => k2 _ (if_neg h) q _ (s1.free hq) (s1.upd_new hq) upd_same⟩

theorem back_ok {D : DR} {b y o s : Int} {p q : Int × Int} (hyo : y ≤ o) (hp : p.1 ≤ p.2) (hn : nbF D b y o p = some q) (h1 : q.1 ≤ s) (h2 : s ≤ q.2) : ∀ f : Int, f = (if y - (D.gap * b - s) > p.1 then y - (D.gap * b - s) else p.1) →
    (p.1 ≤ f ∧ f ≤ p.2) ∧ (y ≤ f + (D.gap * b - s) ∧ f + (D.gap * b - s) ≤ o) ∧ (soonF D b ≤ f + (D.gap * b - s) - f ∧ f + (D.gap * b - s) - f ≤ latF D b) := by
  intro f hf
  unfold nbF at hn
  split at hn
  · cases hn
  · rename_i hc
    cases hn
    have h1' : sonLo D b y o p.1 ≤ s := h1
    have h2' : s ≤ sonHi D b y o p.2 := h2
    have c1 := fi_c D b y p.1
    have c2 := la_c D b o p.2
    have c3 := slo_c D b y o p.1
    have c4 := shi_c D b y o p.2
    have c5 := if_c (c := y - (D.gap * b - s) > p.1) (y - (D.gap * b - s)) p.1
    rw [← hf] at c5
    refine ⟨⟨?_, ?_⟩, ⟨?_, ?_⟩, ?_, ?_⟩ <;> omega

/-! ### the band of sons -/
def spSonsBand (C EB EA EN : Addr) : Sp := fun vs H Q E => ∃ (x lp bp : Addr) (D : DR) (b y o lo hi : Int), vs = [.ref x, .int b, .int y, .int o, .ref bp] ∧ RuleAt C H x lp D ∧ GoodD D ∧ Few b ∧ Few y ∧ Few o ∧ Few lo ∧ Few hi ∧ H bp = some (.tup [.int lo, .int hi]) ∧
  (¬ OkBeat D b → E (.ref EB) none H) ∧ (OkBeat D b → ¬ OkAges y o → E (.ref EA) none H) ∧ (OkBeat D b → OkAges y o → hi < lo → E (.ref EN) none H) ∧ (OkBeat D b → OkAges y o → ¬ hi < lo → nbF D b y o (lo, hi) = none → ∀ H', Same H H' → Q .non H') ∧ (OkBeat D b → OkAges y o → ¬ hi < lo → ∀ q, nbF D b y o (lo, hi) = some q → ∀ (r : Addr) (H' : Hp), H r = none → Same H H' → H' r = some (.tup [.int q.1, .int q.2]) → Q (.ref r) H')
theorem ok_sons_band {f : Addr} {fd : FuncData} (U : Fun K "sons_band" "sons_band" s_sons_band f fd) (T : Txt K mg CRule EBadAges EBadBand EBadBeat) (F_check_terms : Fn P w K mg base (CX1 P w) "check_terms" 2 ["rule", "beat", "young", "old"] (spCheckTerms CRule EBadBeat EBadAges)) (F_next_band : Fn P w K mg base (CX1 P w) "next_band" 3 ["rule", "beat", "young", "old", "band"] (spNext CRule)) :
    FnOk P w K mg base (CX1 P w) 4 f fd ["rule", "beat", "young", "old", "band"] (spSonsBand CRule EBadBeat EBadAges EBadBand) := by
  refine U.okX sc_sons_band (fun vs H Q E h => ?_) (fun cdv A outer s H vs Q E hF hr h => ?_)
  · obtain ⟨x, lp, bp, D, b, y, o, lo, hi, rfl, _⟩ := h
    rfl
  · obtain ⟨x, lp, bp, D, b, y, o, lo, hi, rfl, hR, hG, fb, fy, fo, ⟨l1, l2⟩, ⟨g1, g2⟩, hb, k1, k2, k3, k4, k5⟩ := h
    refine ⟨_, (PSs.p0 (pss_cons (ps_expr (pe_fnS F_check_terms (hr.mono (by first | decide | omega)) (passS std_cx) (pa_cons (pv 0) (pa_cons (pv 1) (pa_cons (pv 2) (pa_cons (pv 3) pa_nil))))))
  (pss_cons (ps_if (pt_cmpR op_gt (pe_ix ix_tup (pv 4) pe_int (fun _ _ => rfl)) (pe_ix ix_tup (pv 4) pe_int (fun _ _ => rfl)) (nomark _)) (pss_one (ps_raise T.x_BadBand std_cx rfl (pa_cons (pe_fstr (pj_str (pj_int (pe_ix ix_tup (pv 4) pe_int (fun _ _ => rfl)) (pj_str (pj_int (pe_ix ix_tup (pv 4) pe_int (fun _ _ => rfl)) pj_nil))))) pa_nil))) pss_nil)
  (pss_one (ps_ret (pe_fnS F_next_band (hr.mono (by first | decide | omega)) (passS std_cx) (pa_cons (pv 0) (pa_cons (pv 1) (pa_cons (pv 2) (pa_cons (pv 3) (pa_cons (pv 4) pa_nil))))))))))), ?_⟩
    have ht := SqT.of (K := K) hb
    refine ⟨_, rfl, _, rfl, _, rfl, _, rfl, x, lp, D, b, y, o, rfl, hR, hG, fb, fy, fo, fun okb oka => ?_, k1, k2⟩
    refine ⟨_, rfl, bp, _, _, _, rfl, rfl, ht, rfl, _, rfl, bp, _, _, _, rfl, rfl, ht, rfl, _, _, rfl, rfl, _, rfl, ite2 (fun hc => ?_) (fun hc => ?_)⟩
    · have h : hi < lo := of_decide_eq_true hc
      exact ⟨_, rfl, bp, _, _, _, rfl, rfl, ht, rfl, lo, rfl, small_log l1 l2, _, rfl, bp, _, _, _, rfl, rfl, ht, rfl, hi, rfl, small_log g1 g2, fun z => ⟨by show 1 ≤ sizeLine; decide, k3 okb oka h⟩⟩
    · have h : ¬ hi < lo := fun z => hc (decide_eq_true z)
      exact ⟨_, rfl, _, rfl, _, rfl, _, rfl, _, rfl, x, lp, bp, D, b, y, o, (lo, hi), rfl, hR, hG, okb, hb, fun e H' s' => k4 okb oka h e H' s', fun q e r H' hr s' h' => k5 okb oka h q e r H' hr s' h'⟩

/-! ### a beat, ages of fathers, an entry age, as they are drawn -/
theorem drawn6 {m0 m1 m2 m3 m4 m5 : Int} {rs : List Int} (h : Drawn rs [m0, m1, m2, m3, m4, m5]) : ∃ r0 r1 r2 r3 r4 r5 : Int, rs = [r0, r1, r2, r3, r4, r5] ∧ (0 ≤ r0 ∧ r0 < m0) ∧ (0 ≤ r1 ∧ r1 < m1) ∧ (0 ≤ r2 ∧ r2 < m2) ∧ (0 ≤ r3 ∧ r3 < m3) ∧ (0 ≤ r4 ∧ r4 < m4) ∧ (0 ≤ r5 ∧ r5 < m5) := by
  obtain ⟨hl, hb⟩ := h
  match rs, hl, hb with
  | [r0, r1, r2, r3, r4, r5], _, hb => exact ⟨r0, r1, r2, r3, r4, r5, rfl, hb 0 _ _ rfl rfl, hb 1 _ _ rfl rfl, hb 2 _ _ rfl rfl, hb 3 _ _ rfl rfl, hb 4 _ _ rfl rfl, hb 5 _ _ rfl rfl⟩
theorem cut_to {xs : List V} {i : Int} (h : 0 ≤ i) : cutV xs none (some i) = xs.take i.toNat := by
  obtain ⟨k, rfl⟩ := Int.eq_ofNat_of_zero_le h
  exact cutV_to xs k
theorem lat_in {D : DR} {b : Int} (hG : GoodD D) (hb : OkBeat D b) : 0 ≤ soonF D b ∧ soonF D b ≤ latF D b ∧ latF D b < 2000 := by
  have hbe := hG.be
  have hl := hG.lm
  obtain ⟨b1, b2⟩ := hb
  have h1 := Int.mul_nonneg hbe.1 (show 0 ≤ b by omega)
  have h2 := Int.mul_le_mul_of_nonneg_right (show bgn D + 1 ≤ enn D by omega) (show 0 ≤ b by omega)
  rw [Int.add_mul, Int.one_mul] at h2
  have h3 := Int.mul_le_mul_of_nonneg_right (show enn D ≤ 48 by omega) (show 0 ≤ b by omega)
  refine ⟨h1, ?_, ?_⟩
  · show bgn D * b ≤ enn D * b - 1
    omega
  · show enn D * b - 1 < 2000
    omega
def spSteady : Sp := fun vs H Q _ => ∃ (c : Int) (d p : Addr) (D : DR), vs = [.int c, .ref d] ∧ DAt H d p D ∧ GoodD D ∧ ∀ (st : Addr) (b y o e : Int) (H' : Hp), H st = none → Same H H' → H' st = some (.lst [.int b, .int y, .int o, .int e]) → OkBeat D b → OkAges y o → -10000 < e → e < 10000 → Q (.ref st) H'
theorem ok_steady {f : Addr} {fd : FuncData} (U : Fun K "_law_steady" "_law_steady" s_steady f fd) (T : Txt K mg CRule EBadAges EBadBand EBadBeat) (F_draw : Fn P w K mg base (CX1 P w) "_law_draw" 1 ["_law_cell_here", "_law_limits"] (spDraw K)) :
    FnOk P w K mg base (CX1 P w) 2 f fd ["_law_cell_here", "_law_d"] spSteady := by
  refine U.okX sc_steady (fun vs H Q E h => ?_) (fun cdv A outer s H vs Q E hF hr h => ?_)
  · obtain ⟨c, d, p, D, rfl, _⟩ := h
    rfl
  · obtain ⟨c, d, p, D, rfl, hD, hG, k⟩ := h
    have hl := hG.lm
    have ho := hG.op
    refine ⟨_, (PSs.p0 (pss_cons (ps_set (i := 2) sc_steady.nd rfl (Or.inl rfl) (pe_fnS F_draw (hr.mono (by first | decide | omega)) (passS std_cx) (pa_cons (pv 0) (pa_cons (pe_lst (pa_cons pe_int (pa_cons pe_int (pa_cons pe_int (pa_cons pe_int (pa_cons pe_int (pa_cons pe_int pa_nil))))))) pa_nil))))
  (pss_cons (ps_set (i := 3) sc_steady.nd rfl (Or.inl rfl) (pe_op op_add (pe_ix ix_list (pv 1) pe_int (fun _ _ => rfl)) (pe_op op_mod (pe_ix ix_list (pv 2) pe_int (fun _ _ => rfl)) (pe_op op_add (pe_op op_sub (pe_ix ix_list (pv 1) pe_int (fun _ _ => rfl)) (pe_ix ix_list (pv 1) pe_int (fun _ _ => rfl))) pe_int))))
  (pss_cons (ps_set (i := 4) sc_steady.nd rfl (Or.inl rfl) (pe_op op_mul (pe_callB (call_sumL rfl) rfl T.z_sum bb_sum (pa_cons (pe_slice sl_list (pe_ix ix_list (pv 1) pe_int (fun _ _ => rfl)) po_none (po_some (pe_ix ix_list (pv 1) pe_int (fun _ _ => rfl)))) pa_nil)) (pv 3)))
  (pss_cons (ps_set (i := 5) sc_steady.nd rfl (Or.inl rfl) (pe_op op_sub (pe_op op_mul (pe_callB (call_sumL rfl) rfl T.z_sum bb_sum (pa_cons (pe_slice sl_list (pe_ix ix_list (pv 1) pe_int (fun _ _ => rfl)) po_none (po_some (pe_op op_add (pe_ix ix_list (pv 1) pe_int (fun _ _ => rfl)) pe_int))) pa_nil)) (pv 3)) pe_int))
  (pss_cons (ps_set (i := 6) sc_steady.nd rfl (Or.inl rfl) (pe_op op_add pe_int (pe_op op_mod (pe_ix ix_list (pv 2) pe_int (fun _ _ => rfl)) pe_int)))
  (pss_cons (ps_set (i := 7) sc_steady.nd rfl (Or.inl rfl) (pe_callB (call_min2 rfl) rfl T.z_min bb_min (pa_cons pe_int (pa_cons (pe_op op_add (pv 6) (pe_ix ix_list (pv 2) pe_int (fun _ _ => rfl))) pa_nil))))
  (pss_cons (ps_join (ps_if (pt_cmpR op_eq (pe_ix ix_list (pv 2) pe_int (fun _ _ => rfl)) pe_int (nomark _)) (pss_one (ps_set (i := 7) sc_steady.nd rfl (Or.inl rfl) (pe_op op_add (pv 6) (pe_op op_mod (pe_op op_mul (pe_ix ix_list (pv 2) pe_int (fun _ _ => rfl)) pe_int) (pe_op op_sub pe_int (pv 6)))))) pss_nil))
  (pss_cons (ps_set (i := 8) sc_steady.nd rfl (Or.inl rfl) (pe_op op_add (pe_op op_sub (pe_op op_sub (pv 6) (pv 5)) pe_int) (pe_op op_mod (pe_ix ix_list (pv 2) pe_int (fun _ _ => rfl)) (pe_op op_add (pe_op op_sub (pe_op op_add (pe_op op_sub (pv 7) (pv 6)) (pv 5)) (pv 4)) pe_int))))
  (pss_one (ps_ret (pe_lst (pa_cons (pv 3) (pa_cons (pv 6) (pa_cons (pv 7) (pa_cons (pv 8) pa_nil)))))))))))))))), ?_⟩
    refine ⟨_, rfl, (by show 6 ≤ sizeLine; decide), fun lm hlm => ⟨c, lm, [40, 121, 13, 4, 2203, 31], rfl, SqL.of upd_same, by decide, by decide, fun row rs H4 hrow0 s4 hrow hdr => ?_⟩⟩
    obtain ⟨r0, r1, r2, r3, r4, r5, rfl, ⟨a0, b0⟩, ⟨a1, b1⟩, ⟨a2, b2⟩, ⟨a3, b3⟩, ⟨a4, b4⟩, ⟨a5, b5⟩⟩ := drawn6 hdr
    have s1 : Same H H4 := ((Same.refl H).upd_new hlm).trans s4
    have sd : SqL K H4 d (drow p D) := SqL.of (s1 _ _ hD.1)
    have sr : SqL K H4 row ([r0, r1, r2, r3, r4, r5].map V.int) := SqL.of hrow
    have m1 := Int.emod_nonneg r0 (b := D.most - D.least + 1) (by omega)
    have m2 := Int.emod_lt_of_pos r0 (b := D.most - D.least + 1) (by omega)
    refine ⟨_, rfl, d, _, _, _, rfl, rfl, sd, rfl, _, rfl, row, _, _, _, rfl, rfl, sr, rfl, _, rfl, d, _, _, _, rfl, rfl, sd, rfl, _, rfl, d, _, _, _, rfl, rfl, sd, rfl, _, _, rfl, rfl, _, _, rfl, rfl, _, _, rfl, rfl, (by show (0 : Int) < D.most - D.least + 1; omega), _, _, rfl, rfl, ?_⟩
    obtain ⟨b, eb⟩ : ∃ b, b = D.least + r0 % (D.most - D.least + 1) := ⟨_, rfl⟩
    rw [show (fun i j => V.int (i + j)) D.least (r0 % (D.most - D.least + 1)) = V.int b from congrArg V.int eb.symm]
    have okb : OkBeat D b := ⟨by omega, by omega⟩
    have hb1 := okb.1
    have hb2 := okb.2
    have li := lat_in hG okb
    -- the first and the last year of fathering
    refine ⟨_, rfl, d, _, _, _, rfl, rfl, sd, rfl, _, rfl, d, _, _, _, rfl, rfl, sd, rfl, _, rfl, p, _, rfl, SqL.of (s1 _ _ hD.2), fun q1 hq1 => ?_⟩
    have s2 := s1.upd_new (o := .lst (cutV (D.stays.map V.int) none (some D.opens))) hq1
    have s42 : Same H4 (upd H4 q1 (.lst (cutV (D.stays.map V.int) none (some D.opens)))) := (Same.refl H4).upd_new hq1
    refine ⟨q1, D.stays.take D.opens.toNat, rfl, SqL.of (by rw [upd_same, cut_to ho.1, List.map_take]), _, rfl, _, _, rfl, rfl, .inr ⟨by omega, by omega⟩, ?_⟩
    have sd2 := s42.seq sd
    generalize eH5 : upd H4 q1 (.lst (cutV (D.stays.map V.int) none (some D.opens))) = H5 at *
    refine ⟨_, rfl, d, _, _, _, rfl, rfl, sd2, rfl, _, rfl, d, _, _, _, rfl, rfl, sd2, rfl, _, _, rfl, rfl, _, rfl, p, _, rfl, SqL.of (s2 _ _ hD.2), fun q2 hq2 => ?_⟩
    have e1 : (D.shuts + 1).toNat = D.shuts.toNat + 1 := by omega
    have s3 := s2.upd_new (o := .lst (cutV (D.stays.map V.int) none (some (D.shuts + 1)))) hq2
    have s53 : Same H5 (upd H5 q2 (.lst (cutV (D.stays.map V.int) none (some (D.shuts + 1))))) := (Same.refl H5).upd_new hq2
    refine ⟨q2, D.stays.take (D.shuts.toNat + 1), rfl, SqL.of (by rw [upd_same, cut_to (by omega), e1, List.map_take]), _, rfl, _, _, rfl, rfl, .inr ⟨by omega, by omega⟩, _, _, rfl, rfl, ?_⟩
    have sr3 := (s42.trans s53).seq sr
    generalize eH6 : upd H5 q2 (.lst (cutV (D.stays.map V.int) none (some (D.shuts + 1)))) = H6 at *
    -- the ages of fathers
    have n1 := Int.emod_nonneg r1 (b := 120) (by decide)
    have n2 := Int.emod_lt_of_pos r1 (b := 120) (by decide)
    refine ⟨_, rfl, row, _, _, _, rfl, rfl, sr3, rfl, _, _, rfl, rfl, (by show (0 : Int) < 120; decide), _, _, rfl, rfl, ?_⟩
    obtain ⟨y, ey⟩ : ∃ y, y = 1 + r1 % 120 := ⟨_, rfl⟩
    rw [show (fun i j => V.int (i + j)) 1 (r1 % 120) = V.int y from congrArg V.int ey.symm]
    refine ⟨_, rfl, _, rfl, row, _, _, _, rfl, rfl, sr3, rfl, _, _, rfl, rfl, _, _, rfl, ?_⟩
    refine ⟨fun σ H7 => H7 = H6 ∧ ∃ o : Int, y ≤ o ∧ o ≤ 120 ∧ σ = [some (.int c), some (.ref d), some (.ref row), some (.int b), some (.int (soonF D b)), some (.int (latF D b)), some (.int y), some (.int o), none], ?_, ?_⟩
    · refine ⟨_, rfl, row, _, _, _, rfl, rfl, sr3, rfl, rfl, _, rfl, ite2 (fun hc => ?_) (fun hc => ?_)⟩
      · have o1 := Int.emod_nonneg (r5 * 4) (b := 121 - y) (by omega)
        have o2 := Int.emod_lt_of_pos (r5 * 4) (b := 121 - y) (by omega)
        exact ⟨_, rfl, _, rfl, row, _, _, _, rfl, rfl, sr3, rfl, _, _, rfl, rfl, .inr ⟨by decide, by decide⟩, _, rfl, _, _, rfl, rfl, _, _, rfl, rfl, (by show (0 : Int) < 121 - y; omega), _, _, rfl, rfl, rfl, y + r5 * 4 % (121 - y), by omega, by omega, rfl⟩
      · have c1 := if_c (c := y + r2 < 120) (y + r2) 120
        exact ⟨rfl, (if y + r2 < 120 then y + r2 else 120), by omega, by omega, rfl⟩
    · rintro σ H7 ⟨rfl, o, o1, o2, rfl⟩
      have p1 := Int.emod_nonneg r4 (b := o - y + latF D b - soonF D b + 9) (by omega)
      have p2 := Int.emod_lt_of_pos r4 (b := o - y + latF D b - soonF D b + 9) (by omega)
      refine ⟨_, rfl, _, rfl, _, _, rfl, rfl, _, _, rfl, rfl, _, rfl, row, _, _, _, rfl, rfl, sr3, rfl, _, rfl, _, rfl, _, _, rfl, rfl, _, rfl, _, _, rfl, rfl, _, rfl, _, _, rfl, rfl, _, _, rfl, rfl, _, _, rfl, rfl, (by show (0 : Int) < o - y + latF D b - soonF D b + 9; omega), _, _, rfl, rfl, ?_⟩
      refine ⟨_, rfl, _, rfl, _, rfl, _, rfl, (by show 4 ≤ sizeLine; decide), fun st hst => ?_⟩
      exact k st b y o (y - latF D b - 4 + r4 % (o - y + latF D b - soonF D b + 9)) _ (s3.free hst) (s3.upd_new hst) upd_same okb ⟨by omega, o1, o2⟩ (by omega) (by omega)

def stV (b y o e : Int) : List V := [.int b, .int y, .int o, .int e]
/-! ### all sons of a list of entry ages -/
theorem gradeF_over : ∀ {ss : List Int} {n k : Int}, (∀ z ∈ ss, 0 ≤ z) → ss.sum ≤ n → gradeF ss n k = none
  | [], _, _, _, _ => rfl
  | a :: r, n, k, hz, h => by
    rw [List.sum_cons] at h
    have h0 := sum_nonneg (l := r) fun z hz' => hz z (List.mem_cons_of_mem _ hz')
    show (if n < a then some k else _) = _
    rw [if_neg (by omega)]
    exact gradeF_over (fun z hz' => hz z (List.mem_cons_of_mem _ hz')) (by omega)
theorem grade_test {D : DR} (hG : GoodD D) (n : Int) : (bgn D ≤ n ∧ n < enn D ∧ ∃ k, gradeOf D.stays n = some k ∧ D.opens ≤ k ∧ k ≤ D.shuts) ∨ (¬ (bgn D ≤ n ∧ n < enn D) ∧ (gradeOf D.stays n = none ∨ ∃ k, gradeOf D.stays n = some k ∧ ¬ (D.opens ≤ k ∧ k ≤ D.shuts))) := by
  have hb := hG.be
  by_cases h0 : 0 ≤ n
  · by_cases h1 : n < D.stays.sum
    · obtain ⟨k, e, g1, g2⟩ := grade_between hG h0 h1
      by_cases h : bgn D ≤ n ∧ n < enn D
      · exact .inl ⟨h.1, h.2, k, e, g1.mpr h.1, g2.mpr h.2⟩
      · exact .inr ⟨h, .inr ⟨k, e, fun q => h ⟨g1.mp q.1, g2.mp q.2⟩⟩⟩
    · refine .inr ⟨fun q => by omega, .inl ?_⟩
      unfold gradeOf
      rw [if_neg (by omega)]
      exact gradeF_over hG.nn (by omega)
  · refine .inr ⟨fun q => by omega, .inl ?_⟩
    unfold gradeOf
    rw [if_pos (by omega)]
theorem way_iff {D : DR} {b t : Int} (hG : GoodD D) (hb : OkBeat D b) : (bgn D ≤ t / b ∧ t / b < enn D) ↔ (soonF D b ≤ t ∧ t ≤ latF D b) := by
  have hl := hG.lm
  obtain ⟨b1, b2⟩ := hb
  have q1 : bgn D ≤ t / b ↔ bgn D * b ≤ t := Int.le_ediv_iff_mul_le (by omega)
  have q2 : t / b < enn D ↔ t < enn D * b := Int.ediv_lt_iff_lt_mul (by omega)
  show _ ↔ (bgn D * b ≤ t ∧ t ≤ enn D * b - 1)
  constructor
  · rintro ⟨h1, h2⟩
    exact ⟨q1.mp h1, by have := q2.mp h2; omega⟩
  · rintro ⟨h1, h2⟩
    exact ⟨q1.mpr h1, q2.mpr (by omega)⟩
/-- a son's entry age, of a man of entry age a at his age f -/
def IsSon (D : DR) (b y o a z : Int) : Prop := ∃ f : Int, y ≤ f ∧ f ≤ o ∧ soonF D b ≤ f - a ∧ f - a ≤ latF D b ∧ z = a + D.gap * b - f
/-- the band of sons is all sons of the band -/
theorem son_band {D : DR} {b y o : Int} {p : Int × Int} (hyo : y ≤ o) (hp : p.1 ≤ p.2) (hsl : soonF D b ≤ latF D b) (z : Int) : (∃ a, p.1 ≤ a ∧ a ≤ p.2 ∧ IsSon D b y o a z) ↔ ∃ q, nbF D b y o p = some q ∧ q.1 ≤ z ∧ z ≤ q.2 := by
  have c1 := fi_c D b y p.1
  have c2 := la_c D b o p.2
  have c3 := slo_c D b y o p.1
  have c4 := shi_c D b y o p.2
  constructor
  · rintro ⟨a, a1, a2, f, f1, f2, f3, f4, rfl⟩
    have hc : ¬ laF D b o p.2 < fiF D b y p.1 := by omega
    refine ⟨(sonLo D b y o p.1, sonHi D b y o p.2), if_neg hc, ?_, ?_⟩
    · show sonLo D b y o p.1 ≤ _
      omega
    · show _ ≤ sonHi D b y o p.2
      omega
  · rintro ⟨q, hq, h1, h2⟩
    have bk := back_ok hyo hp hq h1 h2 _ rfl
    refine ⟨_, bk.1.1, bk.1.2, _, bk.2.1.1, bk.2.1.2, bk.2.2.1, bk.2.2.2, ?_⟩
    omega
theorem nb_wide {D : DR} {b y o : Int} {p q : Int × Int} (h : nbF D b y o p = some q) : q.2 - q.1 ≤ (p.2 - p.1) + (o - y) := by
  have c1 := fi_c D b y p.1
  have c2 := la_c D b o p.2
  have c3 := slo_c D b y o p.1
  have c4 := shi_c D b y o p.2
  unfold nbF at h
  split at h
  · cases h
  · cases h
    show sonHi D b y o p.2 - sonLo D b y o p.1 ≤ _
    omega
theorem pigeon : ∀ (n : Nat) {ks : List Int} {l : Int}, ks.Nodup → (∀ z ∈ ks, l ≤ z ∧ z < l + (n : Int)) → ks.length ≤ n
  | 0, ks, l, _, h => by
    cases ks with
    | nil => exact Nat.le_refl _
    | cons a r => have := h a (List.mem_cons_self ..); omega
  | n + 1, ks, l, hn, h => by
    by_cases hm : l + (n : Int) ∈ ks
    · have h1 : (ks.erase (l + (n : Int))).length ≤ n := pigeon n (l := l) (hn.erase _) fun z hz => by
        have h2 := (hn.mem_erase_iff).mp hz
        have := h z h2.2
        have := h2.1
        omega
      rw [List.length_erase_of_mem hm] at h1
      omega
    · have h1 : ks.length ≤ n := pigeon n (l := l) hn fun z hz => by
        have := h z hz
        have : z ≠ l + (n : Int) := fun e => hm (e ▸ hz)
        omega
      omega
/-- keys put in -/
theorem put_keys {kvs : List (Key × V)} {ks : List Int} {n : Int} {v : V} (h : kvs.map (·.1) = ks.map Sum.inl) (hn : ks.Nodup) : ∃ ks' : List Int, (putK kvs (Sum.inl n) v).map (·.1) = ks'.map Sum.inl ∧ ks'.Nodup ∧ ∀ z, z ∈ ks' ↔ z ∈ ks ∨ z = n := by
  have any_iff : (kvs.any fun kv => decide (kv.1 = Sum.inl n)) = true ↔ n ∈ ks := by
    rw [List.any_eq_true]
    constructor
    · rintro ⟨kv, hm, he⟩
      have : kv.1 ∈ kvs.map (·.1) := List.mem_map.mpr ⟨kv, hm, rfl⟩
      rw [h, of_decide_eq_true he] at this
      obtain ⟨m, hm2, e⟩ := List.mem_map.mp this
      cases e
      exact hm2
    · intro hm
      have : (Sum.inl n : Key) ∈ kvs.map (·.1) := by rw [h]; exact List.mem_map.mpr ⟨n, hm, rfl⟩
      obtain ⟨kv, hm2, e⟩ := List.mem_map.mp this
      exact ⟨kv, hm2, decide_eq_true e⟩
  unfold putK
  by_cases hm : n ∈ ks
  · rw [if_pos (any_iff.mpr hm)]
    refine ⟨ks, ?_, hn, fun z => ⟨.inl, fun q => q.elim id (fun e => e ▸ hm)⟩⟩
    rw [← h, List.map_map]
    apply List.map_congr_left
    intro kv _
    show (if kv.1 = Sum.inl n then (kv.1, v) else kv).1 = kv.1
    split <;> rfl
  · rw [if_neg (fun q => hm (any_iff.mp q))]
    refine ⟨ks ++ [n], by rw [List.map_append, h, List.map_append]; rfl, ?_, fun z => by rw [List.mem_append, List.mem_singleton]⟩
    rw [List.nodup_append]
    exact ⟨hn, List.nodup_cons.mpr ⟨List.not_mem_nil, List.nodup_nil⟩, fun x hx z hz e => by cases List.mem_singleton.mp hz; exact hm (e ▸ hx)⟩
/-- within a band, or within none -/
def inB : Option (Int × Int) → Int → Prop
  | none, _ => False
  | some p, z => p.1 ≤ z ∧ z ≤ p.2
def spSons : Sp := fun vs H Q _ => ∃ (d p st al : Addr) (D : DR) (b y o e : Int) (as : List Int) (bd : Option (Int × Int)), vs = [.ref d, .ref st, .ref al] ∧ DAt H d p D ∧ GoodD D ∧ H st = some (.lst (stV b y o e)) ∧ H al = some (.lst (as.map V.int)) ∧ OkBeat D b ∧ (1 ≤ y ∧ y ≤ o ∧ o ≤ 120) ∧ as.length ≤ 500 ∧ (∀ z, z ∈ as ↔ inB bd z) ∧ (∀ q, bd = some q → q.1 ≤ q.2 ∧ q.2 - q.1 + (o - y) < 500) ∧
  ∀ (l : Addr) (ns : List Int) (H' : Hp), H l = none → Same H H' → H' l = some (.lst (ns.map V.int)) → ns.length ≤ 500 → ns.Pairwise (· ≤ ·) → ns.Nodup → (∀ z, z ∈ ns ↔ inB (bd.bind (nbF D b y o)) z) → Q (.ref l) H'
theorem ok_sons {f : Addr} {fd : FuncData} (U : Fun K "_law_sons" "_law_sons" s_sons f fd) (T : Txt K mg CRule EBadAges EBadBand EBadBeat) (F_grade : Fn P w K mg base (CX1 P w) "_law_grade" 1 ["_law_stays", "_law_stood"] (spGradeL K)) :
    FnOk P w K mg base (CX1 P w) 2 f fd ["_law_d", "_law_steady_here", "_law_ages"] spSons := by
  refine U.okX sc_sons (fun vs H Q E h => ?_) (fun cdv A outer s H vs Q E hF hr h => ?_)
  · obtain ⟨d, p, st, al, D, b, y, o, e, as, bd, rfl, _⟩ := h
    rfl
  · obtain ⟨d, p, st, al, D, b, y, o, e, as, bd, rfl, hD, hG, hst, hal, okb, ⟨y1, y2, y3⟩, hln, hmem, hbd, k⟩ := h
    have hl := hG.lm
    have hgl := hG.len
    have hb1 := okb.1
    have hb2 := okb.2
    have li := lat_in hG okb
    -- all sons lie in the band of sons
    have sonIn : ∀ a z, a ∈ as → IsSon D b y o a z → inB (bd.bind (nbF D b y o)) z := fun a z ha hz => by
      have h1 := (hmem a).mp ha
      cases hb : bd with
      | none => rw [hb] at h1; exact h1.elim
      | some q =>
        rw [hb] at h1
        obtain ⟨q', e1, e2⟩ := (son_band y2 (hbd q hb).1 li.2.1 z).mp ⟨a, h1.1, h1.2, hz⟩
        show inB (nbF D b y o q) z
        rw [e1]
        exact e2
    have few : ∀ ks : List Int, ks.Nodup → (∀ z ∈ ks, ∃ a, a ∈ as ∧ IsSon D b y o a z) → ks.length ≤ 500 := fun ks hn hk => by
      cases hb : bd.bind (nbF D b y o) with
      | none =>
        cases ks with
        | nil => decide
        | cons z r =>
          obtain ⟨a, ha, hz⟩ := hk z (List.mem_cons_self ..)
          have := sonIn a z ha hz
          rw [hb] at this
          exact this.elim
      | some q' =>
        obtain ⟨q, e1, e2⟩ := Option.bind_eq_some_iff.mp hb
        have w1 := (hbd q e1).2
        have w2 := nb_wide e2
        refine pigeon 500 (l := q'.1) hn fun z hz => ?_
        obtain ⟨a, ha, hz2⟩ := hk z hz
        have := sonIn a z ha hz2
        rw [hb] at this
        obtain ⟨t1, t2⟩ := this
        omega
    refine ⟨_, (PSs.p0 (pss_cons (ps_set (i := 3) sc_sons.nd rfl (Or.inl rfl) pe_dnewK)
  (pss_cons (ps_for (passes_own std_cx hF) rfl (pi_list (pv 2)) (pg_name (i := 4) sc_sons.nd rfl (Or.inl rfl))
  (pss_one (ps_for (passes_own std_cx hF) rfl (pi_range2 rfl T.z_range (pa_cons (pe_ix ix_list (pv 1) pe_int (fun _ _ => rfl)) (pa_cons (pe_op op_add (pe_ix ix_list (pv 1) pe_int (fun _ _ => rfl)) pe_int) pa_nil))) (pg_name (i := 5) sc_sons.nd rfl (Or.inl rfl))
  (pss_cons (ps_set (i := 6) sc_sons.nd rfl (Or.inl rfl) (pe_fnS F_grade (hr.mono (by first | decide | omega)) (passS std_cx) (pa_cons (pe_ix ix_list (pv 0) pe_int (fun _ _ => rfl)) (pa_cons (pe_op op_fdiv (pe_op op_sub (pv 5) (pv 4)) (pe_ix ix_list (pv 1) pe_int (fun _ _ => rfl))) pa_nil))))
  (pss_one (ps_if (PW.pt (pw_and (pt_cmpR op_notN (pv 6) pe_non (nomark _)) (pw_and1 (pt_chain op_le op_le (pe_ix ix_list (pv 0) pe_int (fun _ _ => rfl)) (pv 6) (pe_ix ix_list (pv 0) pe_int (fun _ _ => rfl)))))) (pss_one (ps_dput (hu_of hr) (pv 3) (pe_op op_sub (pe_op op_add (pv 4) (pe_op op_mul (pe_ix ix_list (pv 0) pe_int (fun _ _ => rfl)) (pe_ix ix_list (pv 1) pe_int (fun _ _ => rfl)))) (pv 5)) pe_bl rfl)) pss_nil))))))
  (pss_one (ps_ret (pe_callB (call_sortedDB rfl) rfl T.z_sorted bb_sorted (pa_cons (pv 3) pa_nil))))))), ?_⟩
    refine fun dd hdd => ?_
    have s1 : Same H (upd H dd (.dK [])) := (Same.refl H).upd_new hdd
    refine ⟨_, rfl, al, rfl, ⟨_, SqL.of (s1 _ _ hal)⟩, for_list (K := K) (a := al) (xs := as.map V.int) (fun i σ H2 => Same H H2 ∧ ∃ (kvs : List (Key × V)) (ks : List Int) (v4 v5 v6 : Option V), σ = [some (.ref d), some (.ref st), some (.ref al), some (.ref dd), v4, v5, v6] ∧ H2 dd = some (.dK kvs) ∧ kvs.map (·.1) = ks.map Sum.inl ∧ ks.Nodup ∧ (∀ z ∈ ks, ∃ a, a ∈ as ∧ IsSon D b y o a z) ∧ (∀ (j : Nat) (a z : Int), j < i → as[j]? = some a → IsSon D b y o a z → z ∈ ks))
      ⟨s1, [], [], none, none, none, rfl, upd_same, rfl, List.nodup_nil, (fun z hz => by cases hz), fun j a z hj => by omega⟩ (fun i σ H2 _ ⟨s2, _⟩ => SqL.of (s2 _ _ hal)) ?_ ?_⟩
    · rintro i zz σ H2 hi ⟨s2, kvs, ks, v4, v5, v6, rfl, h2, hks, hnd, hin, hall⟩
      obtain ⟨a, rfl, ha⟩ := map_at hi
      have haa := List.mem_of_getElem? ha
      have sd2 : SqL K H2 d (drow p D) := SqL.of (s2 _ _ hD.1)
      have ss2 : SqL K H2 st (stV b y o e) := SqL.of (s2 _ _ hst)
      refine ⟨_, rfl, st, _, _, _, rfl, rfl, ss2, rfl, _, rfl, st, _, _, _, rfl, rfl, ss2, rfl, _, _, rfl, rfl, _, _, rfl, ⟨by omega, by omega, by omega, by omega⟩, ?_⟩
      refine for_range (fun t σ H3 => Same H H3 ∧ ∃ (kvs : List (Key × V)) (ks : List Int) (v5 v6 : Option V), σ = [some (.ref d), some (.ref st), some (.ref al), some (.ref dd), some (.int a), v5, v6] ∧ H3 dd = some (.dK kvs) ∧ kvs.map (·.1) = ks.map Sum.inl ∧ ks.Nodup ∧ (∀ z ∈ ks, ∃ a, a ∈ as ∧ IsSon D b y o a z) ∧ (∀ (j : Nat) (a z : Int), j < i → as[j]? = some a → IsSon D b y o a z → z ∈ ks) ∧ (∀ f : Int, y ≤ f → f < y + (t : Int) → soonF D b ≤ f - a → f - a ≤ latF D b → a + D.gap * b - f ∈ ks))
        ⟨s2, kvs, ks, v5, v6, rfl, h2, hks, hnd, hin, hall, fun f f1 f2 => by omega⟩ ?_ ?_
      · rintro t σ H3 ht ⟨s3, kvs, ks, v5, v6, rfl, h3, hks, hnd, hin, hall, hcur⟩
        have sd : SqL K H3 d (drow p D) := SqL.of (s3 _ _ hD.1)
        have ss : SqL K H3 st (stV b y o e) := SqL.of (s3 _ _ hst)
        refine ⟨_, rfl, d, _, _, _, rfl, rfl, sd, rfl, _, rfl, _, rfl, _, _, rfl, rfl, _, rfl, st, _, _, _, rfl, rfl, ss, rfl, _, _, rfl, rfl, ⟨by omega, by omega⟩, p, D.stays, (y + (t : Int) - a) / b, rfl, SqL.of (s3 _ _ hD.2), (by omega), ?_⟩
        have wi := way_iff (t := y + (t : Int) - a) hG okb
        rcases grade_test hG ((y + (t : Int) - a) / b) with ⟨g1, g2, gk, eg, g3, g4⟩ | ⟨gn, gr⟩
        · have wy := wi.mp ⟨g1, g2⟩
          rw [eg]
          refine ⟨_, rfl, rfl, _, rfl, iteT ?_⟩
          refine ⟨_, rfl, d, _, _, _, rfl, rfl, sd, rfl, _, rfl, _, _, rfl, rfl, _, rfl, iteP g3 ⟨_, rfl, d, _, _, _, rfl, rfl, sd, rfl, _, _, rfl, rfl, _, rfl, iteP g4 ?_⟩⟩
          have hkl : kvs.length = ks.length := by have := congrArg List.length hks; simpa using this
          have hfew := few ks hnd hin
          obtain ⟨ks', e1, e2, e3⟩ := put_keys (n := a + D.gap * b - (y + (t : Int))) (v := V.bl true) hks hnd
          refine ⟨_, rfl, _, rfl, _, rfl, d, _, _, _, rfl, rfl, sd, rfl, _, rfl, st, _, _, _, rfl, rfl, ss, rfl, _, _, rfl, rfl, .inr ⟨by omega, by omega⟩, _, _, rfl, rfl, _, rfl, _, _, rfl, rfl, dd, _, rfl, DPut.k (k := Sum.inl (a + D.gap * b - (y + (t : Int)))) h3 (small1000 (by omega)), ?_⟩
          refine ⟨s3.upd_own hdd, _, ks', _, _, rfl, upd_same, e1, e2, fun z hz => ?_, fun j a' z hj ha' hz => (e3 z).mpr (.inl (hall j a' z hj ha' hz)), fun f f1 f2 f3 f4 => ?_⟩
          · rcases (e3 z).mp hz with hz | rfl
            · exact hin z hz
            · exact ⟨a, haa, y + (t : Int), by omega, by omega, wy.1, wy.2, rfl⟩
          · by_cases hf : f = y + (t : Int)
            · subst hf; exact (e3 _).mpr (.inr rfl)
            · exact (e3 _).mpr (.inl (hcur f f1 (by omega) f3 f4))
        · have nw : ¬ (soonF D b ≤ y + (t : Int) - a ∧ y + (t : Int) - a ≤ latF D b) := fun q => gn (wi.mpr q)
          have nxt : ∀ {v5 v6 : Option V}, Same H H3 ∧ ∃ (kvs : List (Key × V)) (ks : List Int) (v5' v6' : Option V), [some (V.ref d), some (.ref st), some (.ref al), some (.ref dd), some (.int a), v5, v6] = [some (.ref d), some (.ref st), some (.ref al), some (.ref dd), some (.int a), v5', v6'] ∧ H3 dd = some (.dK kvs) ∧ kvs.map (·.1) = ks.map Sum.inl ∧ ks.Nodup ∧ (∀ z ∈ ks, ∃ a, a ∈ as ∧ IsSon D b y o a z) ∧ (∀ (j : Nat) (a z : Int), j < i → as[j]? = some a → IsSon D b y o a z → z ∈ ks) ∧ (∀ f : Int, y ≤ f → f < y + ((t + 1 : Nat) : Int) → soonF D b ≤ f - a → f - a ≤ latF D b → a + D.gap * b - f ∈ ks) := by
            refine ⟨s3, kvs, ks, _, _, rfl, h3, hks, hnd, hin, hall, fun f f1 f2 f3 f4 => ?_⟩
            by_cases hf : f = y + (t : Int)
            · subst hf; exact absurd ⟨f3, f4⟩ nw
            · exact hcur f f1 (by omega) f3 f4
          rcases gr with eg | ⟨gk, eg, gb⟩
          · rw [eg]
            exact ⟨_, rfl, rfl, _, rfl, iteF (iteF nxt)⟩
          · rw [eg]
            refine ⟨_, rfl, rfl, _, rfl, iteT ?_⟩
            refine ⟨_, rfl, d, _, _, _, rfl, rfl, sd, rfl, _, rfl, _, _, rfl, rfl, _, rfl, ite2 (fun hc => ?_) (fun hc => ⟨_, rfl, iteF nxt⟩)⟩
            exact ⟨_, rfl, d, _, _, _, rfl, rfl, sd, rfl, _, _, rfl, rfl, _, rfl, iteN (fun q => gb ⟨of_decide_eq_true hc, q⟩) nxt⟩
      · rintro σ H3 ⟨s3, kvs, ks, v5, v6, rfl, h3, hks, hnd, hin, hall, hcur⟩
        refine ⟨s3, kvs, ks, _, _, _, rfl, h3, hks, hnd, hin, fun j a' z hj ha' hz => ?_⟩
        by_cases hj2 : j = i
        · subst hj2
          rw [ha] at ha'
          cases ha'
          obtain ⟨f, f1, f2, f3, f4, rfl⟩ := hz
          exact hcur f f1 (by omega) f3 f4
        · exact hall j a' z (by omega) ha' hz
    · rintro σ H2 ⟨s2, kvs, ks, v4, v5, v6, rfl, h2, hks, hnd, hin, hall⟩
      have hfew := few ks hnd hin
      refine ⟨_, rfl, dd, kvs, ks, rfl, h2, hks, fun l ns' hl0 hp hs => ?_⟩
      refine k l ns' _ (s2.free hl0) (s2.upd_new hl0) upd_same (by rw [hp.length_eq]; exact hfew) hs (hp.nodup_iff.mpr hnd) fun z => ?_
      rw [hp.mem_iff]
      constructor
      · intro hz
        obtain ⟨a, ha, hz2⟩ := hin z hz
        exact sonIn a z ha hz2
      · intro hz
        cases hb : bd with
        | none => rw [hb] at hz; exact hz.elim
        | some q =>
          rw [hb] at hz
          have hz' : inB (nbF D b y o q) z := hz
          cases hq : nbF D b y o q with
          | none => rw [hq] at hz'; exact hz'.elim
          | some q' =>
            rw [hq] at hz'
            obtain ⟨a, a1, a2, hson⟩ := (son_band y2 (hbd q hb).1 li.2.1 z).mpr ⟨q', hq, hz'.1, hz'.2⟩
            have ham : a ∈ as := (hmem a).mpr (by rw [hb]; exact ⟨a1, a2⟩)
            obtain ⟨j, hj⟩ := List.getElem?_of_mem ham
            exact hall j a z (by rw [List.length_map]; exact (List.getElem?_eq_some_iff.mp hj).1) hj hson

/-- a run of numbers, by size -/
theorem run_of : ∀ {ns : List Int} {l h : Int}, ns.Pairwise (· ≤ ·) → ns.Nodup → l ≤ h → (∀ z, z ∈ ns ↔ l ≤ z ∧ z ≤ h) → (ns.length : Int) = h - l + 1 ∧ ns[0]? = some l ∧ ∃ pre, ns = pre ++ [h]
  | [], l, h, _, _, hl, hm => absurd ((hm l).mpr ⟨Int.le_refl _, hl⟩) List.not_mem_nil
  | a :: r, l, h, hs, hn, hl, hm => by
    have ea : a = l := by
      have h1 := (hm a).mp (List.mem_cons_self ..)
      rcases List.mem_cons.mp ((hm l).mpr ⟨Int.le_refl _, hl⟩) with q | q
      · exact q.symm
      · have := (List.pairwise_cons.mp hs).1 l q
        omega
    subst ea
    have hnr := List.nodup_cons.mp hn
    have hr : ∀ z, z ∈ r ↔ a + 1 ≤ z ∧ z ≤ h := fun z => by
      constructor
      · intro hz
        have h1 := (hm z).mp (List.mem_cons_of_mem _ hz)
        have : z ≠ a := fun e => hnr.1 (e ▸ hz)
        omega
      · intro hz
        rcases List.mem_cons.mp ((hm z).mpr ⟨by omega, hz.2⟩) with q | q
        · omega
        · exact q
    by_cases c : a = h
    · subst c
      have er : r = [] := by
        cases r with
        | nil => rfl
        | cons z r => have := (hr z).mp (List.mem_cons_self ..); omega
      subst er
      exact ⟨by show (1 : Int) = _; omega, rfl, [], rfl⟩
    · obtain ⟨q1, q2, pre, q3⟩ := run_of (List.pairwise_cons.mp hs).2 hnr.2 (show a + 1 ≤ h by omega) hr
      exact ⟨by rw [List.length_cons]; omega, rfl, a :: pre, by rw [q3]; rfl⟩
theorem nb_le {D : DR} {b y o : Int} {p q : Int × Int} (hyo : y ≤ o) (hp : p.1 ≤ p.2) (hs : soonF D b ≤ latF D b) (h : nbF D b y o p = some q) : q.1 ≤ q.2 := by
  have c1 := fi_c D b y p.1
  have c2 := la_c D b o p.2
  have c3 := slo_c D b y o p.1
  have c4 := shi_c D b y o p.2
  unfold nbF at h
  split at h
  · cases h
  · cases h
    show sonLo D b y o p.1 ≤ sonHi D b y o p.2
    omega

theorem drawn4 {m0 m1 m2 m3 : Int} {rs : List Int} (h : Drawn rs [m0, m1, m2, m3]) : ∃ r0 r1 r2 r3 : Int, rs = [r0, r1, r2, r3] ∧ (0 ≤ r0 ∧ r0 < m0) ∧ (0 ≤ r1 ∧ r1 < m1) ∧ (0 ≤ r2 ∧ r2 < m2) ∧ (0 ≤ r3 ∧ r3 < m3) := by
  obtain ⟨hl, hb⟩ := h
  match rs, hl, hb with
  | [r0, r1, r2, r3], _, hb => exact ⟨r0, r1, r2, r3, rfl, hb 0 _ _ rfl rfl, hb 1 _ _ rfl rfl, hb 2 _ _ rfl rfl, hb 3 _ _ rfl rfl⟩
/-! ### the law -/
def spLaw (K : PySem.W.Frag) : Sp := fun vs H Q _ => ∃ (a : Addr) (ns : List Int), vs = [.ref a] ∧ SqL K H a (ns.map V.int) ∧ ns.length ≤ 63 ∧ ∀ H', Q (.bl true) H'
theorem ok_law {f : Addr} {fd : FuncData} (U : Fun K "law" "law" s_law f fd) (T : Txt K mg CRule EBadAges EBadBand EBadBeat)
    (F_cell : Fn P w K mg base (CX1 P w) "_law_cell" 1 ["_law_script", "_law_k"] (spCell K)) (F_rule : Fn P w K mg base (CX1 P w) "_law_rule" 2 ["_law_cell_here"] spRule) (F_made : Fn P w K mg base (CX1 P w) "_law_made" 4 ["_law_d"] (spMade CRule))
    (F_many : Fn P w K mg base (CX1 P w) "_law_many" 1 ["_law_script", "_law_few"] (spMany K)) (F_draw : Fn P w K mg base (CX1 P w) "_law_draw" 1 ["_law_cell_here", "_law_limits"] (spDraw K)) (F_steady : Fn P w K mg base (CX1 P w) "_law_steady" 2 ["_law_cell_here", "_law_d"] spSteady)
    (F_sons : Fn P w K mg base (CX1 P w) "_law_sons" 2 ["_law_d", "_law_steady_here", "_law_ages"] spSons) (F_sons_band : Fn P w K mg base (CX1 P w) "sons_band" 4 ["rule", "beat", "young", "old", "band"] (spSonsBand CRule EBadBeat EBadAges EBadBand))
    (F_same : Fn P w K mg base (CX1 P w) "_law_same" 2 ["_law_found", "_law_due"] (spSame 2)) : FnOk P w K mg base (CX1 P w) 8 f fd ["_law_script"] (spLaw K) := by
  refine U.okX sc_law (fun vs H Q E h => ?_) (fun cdv A outer s H vs Q E hF hr h => ?_)
  · obtain ⟨a, ns, rfl, _⟩ := h
    rfl
  · obtain ⟨a, ns, rfl, hS, hlen, k⟩ := h
    refine ⟨_, (PSs.p0 (pss_cons (ps_set (i := 1) sc_law.nd rfl (Or.inl rfl) (pe_fnS F_rule (hr.mono (by first | decide | omega)) (passS std_cx) (pa_cons (pe_fnS F_cell (hr.mono (by first | decide | omega)) (passS std_cx) (pa_cons (pv 0) (pa_cons pe_int pa_nil))) pa_nil)))
  (pss_cons (ps_set (i := 2) sc_law.nd rfl (Or.inl rfl) (pe_fnS F_made (hr.mono (by first | decide | omega)) (passS std_cx) (pa_cons (pv 1) pa_nil)))
  (pss_cons (ps_for (passes_own std_cx hF) rfl (pi_range2 rfl T.z_range (pa_cons pe_int (pa_cons (pe_callB (call_min2 rfl) rfl T.z_min bb_min (pa_cons pe_int (pa_cons (pe_fnS F_many (hr.mono (by first | decide | omega)) (passS std_cx) (pa_cons (pv 0) (pa_cons pe_int pa_nil))) pa_nil))) pa_nil))) (pg_name (i := 3) sc_law.nd rfl (Or.inl rfl))
  (pss_cons (ps_set (i := 4) sc_law.nd rfl (Or.inl rfl) (pe_fnS F_cell (hr.mono (by first | decide | omega)) (passS std_cx) (pa_cons (pv 0) (pa_cons (pv 3) pa_nil))))
  (pss_cons (ps_set (i := 5) sc_law.nd rfl (Or.inr rfl) (pe_fnS F_steady (hr.mono (by first | decide | omega)) (passS std_cx) (pa_cons (pv 4) (pa_cons (pv 1) pa_nil))))
  (pss_cons (ps_set (i := 6) sc_law.nd rfl (Or.inl rfl) (pe_fnS F_draw (hr.mono (by first | decide | omega)) (passS std_cx) (pa_cons (pe_op op_add (pe_op op_fdiv (pv 4) pe_int) (pv 3)) (pa_cons (pe_lst (pa_cons pe_int (pa_cons pe_int (pa_cons pe_int (pa_cons pe_int pa_nil))))) pa_nil))))
  (pss_cons (ps_join (ps_set (i := 7) sc_law.nd rfl (Or.inl rfl) (pe_ifExp (pt_cmpR op_gt (pe_ix ix_list (pv 6) pe_int (fun _ _ => rfl)) pe_int (nomark _)) (pe_ix ix_list (pv 6) pe_int (fun _ _ => rfl)) (pe_op op_add pe_int (pe_ix ix_list (pv 6) pe_int (fun _ _ => rfl))))))
  (pss_cons (ps_set (i := 8) sc_law.nd rfl (Or.inl rfl) (pe_fnS F_sons (hr.mono (by first | decide | omega)) (passS std_cx) (pa_cons (pv 1) (pa_cons (pv 5) (pa_cons (pe_comp (N' := ["_law_one", "_law_steady_here"]) (cap := [none, some 5]) (by exact CompOk.of (by kernel_rfl)) rfl (pi_range1 rfl T.z_range (pa_cons (pe_op op_add (pv 7) pe_int) pa_nil)) (fun _ _ _ _ => (pg_name (i := 0) (show List.Nodup (["_law_one", "_law_steady_here"] : List Str) by decide +kernel) rfl (Or.inl rfl) (Or.inr rfl))) (fun _ _ _ _ => pf_nil) (fun _ _ _ _ => (pe_op op_add (pe_ix (ix_listK (K := K) rfl) (pv 1) pe_int (fun _ _ => rfl)) (pv 0)))) pa_nil)))))
  (pss_cons (ps_set (i := 9) sc_law.nd rfl (Or.inl rfl) pe_non)
  (pss_cons (ps_join (ps_if (pt_cmpR op_gt (pe_callB call_len_seq rfl T.z_len bb_len (pa_cons (pv 8) pa_nil)) pe_int (nomark _)) (pss_cons (ps_set (i := 9) sc_law.nd rfl (Or.inl rfl) (pe_tup (pa_cons (pe_ix ix_list (pv 8) pe_int (fun _ _ => rfl)) (pa_cons (pe_ix ix_list (pv 8) (pe_un un_neg pe_int) (fun _ _ => rfl)) pa_nil))))
  (pss_one (ps_if (pt_cmpR op_ne (pe_callB call_len_seq rfl T.z_len bb_len (pa_cons (pv 8) pa_nil)) (pe_op op_add (pe_op op_sub (pe_ix ix_list (pv 8) (pe_un un_neg pe_int) (fun _ _ => rfl)) (pe_ix ix_list (pv 8) pe_int (fun _ _ => rfl))) pe_int) (nomark _)) (pss_one (ps_ret pe_bl)) pss_nil))) pss_nil))
  (pss_one (ps_if (pt_not (pt_val (pe_fnS F_same (hr.mono (by first | decide | omega)) (passS std_cx) (pa_cons (pe_fnS F_sons_band (hr.mono (by first | decide | omega)) (passS std_cx) (pa_cons (pv 2) (pa_cons (pe_ix ix_list (pv 5) pe_int (fun _ _ => rfl)) (pa_cons (pe_ix ix_list (pv 5) pe_int (fun _ _ => rfl)) (pa_cons (pe_ix ix_list (pv 5) pe_int (fun _ _ => rfl)) (pa_cons (pe_tup (pa_cons (pe_ix ix_list (pv 5) pe_int (fun _ _ => rfl)) (pa_cons (pe_op op_add (pe_ix ix_list (pv 5) pe_int (fun _ _ => rfl)) (pv 7)) pa_nil))) pa_nil)))))) (pa_cons (pv 9) pa_nil))))) (pss_one (ps_ret pe_bl)) pss_nil))))))))))
  (pss_one (ps_ret pe_bl)))))), ?_⟩
    refine ⟨_, rfl, a, ns, 0, rfl, hS, hlen, fun c => ⟨c, rfl, fun d p D H1 hd0 hp0 s1 hD hG => ?_⟩⟩
    refine ⟨_, rfl, d, p, D, rfl, hD, hG, fun x lp H2 hx0 hl0 s2 hR => ?_⟩
    have hD2 := hD.same s2
    have hlm := hG.lm
    refine ⟨_, rfl, a, ns, 7, rfl, (s1.trans s2).seq hS, hlen, ⟨by decide, by decide⟩, fun m hm1 hm2 => ⟨_, _, rfl, _, _, rfl, ?_, ?_⟩⟩
    · have c := if_c (c := m < 13) m 13
      exact ⟨by decide, by decide, by omega, by omega⟩
    refine for_range (fun i σ H3 => Same H2 H3 ∧ ∃ (v3 v4 v5 v6 v7 v8 v9 : Option V), σ = [some (.ref a), some (.ref d), some (.ref x), v3, v4, v5, v6, v7, v8, v9]) ⟨Same.refl _, _, _, _, _, _, _, _, rfl⟩ ?_ ?_
    · rintro i σ H3 hi ⟨s3, v3, v4, v5, v6, v7, v8, v9, rfl⟩
      have s13 := (s1.trans s2).trans s3
      have e1 : (1 : Int) + (i : Int) = ((1 + i : Nat) : Int) := by omega
      refine ⟨_, rfl, _, rfl, a, ns, 1 + i, (by rw [e1] <;> rfl), s13.seq hS, hlen, fun c => ⟨_, rfl, _, rfl, c, d, p, D, rfl, hD2.same s3, hG, fun st b y o e H4 hst0 s4 hst okb oka e0 e9 => ?_⟩⟩
      have hb1 := okb.1
      have hb2 := okb.2
      obtain ⟨y1, y2, y3⟩ := id oka
      have li := lat_in hG okb
      have s14 := s13.trans s4
      refine ⟨_, rfl, _, _, rfl, rfl, ⟨by decide, by decide⟩, _, rfl, _, _, rfl, rfl, (by show 4 ≤ sizeLine; decide), fun lm hlm0 => ⟨_, lm, [3, 7, 4, 253], rfl, SqL.of upd_same, by decide, by decide, fun row rs H5 hrow0 s5 hrow hdr => ?_⟩⟩
      obtain ⟨r0, r1, r2, r3, rfl, ⟨a0, b0⟩, ⟨a1, b1⟩, ⟨a2, b2⟩, ⟨a3, b3⟩⟩ := drawn4 hdr
      have s45 : Same H4 H5 := ((Same.refl H4).upd_new hlm0).trans s5
      have hst5 : H5 st = some (.lst (stV b y o e)) := s45 _ _ hst
      have ss5 : SqL K H5 st (stV b y o e) := SqL.of hst5
      have sr5 : SqL K H5 row ([r0, r1, r2, r3].map V.int) := SqL.of hrow
      have s15 := s14.trans s45
      refine ⟨fun σ H7 => H7 = H5 ∧ ∃ n : Nat, n ≤ 260 ∧ σ = [some (.ref a), some (.ref d), some (.ref x), some (.int (1 + (i : Int))), some (.int c), some (.ref st), some (.ref row), some (.int (n : Int)), v8, v9], ?_, ?_⟩
      · refine ⟨_, rfl, row, _, _, _, rfl, rfl, sr5, rfl, _, _, rfl, rfl, _, rfl, ite2 (fun hc => ?_) (fun hc => ?_)⟩
        · obtain ⟨n, en⟩ := Int.eq_ofNat_of_zero_le (show 0 ≤ r1 by omega)
          refine ⟨_, rfl, row, _, _, _, rfl, rfl, sr5, rfl, rfl, n, by omega, ?_⟩
          rw [← en]
          rfl
        · obtain ⟨n, en⟩ := Int.eq_ofNat_of_zero_le (show 0 ≤ 8 + r3 by omega)
          refine ⟨_, rfl, row, _, _, _, rfl, rfl, sr5, rfl, _, _, rfl, rfl, rfl, n, by omega, ?_⟩
          rw [← en]
          rfl
      · rintro σ H7 ⟨rfl, n, hn, rfl⟩
        refine ⟨_, rfl, _, rfl, _, rfl, _, _, rfl, rfl, _, rfl, by omega, by omega, fun lc hlc => ?_⟩
        have etn : Int.toNat ((n : Int) + 1) = n + 1 := by omega
        rw [etn]
        have snoc : ∀ i : Nat, ((List.range (i + 1)).map fun g : Nat => e + (g : Int)).map V.int = ((List.range i).map fun g : Nat => e + (g : Int)).map V.int ++ [V.int (e + (i : Int))] := fun i => by rw [List.range_succ]; simp
        refine comp_range (n := n + 1) (fun i ys σ H8 => Same H7 H8 ∧ H8 lc = some (.lst ys) ∧ ys = ((List.range i).map fun g : Nat => e + (g : Int)).map V.int ∧ ∃ v, σ = [v, some (.ref st)]) ⟨(Same.refl H7).upd_own hlc, upd_same, rfl, _, rfl⟩ ?_ ?_
        · rintro j ys σ H8 hj ⟨s8, hl8, rfl, v, rfl⟩
          refine ⟨_, rfl, st, _, _, _, rfl, rfl, s8.seq ss5, rfl, _, rfl, _, _, rfl, rfl, ?_⟩
          rw [show (fun i j => V.int (i + j)) e (0 + (j : Int)) = V.int (e + (j : Int)) from congrArg V.int (by omega)]
          exact CNext.mk' hj hl8 (small1000 (by rw [List.length_map, List.length_map, List.length_range]; omega)) ⟨s8.upd_own hlc, upd_same, (snoc j).symm, _, rfl⟩
        rintro ys σ H8 ⟨s8, hl8, rfl, v, rfl⟩
        have s18 := s15.trans s8
        have hbd : ∀ z, z ∈ ((List.range (n + 1)).map fun g : Nat => e + (g : Int)) ↔ inB (some (e, e + (n : Int))) z := fun z => by
          rw [List.mem_map]
          constructor
          · rintro ⟨g, hg, rfl⟩
            have := List.mem_range.mp hg
            exact ⟨by show e ≤ _; omega, by show _ ≤ e + (n : Int); omega⟩
          · rintro ⟨h1, h2⟩
            have h1' : e ≤ z := h1
            have h2' : z ≤ e + (n : Int) := h2
            exact ⟨(z - e).toNat, List.mem_range.mpr (by omega), by omega⟩
        refine ⟨d, p, st, lc, D, b, y, o, e, _, some (e, e + (n : Int)), rfl, hD2.same ((s3.trans s4).trans (s45.trans s8)), hG, s8 _ _ hst5, hl8, okb, oka, (by rw [List.length_map, List.length_range]; omega), hbd, fun q hq => ?_, fun l zs H9 hl0 s9 h9 hln hso hnd hmz => ?_⟩
        · cases hq
          exact ⟨by show e ≤ e + (n : Int); omega, by show e + (n : Int) - e + (o - y) < 500; omega⟩
        have s79 := s8.trans s9
        have ss9 := s79.seq ss5
        have sz9 : SqL K H9 l (zs.map V.int) := SqL.of h9
        have hmz' : ∀ z, z ∈ zs ↔ inB (nbF D b y o (e, e + (n : Int))) z := hmz
        -- what is due
        refine ⟨fun σ H10 => Same H9 H10 ∧ ∃ u : V, σ = [some (.ref a), some (.ref d), some (.ref x), some (.int (1 + (i : Int))), some (.int c), some (.ref st), some (.ref row), some (.int (n : Int)), some (.ref l), some u] ∧ ((nbF D b y o (e, e + (n : Int)) = none ∧ u = .non) ∨ ∃ q t, nbF D b y o (e, e + (n : Int)) = some q ∧ u = .ref t ∧ H10 t = some (.tup [.int q.1, .int q.2])), ?_, ?_⟩
        · refine ⟨_, rfl, l, _, rfl, .inl sz9, _, _, rfl, rfl, _, rfl, ite2 (fun hc => ?_) (fun hc => ?_)⟩
          · have hpos : (0 : Int) < ((zs.map V.int).length : Int) := of_decide_eq_true hc
            rw [List.length_map] at hpos
            cases hq : nbF D b y o (e, e + (n : Int)) with
            | none =>
              exfalso
              cases hz : zs with
              | nil => rw [hz] at hpos; exact absurd hpos (by decide)
              | cons z r =>
                have := (hmz' z).mp (by rw [hz]; exact List.mem_cons_self ..)
                rw [hq] at this
                exact this
            | some q =>
              have qle := nb_le (p := (e, e + (n : Int))) y2 (by show e ≤ e + (n : Int); omega) li.2.1 hq
              obtain ⟨z1, z2, pre, z3⟩ := run_of hso hnd qle (fun z => by rw [hmz' z, hq]; exact Iff.rfl)
              have at0 : atI (zs.map V.int) 0 = some (V.int q.1) := atI_nat (j := 0) (by rw [List.getElem?_map, z2]; rfl)
              have atm : atI (zs.map V.int) (-1) = some (V.int q.2) := by rw [z3, List.map_append]; exact atI_last _ _
              refine ⟨_, rfl, l, _, _, _, rfl, rfl, sz9, at0, _, rfl, _, rfl, l, _, _, _, rfl, rfl, sz9, atm, (by show 2 ≤ sizeLine; decide), fun t ht => ?_⟩
              have s10 := (Same.refl H9).upd_new (o := .tup [.int q.1, .int q.2]) ht
              have sz10 := s10.seq sz9
              refine ⟨_, rfl, l, _, rfl, .inl sz10, _, rfl, _, rfl, l, _, _, _, rfl, rfl, sz10, atm, _, rfl, l, _, _, _, rfl, rfl, sz10, at0, _, _, rfl, rfl, _, _, rfl, rfl, rfl, _, rfl, iteNS (by rw [List.length_map, z1]) ?_⟩
              exact ⟨s10, .ref t, rfl, .inr ⟨q, t, rfl, rfl, upd_same⟩⟩
          · refine ⟨Same.refl _, .non, rfl, .inl ⟨?_, rfl⟩⟩
            cases hq : nbF D b y o (e, e + (n : Int)) with
            | none => rfl
            | some q =>
              exfalso
              have qle := nb_le (p := (e, e + (n : Int))) y2 (by show e ≤ e + (n : Int); omega) li.2.1 hq
              have := (hmz' q.1).mpr (by rw [hq]; exact ⟨Int.le_refl _, qle⟩)
              have hl1 := List.length_pos_of_mem this
              exact hc (decide_eq_true (by rw [List.length_map]; omega))
        · rintro σ H10 ⟨s10, u, rfl, hu⟩
          have s710 := s79.trans s10
          have ss10 := s710.seq ss5
          have s210 := ((s3.trans s4).trans s45).trans s710
          refine ⟨_, rfl, _, rfl, st, _, _, _, rfl, rfl, ss10, rfl, _, rfl, st, _, _, _, rfl, rfl, ss10, rfl, _, rfl, st, _, _, _, rfl, rfl, ss10, rfl, _, rfl, st, _, _, _, rfl, rfl, ss10, rfl, _, rfl, st, _, _, _, rfl, rfl, ss10, rfl, _, rfl, _, _, rfl, rfl, (by show 2 ≤ sizeLine; decide), fun bp hbp => ?_⟩
          have s11 := (Same.refl H10).upd_new (o := .tup [.int e, .int (e + (n : Int))]) hbp
          refine ⟨x, lp, bp, D, b, y, o, e, e + (n : Int), rfl, hR.same (s210.trans s11), hG, ⟨by omega, by omega⟩, ⟨by omega, by omega⟩, ⟨by omega, by omega⟩, ⟨by omega, by omega⟩, ⟨by omega, by omega⟩, upd_same, fun z => absurd okb z, fun _ z => absurd oka z, fun _ _ z => absurd z (by omega), fun _ _ _ hno H12 s12 => ?_, fun _ _ _ q hq r H12 hr0 s12 hr => ?_⟩
          · rcases hu with ⟨_, rfl⟩ | ⟨q, t, hq, _⟩
            · exact ⟨_, rfl, _, _, rfl, .inl ⟨rfl, trivial⟩, fun H13 s13 => ⟨_, rfl, iteF ⟨s210.trans (s11.trans (s12.trans s13)), _, _, _, _, _, _, _, rfl⟩⟩⟩
            · rw [hno] at hq; cases hq
          · rcases hu with ⟨hq', _⟩ | ⟨q', t, hq', rfl, ht⟩
            · rw [hq] at hq'; cases hq'
            · rw [hq] at hq'
              cases hq'
              refine ⟨_, rfl, _, _, rfl, .inr ⟨r, t, _, _, rfl, rfl, .inr ⟨hr, s12 _ _ (s11 _ _ ht)⟩, rfl, (by show 2 ≤ 1000; decide), fun i u v hu hv => ?_⟩, fun H13 s13 => ⟨_, rfl, iteF ⟨s210.trans (s11.trans (s12.trans s13)), _, _, _, _, _, _, _, rfl⟩⟩⟩
              rw [hu] at hv
              cases hv
              match i, hu with
              | 0, hu => cases hu; exact sameN_int
              | 1, hu => cases hu; exact sameN_int
    · rintro σ H3 ⟨s3, v3, v4, v5, v6, v7, v8, v9, rfl⟩
      exact k H3

end
theorem ln1 {p : List Value → Prop} (h : ∀ a0, p [a0]) : ∀ us : List Value, us.length = 1 → p us
  | [a0], _ => h a0
theorem ln2 {p : List Value → Prop} (h : ∀ a0 a1, p [a0, a1]) : ∀ us : List Value, us.length = 2 → p us
  | [a0, a1], _ => h a0 a1
theorem ln3 {p : List Value → Prop} (h : ∀ a0 a1 a2, p [a0, a1, a2]) : ∀ us : List Value, us.length = 3 → p us
  | [a0, a1, a2], _ => h a0 a1 a2
theorem ln4 {p : List Value → Prop} (h : ∀ a0 a1 a2 a3, p [a0, a1, a2, a3]) : ∀ us : List Value, us.length = 4 → p us
  | [a0, a1, a2, a3], _ => h a0 a1 a2 a3
theorem ln5 {p : List Value → Prop} (h : ∀ a0 a1 a2 a3 a4, p [a0, a1, a2, a3, a4]) : ∀ us : List Value, us.length = 5 → p us
  | [a0, a1, a2, a3, a4], _ => h a0 a1 a2 a3 a4
theorem ln8 {p : List Value → Prop} (h : ∀ a0 a1 a2 a3 a4 a5 a6 a7, p [a0, a1, a2, a3, a4, a5, a6, a7]) : ∀ us : List Value, us.length = 8 → p us
  | [a0, a1, a2, a3, a4, a5, a6, a7], _ => h a0 a1 a2 a3 a4 a5 a6 a7
theorem all_mk {l : PySem.W.OpenLaw} {w : World} {K : PySem.W.Frag} {h : Heap} {mg : Str → Option Value} {fa : Addr} {CRule EBadAges EBadBand EBadBeat f0 f1 f2 f3 f4 f5 f6 f7 f8 f9 f10 f11 f12 f13 f14 f15 f16 f17 f18 : Addr} {d0 d1 d2 d3 d4 d5 d6 d7 d8 d9 d10 d11 d12 d13 d14 d15 d16 d17 d18 : FuncData} {t_LONGEST_STAY t_LONGEST_YEARS t_MOST_GRADES t_MOST_NAMES t_OLDEST_FATHER t_WIDEST_GAP : Tok} (X : K.In h) (G : h.Ns mainGlobals mg) (hfa : mg "law" = some (.ref fa))
  (C_Rule : ClA K "Rule" CRule)
  (a_draw : FnA K "_law_draw" s_draw f0 d0)
  (a_rule : FnA K "_law_rule" s_rule f1 d1)
  (a_cell : FnA K "_law_cell" s_cell f2 d2)
  (a_check_stays : FnA K "check_stays" s_check_stays f3 d3)
  (a_made : FnA K "_law_made" s_made f5 d5)
  (a_same : FnA K "_law_same" s_same f6 d6)
  (a_many : FnA K "_law_many" s_many f7 d7)
  (a_grade : FnA K "_law_grade" s_grade f8 d8)
  (a_fathering_feasts : FnA K "fathering_feasts" s_fathering_feasts f11 d11)
  (a_check_beat : FnA K "check_beat" s_check_beat f12 d12)
  (a_check_terms : FnA K "check_terms" s_check_terms f13 d13)
  (a_next_band : FnA K "next_band" s_next_band f14 d14)
  (a_sons_band : FnA K "sons_band" s_sons_band f15 d15)
  (a_steady : FnA K "_law_steady" s_steady f16 d16)
  (a_sons : FnA K "_law_sons" s_sons f17 d17)
  (a_law : FnA K "law" s_law f18 d18)
  (a_Rule___init__ : MtA K CRule "__init__" "Rule.__init__" s_Rule___init__ f4 d4)
  (a_Rule_stays : MtA K CRule "stays" "Rule.stays" s_Rule_stays f9 d9)
  (a_Rule_begin : MtA K CRule "begin" "Rule.begin" s_Rule_begin f10 d10)
  (nRule_lengths : NoAttr K CRule "lengths")
  (nRule_gap : NoAttr K CRule "gap")
  (nRule_opens : NoAttr K CRule "opens")
  (nRule_shuts : NoAttr K CRule "shuts")
  (nRule_least : NoAttr K CRule "least")
  (nRule_most : NoAttr K CRule "most")
  (nRule_names : NoAttr K CRule "names")
  (x_BadAges : XcA K "BadAges" EBadAges)
  (x_BadBand : XcA K "BadBand" EBadBand)
  (x_BadBeat : XcA K "BadBeat" EBadBeat)
  (z_bool : PySem.W.nsIn K mainGlobals "bool" = some none)
  (z_int : PySem.W.nsIn K mainGlobals "int" = some none)
  (z_isinstance : PySem.W.nsIn K mainGlobals "isinstance" = some none)
  (z_len : PySem.W.nsIn K mainGlobals "len" = some none)
  (z_list : PySem.W.nsIn K mainGlobals "list" = some none)
  (z_max : PySem.W.nsIn K mainGlobals "max" = some none)
  (z_min : PySem.W.nsIn K mainGlobals "min" = some none)
  (z_range : PySem.W.nsIn K mainGlobals "range" = some none)
  (z_sorted : PySem.W.nsIn K mainGlobals "sorted" = some none)
  (z_str : PySem.W.nsIn K mainGlobals "str" = some none)
  (z_sum : PySem.W.nsIn K mainGlobals "sum" = some none)
  (z_tuple : PySem.W.nsIn K mainGlobals "tuple" = some none)
  (g_LONGEST_STAY : PySem.W.nsIn K mainGlobals "LONGEST_STAY" = some (some (.int 6 t_LONGEST_STAY)))
  (g_LONGEST_YEARS : PySem.W.nsIn K mainGlobals "LONGEST_YEARS" = some (some (.int 40 t_LONGEST_YEARS)))
  (g_MOST_GRADES : PySem.W.nsIn K mainGlobals "MOST_GRADES" = some (some (.int 8 t_MOST_GRADES)))
  (g_MOST_NAMES : PySem.W.nsIn K mainGlobals "MOST_NAMES" = some (some (.int 60 t_MOST_NAMES)))
  (g_OLDEST_FATHER : PySem.W.nsIn K mainGlobals "OLDEST_FATHER" = some (some (.int 120 t_OLDEST_FATHER)))
  (g_WIDEST_GAP : PySem.W.nsIn K mainGlobals "WIDEST_GAP" = some (some (.int 60 t_WIDEST_GAP)))
  : ∃ fd : FuncData, (∀ (s : Shared) (v : Value), BindsTo s fd ⟨[v], []⟩ [("_law_script", v)]) ∧ ∀ base : Heap, K.In base → base.Ns mainGlobals mg → FnOk l.prog w K mg base (CX1 l.prog w) 8 fa fd ["_law_script"] (spLaw K) := by
  have e := hfa.symm.trans (PySem.W.mg_of X G a_law.a)
  cases e
  have T : Txt K mg CRule EBadAges EBadBand EBadBeat := ⟨PySem.W.mg_none_of X G z_bool, PySem.W.mg_none_of X G z_int, PySem.W.mg_none_of X G z_isinstance, PySem.W.mg_none_of X G z_len, PySem.W.mg_none_of X G z_list, PySem.W.mg_none_of X G z_max, PySem.W.mg_none_of X G z_min, PySem.W.mg_none_of X G z_range, PySem.W.mg_none_of X G z_sorted, PySem.W.mg_none_of X G z_str, PySem.W.mg_none_of X G z_sum, PySem.W.mg_none_of X G z_tuple, ⟨_, PySem.W.mg_of X G g_LONGEST_STAY⟩, ⟨_, PySem.W.mg_of X G g_LONGEST_YEARS⟩, ⟨_, PySem.W.mg_of X G g_MOST_GRADES⟩, ⟨_, PySem.W.mg_of X G g_MOST_NAMES⟩, ⟨_, PySem.W.mg_of X G g_OLDEST_FATHER⟩, ⟨_, PySem.W.mg_of X G g_WIDEST_GAP⟩, C_Rule.c, nRule_lengths, nRule_gap, nRule_opens, nRule_shuts, nRule_least, nRule_most, nRule_names, ⟨PySem.W.mg_of X G x_BadAges.a, x_BadAges.e⟩, ⟨PySem.W.mg_of X G x_BadBand.a, x_BadBand.e⟩, ⟨PySem.W.mg_of X G x_BadBeat.a, x_BadBeat.e⟩⟩
  have b_draw := a_draw.U.binds (ps := ["_law_cell_here", "_law_limits"]) fun _ _ _ _ _ _ => ln2 fun _ _ => rfl
  have b_rule := a_rule.U.binds (ps := ["_law_cell_here"]) fun _ _ _ _ _ _ => ln1 fun _ => rfl
  have b_cell := a_cell.U.binds (ps := ["_law_script", "_law_k"]) fun _ _ _ _ _ _ => ln2 fun _ _ => rfl
  have b_check_stays := a_check_stays.U.binds (ps := ["stays"]) fun _ _ _ _ _ _ => ln1 fun _ => rfl
  have b_Rule___init__ := a_Rule___init__.U.binds (ps := ["self", "stays", "gap", "opens", "shuts", "least", "most", "names"]) fun _ _ _ _ _ _ => ln8 fun _ _ _ _ _ _ _ _ => rfl
  have b_made := a_made.U.binds (ps := ["_law_d"]) fun _ _ _ _ _ _ => ln1 fun _ => rfl
  have b_same := a_same.U.binds (ps := ["_law_found", "_law_due"]) fun _ _ _ _ _ _ => ln2 fun _ _ => rfl
  have b_many := a_many.U.binds (ps := ["_law_script", "_law_few"]) fun _ _ _ _ _ _ => ln2 fun _ _ => rfl
  have b_grade := a_grade.U.binds (ps := ["_law_stays", "_law_stood"]) fun _ _ _ _ _ _ => ln2 fun _ _ => rfl
  have b_Rule_stays := a_Rule_stays.U.binds (ps := ["self"]) fun _ _ _ _ _ _ => ln1 fun _ => rfl
  have b_Rule_begin := a_Rule_begin.U.binds (ps := ["self", "grade"]) fun _ _ _ _ _ _ => ln2 fun _ _ => rfl
  have b_fathering_feasts := a_fathering_feasts.U.binds (ps := ["rule"]) fun _ _ _ _ _ _ => ln1 fun _ => rfl
  have b_check_beat := a_check_beat.U.binds (ps := ["rule", "beat"]) fun _ _ _ _ _ _ => ln2 fun _ _ => rfl
  have b_check_terms := a_check_terms.U.binds (ps := ["rule", "beat", "young", "old"]) fun _ _ _ _ _ _ => ln4 fun _ _ _ _ => rfl
  have b_next_band := a_next_band.U.binds (ps := ["rule", "beat", "young", "old", "band"]) fun _ _ _ _ _ _ => ln5 fun _ _ _ _ _ => rfl
  have b_sons_band := a_sons_band.U.binds (ps := ["rule", "beat", "young", "old", "band"]) fun _ _ _ _ _ _ => ln5 fun _ _ _ _ _ => rfl
  have b_steady := a_steady.U.binds (ps := ["_law_cell_here", "_law_d"]) fun _ _ _ _ _ _ => ln2 fun _ _ => rfl
  have b_sons := a_sons.U.binds (ps := ["_law_d", "_law_steady_here", "_law_ages"]) fun _ _ _ _ _ _ => ln3 fun _ _ _ => rfl
  have b_law := a_law.U.binds (ps := ["_law_script"]) fun _ _ _ _ _ _ => ln1 fun _ => rfl
  have fn_of := @fn_of l.prog w K mg
  have fm_of := @fm_of l.prog w K mg
  refine ⟨d18, fun s v => by obtain ⟨_, _, _, _, _, _, _, _, _, rfl, _, _⟩ := a_law.U.ex; exact .of_eq rfl, fun base hK hG => ?_⟩
  have fn_of {CX : CXT} := @fn_of base CX h
  have fm_of {CX : CXT} := @fm_of base CX
  have F_draw := fn_of X G a_draw b_draw (ok_draw a_draw.U T)
  have F_rule := fn_of X G a_rule b_rule (ok_rule a_rule.U T F_draw)
  have F_cell := fn_of X G a_cell b_cell (ok_cell a_cell.U T)
  have F_check_stays := fn_of X G a_check_stays b_check_stays (ok_check a_check_stays.U T)
  have I_Rule : FnI l.prog w K mg base (CX1 l.prog w) "Rule" CRule 2 ["self", "stays", "gap", "opens", "shuts", "least", "most", "names"] (spInit K CRule) := ⟨PySem.W.mg_of X G C_Rule.a, _, _, ⟨C_Rule.m, a_Rule___init__.a, a_Rule___init__.i, C_Rule.k⟩, b_Rule___init__, ok_init a_Rule___init__.U T F_check_stays⟩
  have F_made := fn_of X G a_made b_made (ok_made a_made.U T I_Rule)
  have F_same := fn_of X G a_same b_same (ok_same a_same.U T (PySem.W.mg_of X G a_same.a) a_same.U.kp b_same 1)
  have F_many := fn_of X G a_many b_many (ok_many a_many.U T)
  have F_grade := fn_of X G a_grade b_grade (ok_grade a_grade.U T)
  have M_Rule_stays := fm_of a_Rule_stays b_Rule_stays (ok_stays a_Rule_stays.U T)
  have M_Rule_begin := fm_of a_Rule_begin b_Rule_begin (ok_begin0 a_Rule_begin.U T)
  have F_fathering_feasts := fn_of X G a_fathering_feasts b_fathering_feasts (ok_ff a_fathering_feasts.U T M_Rule_begin M_Rule_stays)
  have F_check_beat := fn_of X G a_check_beat b_check_beat (ok_check_beat a_check_beat.U T)
  have F_check_terms := fn_of X G a_check_terms b_check_terms (ok_check_terms a_check_terms.U T F_check_beat)
  have F_next_band := fn_of X G a_next_band b_next_band (ok_next a_next_band.U T F_fathering_feasts)
  have F_sons_band := fn_of X G a_sons_band b_sons_band (ok_sons_band a_sons_band.U T F_check_terms F_next_band)
  have F_steady := fn_of X G a_steady b_steady (ok_steady a_steady.U T F_draw)
  have F_sons := fn_of X G a_sons b_sons (ok_sons a_sons.U T F_grade)
  exact ok_law a_law.U T F_cell F_rule F_made F_many F_draw F_steady F_sons F_sons_band F_same

theorem walk {l : PySem.W.OpenLaw} {q : Program} {loose : List Str} {XP : (Str → Option Value) → Heap → Prop} {YP : World → Heap → Prop} {d : DefRec} {K : Params → PySem.W.Frag} (hn : l.most = some 63) (hdf : d.params.defaults = [])
    (hY : ∀ (w : World) (h : Heap), YP w h → (K w.params).In h)
    (F : ∀ (w : World) (mg : Str → Option Value) (fa : Addr) (h : Heap), (K w.params).In h → h.Ns mainGlobals mg → mg d.name = some (.ref fa) →
      ∃ fd : FuncData, (∀ (s : Shared) (u : Value), BindsTo s fd ⟨[u], []⟩ [("_law_script", u)]) ∧ ∀ base : Heap, (K w.params).In base → base.Ns mainGlobals mg → FnOk l.prog w (K w.params) mg base (CX1 l.prog w) 8 fa fd ["_law_script"] (spLaw (K w.params))) :
    PySem.W.WalkO q loose XP YP l.row.toRowW d [] (fun f vs => PySem.call f vs) :=
  L2.walk_of (n := 63) (k := 8) (x := "_law_script") (CX := fun w => (CX1 l.prog w)) (sp := fun w => spLaw (K w.params)) hn (by decide) hdf ⟨rfl, by decide, by decide⟩ hY F (fun _ _ a ns hl _ hS => ⟨a, ns, rfl, hS, hl, fun _ => rfl⟩) fun _ _ _ _ _ ⟨_, _, _, _, _, _, _, _, _, q⟩ => q
end Law
/- names taken, so that a twin that nothing uses is not written -/
namespace PySem.W.Fast
def tw16335412348682276765 := 0
def tw11817404465144523539 := 0
def tw10203282368653425296 := 0
def tw11472685492668252600 := 0
def tw2049443253300271631 := 0
def tw13340496053570578639 := 0
def tw1876936810540678225 := 0
def tw4779645500959453662 := 0
def tw2103185499233841203 := 0
def tw12145804786695164395 := 0
def tw6111876011106797262 := 0
def tw17426546142690214781 := 0
def tw8396416071698174358 := 0
def tw12477962302896008657 := 0
def tw14666325782589265467 := 0
def tw8044244918436096360 := 0
def tw15939744625831962706 := 0
def tw2296212671399546880 := 0
def tw11430521951468238266 := 0
def tw11329396624815857970 := 0
def tw18141004132572809628 := 0
def tw7900470037119912499 := 0
def tw18391624886900831177 := 0
def tw1885718513841215534 := 0
def tw4144993249868695560 := 0
def tw10032170275786624104 := 0
def tw2499748611394748678 := 0
def tw5884941710764252448 := 0
def tw16277808687283997481 := 0
def tw6438026472105974607 := 0
def tw15903173518524407773 := 0
def tw9540838817745237823 := 0
def tw558454390983042308 := 0
def tw5648627987757103885 := 0
def tw13905667602510405222 := 0
def tw9023736010234806031 := 0
def tw2418259420614961319 := 0
def tw990589439396200476 := 0
def tw12528251499006447886 := 0
def tw9686521720569603238 := 0
def tw16938934905251923192 := 0
def tw4008602448902742248 := 0
def tw9147326194808348392 := 0
def tw904774254245721936 := 0
def tw16778160884729246196 := 0
def tw10030686569546038987 := 0
def tw13625705935926660113 := 0
def tw17919132024232864194 := 0
def tw35107572170302300 := 0
def tw12953683072608062237 := 0
def tw11805822149328482996 := 0
def tw14259368541379198011 := 0
def tw8943425204307145665 := 0
def tw1709320921684933134 := 0
def tw17025571568872851895 := 0
def tw15735966914093844177 := 0
def tw9467817342789842429 := 0
def tw6625718872221110312 := 0
def tw6567075552272497686 := 0
def tw6920422489171068700 := 0
def tw17062488980869024061 := 0
def tw55897011747751831 := 0
def tw16104602813363043903 := 0
def tw6958062337456670042 := 0
def tw2740201798491408034 := 0
def tw940127264720907100 := 0
def tw3661584729756685583 := 0
def tw15594604159430009285 := 0
def tw7444094198232182735 := 0
def tw11043044084571437700 := 0
def tw5126163757211995654 := 0
def tw11669605641770267676 := 0
def tw14965113094149166047 := 0
def tw15269545219637137041 := 0
def tw2784739211518682713 := 0
def tw10862158156346630929 := 0
def tw6192762248803217675 := 0
def tw5361418304501037041 := 0
def tw3155459471636372799 := 0
def tw15402147831663414656 := 0
def tw17181321228058241058 := 0
def tw8024830706520272814 := 0
def tw5453094882402162568 := 0
def tw4982243045698556126 := 0
def tw6807629864457653936 := 0
def tw5691520030955131343 := 0
def tw6163043690807093728 := 0
def tw9197844474347118016 := 0
def tw9341925465656816214 := 0
def tw4573752808537130885 := 0
def tw13991533804616598207 := 0
def tw16778779996569734408 := 0
def tw8951337007809045760 := 0
def tw14575406998676425253 := 0
def tw6028920835319054937 := 0
def tw13472766172620400854 := 0
def tw1711183480893262678 := 0
def tw15983902530503370953 := 0
def tw12571434024913350025 := 0
def tw8511601063888894601 := 0
def tw10095241288293593421 := 0
def tw5195334331754317864 := 0
def tw17455928672319913424 := 0
def tw5265441290371101073 := 0
def tw11456807079017057008 := 0
def tw3923337595588300265 := 0
def tw12671687638317626920 := 0
def tw11966871665173480440 := 0
def tw12161248089305552010 := 0
def tw15102585212302507457 := 0
def tw14248800463062759788 := 0
def tw5778413361912746407 := 0
def tw11532331547778097405 := 0
def tw16260732488294721111 := 0
def tw5043936878795751858 := 0
def tw11666236339999914871 := 0
def tw8713891852943104169 := 0
def tw9208357054470439100 := 0
def tw8723861001752509192 := 0
def tw967398891795690355 := 0
def tw3083730172186450155 := 0
def tw15437012944704051939 := 0
def tw12379452186777287153 := 0
def tw10279741370155471786 := 0
def tw18278604881944572414 := 0
def tw16837346050140421593 := 0
def tw15993758724092654989 := 0
def tw10244984199983321709 := 0
def tw4982937650562435258 := 0
def tw15971736418609813990 := 0
def tw18049716240185787161 := 0
def tw3782033700857126195 := 0
def tw13875241852607099002 := 0
def tw3791433290889802938 := 0
def tw5472129965385102193 := 0
def tw18303366282841999409 := 0
def tw4648038461220871253 := 0
def tw14236390852066573738 := 0
def tw10127370702936919237 := 0
def tw17583828527289173539 := 0
def tw2941649209515962798 := 0
def tw10296416270330816233 := 0
def tw10127699385559367861 := 0
def tw14071425868662223442 := 0
def tw5000923083816810757 := 0
def tw16263688599851790146 := 0
def tw1738474501358333391 := 0
def tw2746875709177941728 := 0
def tw5484612188354676769 := 0
def tw57078535583406643 := 0
def tw12273369503319417209 := 0
def tw87353440878470573 := 0
def tw15212639753083448586 := 0
def tw5255984979408787227 := 0
def tw5736086694395870659 := 0
def tw4723020563787399830 := 0
def tw12625585899322954139 := 0
def tw914476202005555246 := 0
def tw18149320136708269320 := 0
def tw16704650538197937808 := 0
def tw6117311299700829225 := 0
def tw2041924496628630821 := 0
def tw9175479628806779373 := 0
def tw7643971220673322259 := 0
def tw11829041471857384953 := 0
def tw16141544689164065205 := 0
def tw8029364620461814173 := 0
def tw2570338561660052583 := 0
def tw17760457201173014262 := 0
def tw4565832221858971119 := 0
def tw7283196644118131070 := 0
def tw13623794074406014790 := 0
def tw15401675823385458688 := 0
def tw12629402505008900209 := 0
def tw5159444771062247256 := 0
def tw16934616754180682608 := 0
def tw14698327287348223006 := 0
def tw11693230958591269664 := 0
def tw7405812734649992181 := 0
def tw9161719549791549342 := 0
def tw17347290589027833318 := 0
def tw15335243658041764563 := 0
def tw10345641526763505163 := 0
def tw8251916796181807493 := 0
def tw3266097770123118523 := 0
def tw17505980206501262933 := 0
def tw1272055119242021753 := 0
def tw10872056699768987611 := 0
def tw5153750596743427920 := 0
def tw15558170733634209092 := 0
def tw8035692106162608002 := 0
def tw2129501663160666619 := 0
def tw5771239864834539828 := 0
def tw3281740068735414166 := 0
def tw4944095317098083524 := 0
def tw9640350693276092776 := 0
def tw17660552897877589357 := 0
def tw17484811872986013112 := 0
def tw13295350694975837019 := 0
def tw11948481247757028012 := 0
end PySem.W.Fast
open PySem PySem.W PyProof.Rows
set_option maxRecDepth 100000 in
set_option maxHeartbeats 0 in
theorem PySem.Challenge.cw_agegrade_k45_bands_of_sons_holds : PySem.Challenge.rw_agegrade_k45_bands_of_sons.Holds := by
  w_on; o_law; k_head; (case hw => w_witness2)
  k_fill
  refine Law.walk (l := PySem.Challenge.rw_agegrade_k45_bands_of_sons) rfl rfl (fun w h Y => PySem.W.kIn_of Y) ?F
  case F =>
    intro w mg fa h KX G hmg
    refine' Law.all_mk KX G hmg ?x0 ?x1 ?x2 ?x3 ?x4 ?x5 ?x6 ?x7 ?x8 ?x9 ?x10 ?x11 ?x12 ?x13 ?x14 ?x15 ?x16 ?x17 ?x18 ?x19 ?x20 ?x21 ?x22 ?x23 ?x24 ?x25 ?x26 ?x27 ?x28 ?x29 ?x30 ?x31 ?x32 ?x33 ?x34 ?x35 ?x36 ?x37 ?x38 ?x39 ?x40 ?x41 ?x42 ?x43 ?x44 ?x45 ?x46 ?x47
    case x0 => refine' ⟨?a, ⟨?b, ?c, ?d, ?e⟩, ?f, ?g⟩; case a | b | c | d | e | f | g => k_is
    case x1 | x2 | x3 | x4 | x5 | x6 | x7 | x8 | x9 | x10 | x11 | x12 | x13 | x14 | x15 | x16 => refine' ⟨?a, L2.fun_mk ?b ?c ?d⟩; case a | b | c | d => k_is
    case x17 | x18 | x19 => refine' ⟨?e, ?a, L2.fun_mk ?b ?c ?d⟩; case e | a | b | c | d => k_is
    case x20 | x21 | x22 | x23 | x24 | x25 | x26 => show PySem.W.findIn _ _ _ = _; k_is
    case x27 | x28 | x29 => refine' ⟨?a, ?b⟩; (case a => k_is); case b => k_exc
    case x30 | x31 | x32 | x33 | x34 | x35 | x36 | x37 | x38 | x39 | x40 | x41 | x42 | x43 | x44 | x45 | x46 | x47 => k_is

