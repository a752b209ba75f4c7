import PyProof.Rows.All
import Wide.All
import OpenK.AllK
import Wide.FinOn
import Lean
import PyProof.EqAt
import PyProof.EqKinds
import PyProof.TupleCall
import PyProof.StrLawsTight
import PyProof.StrLawsChain
import KE.KSortTup
import PyProof.EnumIter
import PyProof.EnumMake
import PyProof.EnumFor
import PySem.Challenge.RW_turnstack_k08_first_sight
set_option Elab.async false
set_option linter.all false
set_option maxRecDepth 100000
namespace L2
open PySem PySem.Spec PyProof.Rows
abbrev Key := Sum Int Str
def keyIs : Key → Value → Bool
  | .inl k, v => Value.isInt k v
  | .inr x, v => Value.isStrOf x v
def keyH (w : World) : Key → Int
  | .inl k => hashInt k
  | .inr x => hashStr w x
theorem keyIs_shape : ∀ {k : Key} {v : Value}, keyIs k v = true → (∃ i t, k = Sum.inl i ∧ v = Value.int i t) ∨ (∃ x t, k = Sum.inr x ∧ v = Value.str x t)
  | .inl i, v, h => by
    obtain ⟨t, e⟩ := Value.isInt_shape (k := i) (v := v) h
    exact .inl ⟨i, t, rfl, e⟩
  | .inr x, v, h => by
    obtain ⟨t, e⟩ := Value.isStrOf_shape (x := x) (v := v) h
    exact .inr ⟨x, t, rfl, e⟩
theorem key_ll (a b : Int) : decide ((Sum.inl a : Key) = Sum.inl b) = (a == b) := by
  by_cases e : a = b
  · subst e; simp
  · have h : ¬ (Sum.inl a : Key) = Sum.inl b := fun q => e (Sum.inl.inj q)
    rw [decide_eq_false h]
    exact (beq_eq_false_iff_ne.mpr e).symm
theorem key_rr (a b : Str) : decide ((Sum.inr a : Key) = Sum.inr b) = decide (a = b) := by
  by_cases e : a = b
  · subst e; simp
  · have h : ¬ (Sum.inr a : Key) = Sum.inr b := fun q => e (Sum.inr.inj q)
    rw [decide_eq_false h, decide_eq_false e]
theorem key_lr (a : Int) (b : Str) : decide ((Sum.inl a : Key) = Sum.inr b) = false := decide_eq_false (fun q => nomatch q)
theorem key_rl (a : Str) (b : Int) : decide ((Sum.inr a : Key) = Sum.inl b) = false := decide_eq_false (fun q => nomatch q)
def mixKind (prog : Program) (w : World) : PySem.KeyKind prog w Key where
  is := keyIs
  hash := keyH w
  inj := fun v a b ha hb => by
    rcases keyIs_shape ha with ⟨i, t, rfl, rfl⟩ | ⟨x, t, rfl, rfl⟩
    · rcases keyIs_shape hb with ⟨j, u, rfl, e⟩ | ⟨y, u, rfl, e⟩
      · injection e with e1 _; rw [e1]
      · exact nomatch e
    · rcases keyIs_shape hb with ⟨j, u, rfl, e⟩ | ⟨y, u, rfl, e⟩
      · exact nomatch e
      · injection e with e1 _; rw [e1]
  byValue := fun k v h => by
    rcases keyIs_shape h with ⟨i, t, rfl, rfl⟩ | ⟨x, t, rfl, rfl⟩ <;> rfl
  pyHash := fun hv h => by
    rcases keyIs_shape hv with ⟨i, t, rfl, rfl⟩ | ⟨x, t, rfl, rfl⟩
    · exact wpAny_pyHash_int h
    · exact wpAny_pyHash_str h
  eqBool := fun hu hv h => by
    rcases keyIs_shape hu with ⟨i, t, rfl, rfl⟩ | ⟨x, t, rfl, rfl⟩
    · rcases keyIs_shape hv with ⟨j, u, rfl, rfl⟩ | ⟨y, u, rfl, rfl⟩
      · rw [key_ll] at h; exact wpAny_eqBool_int h
      · rw [key_lr] at h; exact SeqAt.EqAt.int_str i t y u _ _ _ _ h
    · rcases keyIs_shape hv with ⟨j, u, rfl, rfl⟩ | ⟨y, u, rfl, rfl⟩
      · rw [key_rl] at h; exact SeqAt.EqAt.str_int x t j u _ _ _ _ h
      · rw [key_rr] at h; exact wpAny_eqBool_str h
  «strs» := fun k x t v h => by
    rcases keyIs_shape h with ⟨i, u, rfl, e⟩ | ⟨y, u, rfl, e⟩
    · exact nomatch e
    · injection e with e1 _
      subst e1
      cases v <;> rfl
end L2
namespace L2
open PySem PySem.Spec PyProof.Rows
inductive V where
  | non | bl (b : Bool) | int (i : Int) | str (x : Str) | byt (b : Array UInt8) | flt (b : UInt64) | ref (a : Addr) | ty (n : String)
  deriving DecidableEq
def RelV : V → Value → Prop
  | .non, u => u = Value.none
  | .bl b, u => u = Value.bool b
  | .int i, u => ∃ t, u = Value.int i t
  | .str x, u => ∃ t, u = Value.str x t
  | .byt b, u => ∃ t, u = Value.bytes b t
  | .flt b, u => ∃ t, u = Value.float b t
  | .ref a, u => u = Value.ref a
  | .ty n, u => u = Value.type n
abbrev Vals : List V → List Value → Prop := Paired RelV
theorem Vals.length {xs : List V} {us : List Value} (r : Vals xs us) : xs.length = us.length := Paired.length r
theorem Vals.get : ∀ {xs : List V} {us : List Value} {i : Nat} {x : V}, Vals xs us → xs[i]? = some x → ∃ u, us[i]? = some u ∧ RelV x u
  | _, _, _, _, .nil, e => by simp at e
  | _, _, 0, _, .cons r _, e => by simp at e; subst e; exact ⟨_, rfl, r⟩
  | _, _, i + 1, x, .cons _ t, e => by
    obtain ⟨u, h1, h2⟩ := Vals.get (i := i) (x := x) t (by simpa using e)
    exact ⟨u, by simpa using h1, h2⟩
theorem Vals.set {x : V} {u : Value} (r : RelV x u) : ∀ {xs : List V} {us : List Value} (i : Nat), Vals xs us → Vals (xs.set i x) (us.set i u)
  | _, _, _, .nil => .nil
  | _, _, 0, .cons _ t => .cons r t
  | _, _, i + 1, .cons q t => .cons q (Vals.set r i t)
theorem Vals.append : ∀ {xs ys : List V} {us ws : List Value}, Vals xs us → Vals ys ws → Vals (xs ++ ys) (us ++ ws)
  | _, _, _, _, .nil, s => s
  | _, _, _, _, .cons r t, s => .cons r (Vals.append t s)
theorem Vals.take : ∀ {xs : List V} {us : List Value} (n : Nat), Vals xs us → Vals (xs.take n) (us.take n)
  | _, _, 0, _ => .nil
  | _, _, _ + 1, .nil => .nil
  | _, _, n + 1, .cons r t => .cons r (Vals.take n t)
theorem Vals.drop : ∀ {xs : List V} {us : List Value} (n : Nat), Vals xs us → Vals (xs.drop n) (us.drop n)
  | _, _, 0, r => r
  | _, _, _ + 1, .nil => .nil
  | _, _, n + 1, .cons _ t => Vals.drop n t
theorem Vals.none_of : ∀ {xs : List V} {us : List Value} {i : Nat}, Vals xs us → xs[i]? = none → us[i]? = none := fun {xs us i} r e => by
  have h1 := r.length
  have h2 : xs.length ≤ i := List.getElem?_eq_none_iff.mp e
  exact List.getElem?_eq_none_iff.mpr (by omega)
def RelO : Option V → Option Value → Prop
  | some v, some u => RelV v u
  | none, none => True
  | _, _ => False
def KV {κ : Type} : List (κ × V) → List (κ × Value) → Prop := Paired fun (p : κ × V) (q : κ × Value) => p.1 = q.1 ∧ RelV p.2 q.2
def kV : Key → V
  | .inl i => .int i
  | .inr x => .str x
inductive HO where
  | lst (xs : List V)
  | tup (xs : List V)
  | dK (kvs : List (Key × V)) | dT (kvs : List (List Key × V))
  | set (S : Int → Bool) (n : Nat)
  | ins (C dx : Addr) (fs : List (Str × V))
  | own (x : Addr)
  | xd (fs : List (Str × V))
  | met (f x : Addr)
  | rng (lo hi : Int)
  | frz (o : Obj) (u : HO)
  | tbl (ps : Array Value)
  | ext (φ : Heap → Prop)
abbrev Hp := Addr → Option HO
def upd (H : Hp) (a : Addr) (o : HO) : Hp := fun b => if b = a then some o else H b
theorem upd_same {H : Hp} {a : Addr} {o : HO} : upd H a o a = some o := by unfold upd; rw [if_pos rfl]
theorem upd_ne {H : Hp} {a b : Addr} {o : HO} (h : b ≠ a) : upd H a o b = H b := by unfold upd; rw [if_neg h]
theorem upd_upd {H : Hp} {a : Addr} {o u : HO} : upd (upd H a o) a u = upd H a u := by
  funext b; unfold upd; split <;> rfl
theorem ne_of {H : Hp} {a b : Addr} {o u : HO} (h : H a = some o) (h' : H b = some u) (d : o ≠ u) : a ≠ b := by
  intro e; subst e; rw [h] at h'; exact d (Option.some.inj h')
theorem ne_of_none {H : Hp} {a b : Addr} {o : HO} (h : H a = some o) (h' : H b = none) : a ≠ b := by
  intro e; subst e; rw [h] at h'; cases h'
section
variable (P : Program) (w : World)
def ObjOk (H : Hp) (h : Heap) (a : Addr) : HO → Prop
  | .lst xs => xs.length ≤ sizeLine ∧ ∃ (its : List Value) (n : Nat), Vals xs its ∧ h.get? a = some { cls := .type "list", data := .seq its.toArray n }
  | .tup xs => xs.length ≤ sizeLine ∧ ∃ its : List Value, Vals xs its ∧ IsTup h a its.toArray
  | .dK kvs => kvs.length ≤ sizeLine ∧ (a == sysModules) = false ∧ ∃ vs, KV kvs vs ∧ h.DictOf (mixKind P w) a vs
  | .dT kvs => kvs.length ≤ sizeLine ∧ (a == sysModules) = false ∧ ∃ xs : List (List Key × Addr × Value),
      Paired (fun (p : List Key × V) (q : List Key × Addr × Value) => p.1 = q.1 ∧ H q.2.1 = some (.tup (p.1.map kV)) ∧ RelV p.2 q.2.2) kvs xs ∧
      ∃ o es ep, h.get? a = some o ∧ o.ExactDict ∧ o.data = .dict es ep ∧ es.toList = xs.map (entryOfKey (tupleKind (mixKind P w))) ∧ (xs.map (·.1)).Nodup
  | .set S n => h.SetOf (intKind P w) a S n
  | .ins C dx fs => H dx = some (.own a) ∧ fs.length ≤ 1000 ∧ dx ≠ a ∧ h.get? a = some (PySem.W.instObj C dx) ∧
      ∃ mA, h.Ns1 dx mA ∧ (∀ f, RelO (fs.lookup f) (mA f)) ∧ PySem.Within mA (fs.map (·.1))
  | .own _ => ∃ o, h.get? a = some o
  | .xd fs => ∃ mA, h.Ns1 a mA ∧ ∀ f, RelO (fs.lookup f) (mA f)
  | .rng lo hi => ∃ t u v, h.get? a = some { cls := .type "range", data := .fields #[.int lo t, .int hi u, .int 1 v] }
  | .frz o u => h.get? a = some o ∧ ObjOk H h a u
  | .tbl ps => h.get? a = some { cls := .none, data := .fields ps }
  | .met f x => h.get? a = some (PySem.W.methodObj (.ref f) (.ref x))
  | .ext φ => φ h ∧ (∃ o, h.get? a = some o) ∧ ∀ h1 h2 : Heap, φ h1 → (∀ o, h1.get? a = some o → h2.get? a = some o) → φ h2
def HOk (H : Hp) (h : Heap) : Prop := ∀ a o, H a = some o → ObjOk P w H h a o
end
section
variable {P : Program} {w : World} {H H' : Hp} {h h' : Heap} {a : Addr} {o : HO}
theorem ObjOk.lt (x : ObjOk P w H h a o) : a < h.objs.size := by
  cases o with
  | lst xs => obtain ⟨_, _, _, _, e⟩ := x; exact Heap.lt_size e
  | tup xs => obtain ⟨_, _, _, p⟩ := x; exact p.lt
  | dK kvs => obtain ⟨_, _, _, _, o, _, _, e, _⟩ := x; exact Heap.lt_size e
  | dT kvs => obtain ⟨_, _, _, _, o, _, _, e, _⟩ := x; exact Heap.lt_size e
  | set S n => obtain ⟨o, _, _, _, e, _⟩ := x; exact Heap.lt_size e
  | ins C dx fs => obtain ⟨_, _, _, e, _⟩ := x; exact Heap.lt_size e
  | own y => obtain ⟨_, e⟩ := x; exact Heap.lt_size e
  | xd fs => obtain ⟨_, ⟨_, _, _, e, _⟩, _⟩ := x; exact Heap.lt_size e
  | rng lo hi => obtain ⟨_, _, _, e⟩ := x; exact Heap.lt_size e
  | frz ob u => obtain ⟨e, _⟩ := x; exact Heap.lt_size e
  | tbl ps => exact Heap.lt_size (show h.get? a = some _ from x)
  | met f y => exact Heap.lt_size (show h.get? a = some _ from x)
  | ext φ => obtain ⟨_, ⟨_, e⟩, _⟩ := x; exact Heap.lt_size e
theorem Paired.mapP {α β : Type} {F G : α → β → Prop} : ∀ {l₁ : List α} {l₂ : List β}, Paired F l₁ l₂ → (∀ a b, F a b → G a b) → Paired G l₁ l₂
  | _, _, .nil, _ => .nil
  | _, _, .cons r t, f => .cons (f _ _ r) (Paired.mapP t f)
theorem ObjOk.stay (x : ObjOk P w H h a o) (k : ∀ b u, (b = a ∨ H b = some (.own a)) → h.get? b = some u → h'.get? b = some u)
    (ho : ∀ b, H b = some (.own a) → H' b = some (.own a)) (ht : ∀ b xs, H b = some (.tup xs) → H' b = some (.tup xs)) : ObjOk P w H' h' a o := by
  induction o with
  | lst xs => obtain ⟨z, its, n, r, e⟩ := x; exact ⟨z, its, n, r, k _ _ (.inl rfl) e⟩
  | tup xs => obtain ⟨z, its, r, ob, e, c⟩ := x; exact ⟨z, its, r, ob, k _ _ (.inl rfl) e, c⟩
  | dK kvs => obtain ⟨z, y, vs, r, ob, es, ep, e, c⟩ := x; exact ⟨z, y, vs, r, ob, es, ep, k _ _ (.inl rfl) e, c⟩
  | dT kvs =>
    obtain ⟨z, y, xs, r, ob, es, ep, e, c⟩ := x
    exact ⟨z, y, xs, Paired.mapP r fun p q z => ⟨z.1, ht _ _ z.2.1, z.2.2⟩, ob, es, ep, k _ _ (.inl rfl) e, c⟩
  | set S n => obtain ⟨ob, es, ep, t, e, c⟩ := x; exact ⟨ob, es, ep, t, k _ _ (.inl rfl) e, c⟩
  | ins C dx fs =>
    obtain ⟨d, z, ne, e, mA, ⟨od, es, ep, e2, c⟩, r⟩ := x
    exact ⟨ho _ d, z, ne, k _ _ (.inl rfl) e, mA, ⟨od, es, ep, k _ _ (.inr d) e2, c⟩, r⟩
  | own y => obtain ⟨ob, e⟩ := x; exact ⟨ob, k _ _ (.inl rfl) e⟩
  | xd fs => obtain ⟨mA, ⟨od, es, ep, e, c⟩, r⟩ := x; exact ⟨mA, ⟨od, es, ep, k _ _ (.inl rfl) e, c⟩, r⟩
  | rng lo hi => obtain ⟨t, u, v, e⟩ := x; exact ⟨t, u, v, k _ _ (.inl rfl) e⟩
  | frz ob u ih => obtain ⟨e, q⟩ := x; exact ⟨k _ _ (.inl rfl) e, ih q⟩
  | tbl ps =>
    have e : h.get? a = some { cls := .none, data := .fields ps } := x
    show h'.get? a = some { cls := .none, data := .fields ps }
    exact k a _ (.inl rfl) e
  | met f y =>
    have e : h.get? a = some (PySem.W.methodObj (.ref f) (.ref y)) := x
    show h'.get? a = some (PySem.W.methodObj (.ref f) (.ref y))
    exact k a _ (.inl rfl) e
  | ext φ => obtain ⟨p, ⟨o, e⟩, st⟩ := x; exact ⟨st _ _ p fun o q => k _ _ (.inl rfl) q, ⟨o, k _ _ (.inl rfl) e⟩, st⟩
theorem HOk.lt (x : HOk P w H h) (e : H a = some o) : a < h.objs.size := (x a o e).lt
theorem HOk.fresh (x : HOk P w H h) (e : h.objs.size ≤ a) : H a = none := by
  cases q : H a with
  | none => rfl
  | some u => exact absurd (Nat.lt_of_lt_of_le (x.lt q) e) (Nat.lt_irrefl _)
theorem HOk.kept (x : HOk P w H h) (k : ∀ b u, h.get? b = some u → h'.get? b = some u) : HOk P w H h' := fun a o e =>
  (x a o e).stay (fun b u _ q => k b u q) (fun _ q => q) fun _ _ q => q
theorem HOk.laid (x : HOk P w H h) (k : ∀ b u, h.get? b = some u → h'.get? b = some u) (hp : h.objs.size ≤ a) (new : ObjOk P w (upd H a o) h' a o) : HOk P w (upd H a o) h' := fun b u e => by
  have hn := x.fresh hp
  by_cases hb : b = a
  · subst hb; rw [upd_same] at e; cases e; exact new
  · rw [upd_ne hb] at e
    exact (x b u e).stay (fun c v _ q => k c v q) (fun c q => by rw [upd_ne (ne_of_none q hn)]; exact q) fun c xs q => by rw [upd_ne (ne_of_none q hn)]; exact q
end
def Rd (H : Hp) (a : Addr) (u : HO) : Prop := H a = some u ∨ ∃ o, H a = some (.frz o u)
theorem Rd.of {H : Hp} {a : Addr} {u : HO} (h : H a = some u) : Rd H a u := .inl h
theorem Rd.ok {P : Program} {w : World} {H : Hp} {h : Heap} {a : Addr} {u : HO} (r : Rd H a u) (x : HOk P w H h) : ObjOk P w H h a u := by
  rcases r with r | ⟨o, r⟩
  · exact x a u r
  · obtain ⟨_, q⟩ := x a _ r
    exact q
def Mut : Option HO → Prop
  | some (.lst _) => True
  | some (.dK _) => True
  | some (.dT _) => True
  | some (.set _ _) => True
  | some (.ins _ _ _) => True
  | some (.ext _) => True
  | _ => False
section
variable {P : Program} {w : World} {H : Hp} {h h' : Heap} {x e : Addr} {o' : HO}
theorem HOk.write (ok : HOk P w H h) (mu : Mut (H x)) (he : e = x ∨ H e = some (.own x)) (k : ∀ b u, b ≠ e → h.get? b = some u → h'.get? b = some u) (heo : ∃ u, h'.get? e = some u)
    (new : ObjOk P w (upd H x o') h' x o') : HOk P w (upd H x o') h' := fun b u q => by
  have nown : ∀ c y, H c = some (.own y) → c ≠ x := fun c y r z => by subst z; rw [r] at mu; exact mu
  have ntup : ∀ c xs, H c = some (.tup xs) → c ≠ x := fun c xs r z => by subst z; rw [r] at mu; exact mu
  by_cases hb : b = x
  · subst hb; rw [upd_same] at q; cases q; exact new
  · rw [upd_ne hb] at q
    by_cases hbe : b = e
    · have q' : H b = some (.own x) := by
        rcases he with z | z
        · exact absurd (hbe.trans z) hb
        · rw [hbe]; exact z
      rw [q] at q'; cases q'
      obtain ⟨v, hv⟩ := heo
      exact ⟨v, by rw [hbe]; exact hv⟩
    · refine (ok b u q).stay (fun c v hc r => k c v ?_ r) (fun c r => by rw [upd_ne (nown c b r)]; exact r) fun c xs r => by rw [upd_ne (ntup c xs r)]; exact r
      rcases hc with rfl | hc
      · exact hbe
      · rintro rfl
        rcases he with z | z
        · exact nown c b hc z
        · rw [hc] at z; cases z; exact hb rfl
end
structure Un (fs ex : List Addr) (H H' : Hp) (h h' : Heap) : Prop where
  keep : ∀ b o, h.get? b = some o → H b = none → b ∉ fs → b ∉ ex → h'.get? b = some o
  slot : ∀ b o, h.get? b = some o → H b = none → b ∈ fs → b ∉ ex → ∃ sl, h'.get? b = some { o with slots := sl }
  free : ∀ b o, h.get? b = some o → H b = none → b ∉ ex → H' b = none
  there : ∀ b o, h.get? b = some o → b ∉ ex → ∃ o', h'.get? b = some o'
  tups : ∀ b xs, H b = some (.tup xs) → H' b = some (.tup xs)
  frzs : ∀ b o u, H b = some (.frz o u) → H' b = some (.frz o u)
  tbls : ∀ b ps, H b = some (.tbl ps) → ∃ more, H' b = some (.tbl (ps ++ more))
section
variable {fs fs' ex ex' : List Addr} {H H1 H2 : Hp} {h h1 h2 h' : Heap} {a x e : Addr} {o : HO}
theorem Un.any (u : Un fs ex H H1 h h1) {b : Addr} {ob : Obj} (q : h.get? b = some ob) (n : H b = none) (hx : b ∉ ex) : ∃ sl, h1.get? b = some { ob with slots := sl } := by
  by_cases hb : b ∈ fs
  · exact u.slot b ob q n hb hx
  · exact ⟨ob.slots, u.keep b ob q n hb hx⟩
theorem Un.trans (a : Un fs ex H H1 h h1) (b : Un fs ex H1 H2 h1 h2) : Un fs ex H H2 h h2 where
  keep := fun c ob q n hc hx => b.keep c ob (a.keep c ob q n hc hx) (a.free c ob q n hx) hc hx
  slot := fun c ob q n hc hx => by
    obtain ⟨sl, e1⟩ := a.slot c ob q n hc hx
    obtain ⟨sl', e2⟩ := b.slot c _ e1 (a.free c ob q n hx) hc hx
    exact ⟨sl', e2⟩
  free := fun c ob q n hx => by
    obtain ⟨o', e1⟩ := a.there c ob q hx
    exact b.free c o' e1 (a.free c ob q n hx) hx
  there := fun c ob q hx => by
    obtain ⟨o', e1⟩ := a.there c ob q hx
    exact b.there c o' e1 hx
  tups := fun c xs q => b.tups c xs (a.tups c xs q)
  frzs := fun c ob xs q => b.frzs c ob xs (a.frzs c ob xs q)
  tbls := fun c ps q => by
    obtain ⟨m1, e1⟩ := a.tbls c ps q
    obtain ⟨m2, e2⟩ := b.tbls c _ e1
    exact ⟨m1 ++ m2, by rw [e2, Array.append_assoc]⟩
theorem Un.kept (k : ∀ b u, h.get? b = some u → h'.get? b = some u) : Un fs ex H H h h' :=
  ⟨fun b ob q _ _ _ => k b ob q, fun b ob q _ _ _ => ⟨ob.slots, k b ob q⟩, fun _ _ _ n _ => n, fun b ob q _ => ⟨ob, k b ob q⟩, fun _ _ q => q, fun _ _ _ q => q, fun _ ps q => ⟨#[], by rw [q]; simp⟩⟩
theorem Un.refl : Un fs ex H H h h := Un.kept fun _ _ q => q
theorem Un.laid (k : ∀ b u, h.get? b = some u → h'.get? b = some u) (hp : h.objs.size ≤ a) (hn : H a = none) : Un fs ex H (upd H a o) h h' where
  keep := fun b u q _ _ _ => k b u q
  slot := fun b u q _ _ _ => ⟨u.slots, k b u q⟩
  free := fun b u q n _ => by rw [upd_ne (Nat.ne_of_lt (Nat.lt_of_lt_of_le (Heap.lt_size q) hp))]; exact n
  there := fun b u q _ => ⟨u, k b u q⟩
  tups := fun b xs q => by rw [upd_ne (ne_of_none q hn)]; exact q
  frzs := fun b u xs q => by rw [upd_ne (ne_of_none q hn)]; exact q
  tbls := fun b ps q => ⟨#[], by rw [upd_ne (ne_of_none q hn), q]; simp⟩
theorem Un.write (mu : Mut (H x)) (he : e = x ∨ H e = some (.own x)) (k : ∀ b u, b ≠ e → h.get? b = some u → h'.get? b = some u) (heo : ∃ u, h'.get? e = some u) : Un fs ex H (upd H x o) h h' := by
  have hx : ∀ b, H b = none → b ≠ x := fun b n z => by subst z; rw [n] at mu; exact mu
  have hb : ∀ b, H b = none → b ≠ e := fun b n z => by
    subst z
    rcases he with r | r
    · exact hx b n r
    · rw [n] at r; cases r
  have hm : ∀ b u, H b = some u → ¬ Mut (some u) → b ≠ x := fun b u q nm z => by subst z; rw [q] at mu; exact nm mu
  refine ⟨fun b u q n _ _ => k b u (hb b n) q, fun b u q n _ _ => ⟨u.slots, k b u (hb b n) q⟩, fun b u q n _ => by rw [upd_ne (hx b n)]; exact n, fun b u q _ => ?_,
    fun b xs q => by rw [upd_ne (hm b _ q fun z => z)]; exact q, fun b u xs q => by rw [upd_ne (hm b _ q fun z => z)]; exact q, fun b ps q => ⟨#[], by rw [upd_ne (hm b _ q fun z => z), q]; simp⟩⟩
  by_cases hbe : b = e
  · subst hbe; exact heo
  · exact ⟨u, k b u hbe q⟩
theorem Un.mono (u : Un fs ex H H1 h h1) (hs : ∀ b ∈ fs, b ∈ fs') (hx : ∀ b ∈ ex, b ∈ ex') : Un fs' ex' H H1 h h1 :=
  ⟨fun b ob q n hb he => u.keep b ob q n (fun z => hb (hs b z)) fun z => he (hx b z), fun _ _ q n _ he => u.any q n fun z => he (hx _ z), fun b ob q n he => u.free b ob q n fun z => he (hx b z), fun b ob q he => u.there b ob q fun z => he (hx b z), u.tups, u.frzs, u.tbls⟩
end
def trk (h : Heap) (H : Hp) : List Addr := (List.range h.objs.size).filter fun a => (H a).isSome
def hidT (h : Heap) (H : Hp) : Heap := PySem.W.hideAll h (trk h H)
theorem hidT_size (h : Heap) (H : Hp) : (hidT h H).objs.size = h.objs.size := PySem.W.hideAll_size _ _
theorem hidT_get {h : Heap} {H : Hp} {b : Addr} {o : Obj} (e : h.get? b = some o) (n : H b = none) : (hidT h H).get? b = some o :=
  PySem.W.hideAll_get _ e fun hm => by
    have q : (H b).isSome = true := (List.mem_filter.mp hm).2
    rw [n] at q; simp at q
theorem of_hidT {h : Heap} {H : Hp} {b : Addr} {o : Obj} (e : (hidT h H).get? b = some o) : h.get? b = some o ∧ H b = none := by
  have e' : h.get? b = some o := PySem.W.of_hideAll (trk h H) e
  refine ⟨e', ?_⟩
  cases q : H b with
  | none => rfl
  | some x =>
    have hm : b ∈ trk h H := List.mem_filter.mpr ⟨List.mem_range.mpr (Heap.lt_size e'), by simp [q]⟩
    have z : (hidT h H).get? b = none := PySem.W.hideAll_none (trk h H) hm
    rw [z] at e; cases e
def allNews (g h : Heap) (L : Addr) : List (Addr × Obj) := (List.range h.objs.size).filterMap fun a => if a = L ∨ (g.get? a).isSome = true then none else (h.get? a).map fun o => (a, o)
def rest (g h : Heap) (L d : Addr) : List (Addr × Obj) := (allNews g h L).filter fun p => decide (p.1 ≠ d)
end L2
namespace L2
open PySem PySem.Spec PyProof.Rows
structure Mod (K : PySem.W.Frag) (mg : Str → Option Value) (base : Heap) : Prop where
  kin : K.In base
  glob : base.Ns mainGlobals mg
  blt : ∃ mb, base.Ns builtinsNs mb ∧ ∀ x : Str, x ≠ "__name__" → mb x = bootBuiltins x
  nolimit : base.NoLimit
/-- the context: a def's body (or a comprehension's block) running. base: fixed through the whole law; s₀, H₀: the entry; outer: the frames whose slots others may change (a def's callers); stack: all frames that run;
   ex: iterators that were made ahead of the entry and are walked here (a comprehension's); fn: the names whose cells were made at the entry (a def: all; a comprehension's block: its own); calm: not within an except suite; pn: pins that every state bears; xe: what is wanted of an exception that leaves the code -/
structure Cx where
  prog : Program
  w : World
  K : PySem.W.Frag
  mg : Str → Option Value
  base : Heap
  A : Around
  N : List Str
  s₀ : Shared
  H₀ : Hp
  env : Env
  outer : List Env
  stack : List Env
  ex : List Addr
  fn : Str → Bool
  calm : Bool
  pn : List (Addr × Obj)
  xe : Value → Shared → Prop
def frs (l : List Env) : List Addr := l.filterMap (·.frame)
abbrev Cx.fs (X : Cx) : List Addr := frs X.outer
def Vis (sc : Scope) (x : Str) : Prop := sc.names.lookup x = some .local ∨ sc.names.lookup x = some .cell ∨ sc.names.lookup x = some .free
def Loc (sc : Scope) (x : Str) : Prop := sc.names.lookup x = some .local ∨ sc.names.lookup x = some .cell
def Look (env : Env) (h : Heap) (m : Str → Option Value) (x : Str) (u : Value) : Prop :=
  (env.kindOf x = some .local ∧ m x = some u) ∨ ((env.kindOf x = some .cell ∨ env.kindOf x = some .free) ∧ ∃ c, env.cells.lookup x = some c ∧ h.IsCell c (some u))
structure Cx.Ok (X : Cx) : Prop where
  mod : Mod X.K X.mg X.base
  kind : X.env.scope.kind = .function
  glob : X.env.globals = mainGlobals
  blt : X.env.builtins = builtinsNs
  above : X.s₀.heap.objs.size ≤ X.env.locals
  inj : ∀ x y c, X.env.cells.lookup x = some c → X.env.cells.lookup y = some c → x = y
  has : ∀ x, (X.env.kindOf x = some .cell ∨ X.env.kindOf x = some .free) → ∃ c, X.env.cells.lookup x = some c
  cab : ∀ x c, X.fn x = true → X.env.cells.lookup x = some c → X.s₀.heap.objs.size ≤ c
  hd : X.calm = true → X.A.handled = none
  frames : X.A.frames = some X.stack
  stk : X.stack = X.outer ∨ (X.stack = X.env :: X.outer ∧ X.env.frame = some X.env.locals)
  exf : ∀ b ∈ X.ex, b ≠ X.env.locals ∧ ∀ x c, X.env.cells.lookup x = some c → c ≠ b
  bs : ∀ b o, X.base.get? b = some o → X.s₀.heap.get? b = some o ∧ X.H₀ b = none
  bsz : X.base.objs.size ≤ X.s₀.heap.objs.size
  noex : ∀ b o, X.base.get? b = some o → b ∉ X.ex
  exfs : ∀ b ∈ X.ex, b ∉ X.fs
  funs : X.s₀.heap.FunFrames X.base X.outer
  frf : ∀ b ∈ X.fs, X.H₀ b = none
structure Inv (X : Cx) (pins : List (Addr × Obj)) (σ : List (Option V)) (H : Hp) (s : Shared) : Prop where
  ok : X.Ok
  os : s.os = X.s₀.os
  bare : AllBare s.gens
  base : Un X.fs X.ex X.H₀ H X.s₀.heap s.heap
  loc : ∃ m, s.heap.Ns X.env.locals m ∧ ∀ (i : Nat) (x : Str) (v : V), X.N[i]? = some x → σ[i]? = some (some v) → Vis X.env.scope x → ∃ u, RelV v u ∧ Look X.env s.heap m x u
  cell : ∀ x c, X.env.cells.lookup x = some c → ∃ v, s.heap.IsCell c v
  free : H X.env.locals = none
  freeC : ∀ x c, X.env.cells.lookup x = some c → H c = none
  pin : ∀ p ∈ X.pn ++ pins, s.heap.get? p.1 = some p.2 ∧ H p.1 = none ∧ p.1 ≠ X.env.locals ∧ p.1 ∉ X.fs ∧ ∀ v, p.2.data ≠ .cell v
  hok : HOk X.prog X.w H s.heap
  len : σ.length = X.N.length
section
variable {X : Cx} {pins : List (Addr × Obj)} {σ : List (Option V)} {H H' : Hp} {s : Shared} {h' : Heap}
theorem Cx.Ok.nofr (ok : X.Ok) {b : Addr} {o : Obj} (e : X.base.get? b = some o) : b ∉ X.fs := fun hb => by
  have := (ok.funs.mem hb).1
  rw [e] at this; cases this
theorem Inv.bs (I : Inv X pins σ H s) : ∀ b o, X.base.get? b = some o → s.heap.get? b = some o ∧ H b = none := fun b o e =>
  ⟨I.base.keep b o (I.ok.bs b o e).1 (I.ok.bs b o e).2 (I.ok.nofr e) (I.ok.noex b o e), I.base.free b o (I.ok.bs b o e).1 (I.ok.bs b o e).2 (I.ok.noex b o e)⟩
theorem Inv.bk (I : Inv X pins σ H s) : ∀ b o, X.base.get? b = some o → s.heap.get? b = some o := fun b o e => (I.bs b o e).1
theorem Inv.mod (I : Inv X pins σ H s) : Mod X.K X.mg X.base := I.ok.mod
theorem Inv.kIn (I : Inv X pins σ H s) : X.K.In s.heap := I.ok.mod.kin.keeps I.bk
theorem Inv.nolimit (I : Inv X pins σ H s) : s.heap.NoLimit := I.ok.mod.nolimit.keeps I.bk
theorem Inv.fr (I : Inv X pins σ H s) : ∃ m, Fr X.base X.env.locals s.heap m :=
  let ⟨m, hn, _⟩ := I.loc
  ⟨m, hn, I.bk, Nat.le_trans I.ok.bsz I.ok.above⟩
theorem Inv.lt (I : Inv X pins σ H s) : X.env.locals < s.heap.objs.size := let ⟨_, hn, _⟩ := I.loc; hn.lt
theorem Inv.sz (I : Inv X pins σ H s) : X.s₀.heap.objs.size ≤ s.heap.objs.size := Nat.le_trans I.ok.above (Nat.le_of_lt I.lt)
theorem Inv.nofs (I : Inv X pins σ H s) {a : Addr} (h : s.heap.objs.size ≤ a) : a ∉ X.fs := fun hb => by
  obtain ⟨_, o, ho, _⟩ := I.ok.funs.mem hb
  exact absurd (Nat.lt_of_lt_of_le (Heap.lt_size ho) (Nat.le_trans I.sz h)) (Nat.lt_irrefl _)
theorem Inv.cne (I : Inv X pins σ H s) : ∀ x c, X.env.cells.lookup x = some c → c ≠ X.env.locals := fun x c e z => by
  obtain ⟨v, o, ho, hd⟩ := I.cell x c e
  obtain ⟨m, ⟨o', es, ep, ho', hd', _⟩, _⟩ := I.loc
  rw [z, ho'] at ho; cases ho; rw [hd'] at hd; cases hd
theorem Inv.funs (I : Inv X pins σ H s) : s.heap.FunFrames X.base X.outer := by
  have all : ∀ (l : List Env), (∀ b ∈ frs l, b ∈ X.fs) → X.s₀.heap.FunFrames X.base l → s.heap.FunFrames X.base l := by
    intro l
    induction l with
    | nil => intro _ _; trivial
    | cons env r ih =>
      intro hs hl
      obtain ⟨hk, ⟨L, o, hf, hn, ho, hd⟩, hr⟩ := hl
      have hL : L ∈ X.fs := hs L (by unfold frs; rw [List.filterMap_cons, hf]; exact List.mem_cons_self)
      obtain ⟨sl, e⟩ := I.base.slot L o ho (I.ok.frf L hL) hL fun z => I.ok.exfs L z hL
      exact ⟨hk, ⟨L, _, hf, hn, e, hd⟩, ih (fun b hb => hs b (by unfold frs; rw [List.filterMap_cons, hf]; exact List.mem_cons_of_mem _ hb)) hr⟩
  exact all X.outer (fun _ hb => hb) I.ok.funs
theorem Inv.stack (I : Inv X pins σ H s) : s.heap.FunFrames X.base X.stack := by
  rcases I.ok.stk with e | ⟨e, hf⟩
  · rw [e]; exact I.funs
  · rw [e]
    obtain ⟨m, hn, _⟩ := I.loc
    refine .cons (by rw [I.ok.kind]; decide) hf hn ?_ I.funs
    exact Heap.get?_none_of_le (Nat.le_trans I.ok.bsz I.ok.above)
theorem Inv.stkSub (I : Inv X pins σ H s) : ∀ b ∈ frs X.stack, b ∈ X.env.locals :: X.fs := fun b hb => by
  rcases I.ok.stk with e | ⟨e, hf⟩
  · rw [e] at hb; exact List.mem_cons_of_mem _ hb
  · rw [e] at hb
    unfold frs at hb
    rw [List.filterMap_cons, hf] at hb
    exact hb
theorem Inv.stkFree (I : Inv X pins σ H s) : ∀ b ∈ frs X.stack, H b = none := fun b hb => by
  rcases List.mem_cons.mp (I.stkSub b hb) with e | hb
  · rw [e]; exact I.free
  · obtain ⟨_, o, ho, _⟩ := I.ok.funs.mem hb
    exact I.base.free b o ho (I.ok.frf b hb) fun z => I.ok.exfs b z hb
theorem Inv.step {g' : Array GenState} {t' : Nat} {d' : Drawn} {ch : List Addr} (I : Inv X pins σ H s)
    (hch : ∀ b ∈ ch, (b ∈ X.ex ∨ X.s₀.heap.objs.size ≤ b) ∧ b ≠ X.env.locals ∧ (∀ x c, X.env.cells.lookup x = some c → c ≠ b) ∧ ∀ p ∈ X.pn ++ pins, p.1 ≠ b)
    (keep : ∀ b o, b ≠ X.env.locals → b ∉ X.fs → b ∉ ch → s.heap.get? b = some o → H b = none → h'.get? b = some o)
    (slot : ∀ b o, b ≠ X.env.locals → b ∈ X.fs → b ∉ ch → s.heap.get? b = some o → H b = none → ∃ sl, h'.get? b = some { o with slots := sl }) (free : ∀ b o, b ∉ ch → s.heap.get? b = some o → H b = none → H' b = none)
    (there : ∀ b o, b ∉ ch → s.heap.get? b = some o → ∃ o', h'.get? b = some o')
    (tups : ∀ b xs, H b = some (.tup xs) → H' b = some (.tup xs)) (frzs : ∀ b o u, H b = some (.frz o u) → H' b = some (.frz o u)) (tbls : ∀ b ps, H b = some (.tbl ps) → ∃ more, H' b = some (.tbl (ps ++ more)))
    (ns : ∀ m, s.heap.Ns X.env.locals m → h'.Ns X.env.locals m) (hok : HOk X.prog X.w H' h') (hg : AllBare g') :
    Inv X pins σ H' { s with heap := h', gens := g', drawn := d', toks := t' } := by
  have neL : ∀ b o, X.s₀.heap.get? b = some o → b ≠ X.env.locals := fun b o e => Nat.ne_of_lt (Nat.lt_of_lt_of_le (Heap.lt_size e) I.ok.above)
  have neC : ∀ b o, X.s₀.heap.get? b = some o → b ∉ X.ex → b ∉ ch := fun b o e hx hb => by
    rcases (hch b hb).1 with z | z
    · exact hx z
    · exact absurd (Nat.lt_of_lt_of_le (Heap.lt_size e) z) (Nat.lt_irrefl _)
  have cellK : ∀ x c, X.env.cells.lookup x = some c → ∀ v, s.heap.IsCell c v → h'.IsCell c v := fun x c e v ⟨o, ho, hd⟩ => by
    have nch : c ∉ ch := fun z => (hch c z).2.2.1 x c e rfl
    by_cases hc : c ∈ X.fs
    · obtain ⟨sl, q⟩ := slot c o (I.cne x c e) hc nch ho (I.freeC x c e)
      exact ⟨_, q, hd⟩
    · exact ⟨o, keep c o (I.cne x c e) hc nch ho (I.freeC x c e), hd⟩
  refine ⟨I.ok, I.os, hg, ⟨fun b o e n hb hx => ?_, fun b o e n hb hx => ?_, fun b o e n hx => ?_, fun b o e hx => ?_, fun b xs e => tups b xs (I.base.tups b xs e), fun b o xs e => frzs b o xs (I.base.frzs b o xs e), fun b ps e => ?_⟩, ?_, fun x c e => ?_, ?_, fun x c e => ?_, fun p hp => ?_, hok, I.len⟩
  · exact keep b o (neL b o e) hb (neC b o e hx) (I.base.keep b o e n hb hx) (I.base.free b o e n hx)
  · obtain ⟨sl, e1⟩ := I.base.slot b o e n hb hx
    obtain ⟨sl', e2⟩ := slot b _ (neL b o e) hb (neC b o e hx) e1 (I.base.free b o e n hx)
    exact ⟨sl', e2⟩
  · obtain ⟨o', e1⟩ := I.base.there b o e hx
    exact free b o' (neC b o e hx) e1 (I.base.free b o e n hx)
  · obtain ⟨o', e1⟩ := I.base.there b o e hx
    exact there b o' (neC b o e hx) e1
  · obtain ⟨m1, e1⟩ := I.base.tbls b ps e
    obtain ⟨m2, e2⟩ := tbls b _ e1
    exact ⟨m1 ++ m2, by rw [e2, Array.append_assoc]⟩
  · obtain ⟨m, hn, hl⟩ := I.loc
    refine ⟨m, ns m hn, fun i x v e1 e2 e3 => ?_⟩
    obtain ⟨u, r, l⟩ := hl i x v e1 e2 e3
    refine ⟨u, r, ?_⟩
    rcases l with l | ⟨k, c, e, z⟩
    · exact .inl l
    · exact .inr ⟨k, c, e, cellK x c e _ z⟩
  · obtain ⟨v, z⟩ := I.cell x c e
    exact ⟨v, cellK x c e v z⟩
  · obtain ⟨m, ⟨o, _, _, ho, _⟩, _⟩ := I.loc
    exact free _ o (fun z => (hch _ z).2.1 rfl) ho I.free
  · obtain ⟨v, o, ho, hd⟩ := I.cell x c e
    exact free c o (fun z => (hch c z).2.2.1 x c e rfl) ho (I.freeC x c e)
  · obtain ⟨e, n, ne, nf, d⟩ := I.pin p hp
    have nch : p.1 ∉ ch := fun z => (hch p.1 z).2.2.2 p hp rfl
    exact ⟨keep p.1 p.2 ne nf nch e n, free p.1 p.2 nch e n, ne, nf, d⟩
theorem Inv.un {t' : Nat} (I : Inv X pins σ H s) (u : Un X.fs [] H H' s.heap h') (hok : HOk X.prog X.w H' h') : Inv X pins σ H' { s with heap := h', toks := t' } := by
  obtain ⟨m, ⟨o, es, ep, ho, r⟩, _⟩ := id I.loc
  obtain ⟨sl, hL⟩ := u.any ho I.free (by simp)
  exact I.step (g' := s.gens) (d' := s.drawn) (ch := []) (fun _ z => nomatch z) (fun b o _ hb _ e n => u.keep b o e n hb (by simp)) (fun b o _ hb _ e n => u.slot b o e n hb (by simp)) (fun b o _ e n => u.free b o e n (by simp)) (fun b o _ e => u.there b o e (by simp)) u.tups u.frzs u.tbls (fun m' hm => by
    obtain ⟨o', es', ep', ho', r'⟩ := hm
    rw [ho] at ho'; cases ho'
    exact ⟨_, es', ep', hL, r'⟩) hok I.bare
theorem Inv.call {g' : Array GenState} {t' : Nat} {d' : Drawn} {ch : List Addr} (I : Inv X pins σ H s) (u : Un (frs X.stack) ch H H' s.heap h') (hok : HOk X.prog X.w H' h') (hg : AllBare g')
    (hch : ∀ b ∈ ch, (b ∈ X.ex ∨ X.s₀.heap.objs.size ≤ b) ∧ b ≠ X.env.locals ∧ (∀ x c, X.env.cells.lookup x = some c → c ≠ b) ∧ ∀ p ∈ X.pn ++ pins, p.1 ≠ b) :
    Inv X pins σ H' { s with heap := h', gens := g', drawn := d', toks := t' } := by
  obtain ⟨m, ⟨o, es, ep, ho, r⟩, _⟩ := id I.loc
  obtain ⟨sl, hL⟩ := u.any ho I.free fun z => (hch _ z).2.1 rfl
  exact I.step (ch := ch) hch (fun b o hL hb hc e n => u.keep b o e n (fun z => (List.mem_cons.mp (I.stkSub b z)).elim hL hb) hc) (fun b o _ _ hc e n => u.any e n hc) (fun b o hc e n => u.free b o e n hc) (fun b o hc e => u.there b o e hc) u.tups u.frzs u.tbls (fun m' hm => by
    obtain ⟨o', es', ep', ho', r'⟩ := hm
    rw [ho] at ho'; cases ho'
    exact ⟨_, es', ep', hL, r'⟩) hok hg
theorem Inv.turned {t' : Nat} {it : Addr} (I : Inv X pins σ H s) (k : ∀ b o, b ≠ it → s.heap.get? b = some o → h'.get? b = some o) (hn : H it = none) (hL : it ≠ X.env.locals)
    (h1 : it ∈ X.ex ∨ X.s₀.heap.objs.size ≤ it) (h2 : ∀ x c, X.env.cells.lookup x = some c → c ≠ it) (h3 : ∀ p ∈ X.pn ++ pins, p.1 ≠ it) : Inv X pins σ H { s with heap := h', toks := t' } := by
  have nit : ∀ b u, H b = some u → b ≠ it := fun b u e z => by rw [z, hn] at e; cases e
  refine I.step (g' := s.gens) (d' := s.drawn) (ch := [it]) (fun b hb => ?_) (fun b o _ _ hc e _ => k b o (fun z => hc (by simp [z])) e) (fun b o _ _ hc e _ => ⟨o.slots, k b o (fun z => hc (by simp [z])) e⟩) (fun _ _ _ _ n => n)
    (fun b o hc e => ⟨o, k b o (fun z => hc (by simp [z])) e⟩) (fun _ _ e => e) (fun _ _ _ e => e) (fun b ps e => ⟨#[], by rw [e]; simp⟩) (fun m hm => ?_) (fun b u e => ?_) I.bare
  · have e : b = it := by simpa using hb
    subst e
    exact ⟨h1, hL, h2, h3⟩
  · obtain ⟨o, es, ep, ho, r⟩ := hm
    exact ⟨o, es, ep, k _ o (Ne.symm hL) ho, r⟩
  · refine (I.hok b u e).stay (fun c v hc q => k c v ?_ q) (fun _ q => q) fun _ _ q => q
    rcases hc with z | z
    · rw [z]; exact nit b u e
    · exact nit c _ z
theorem Inv.tok (I : Inv X pins σ H s) (t : Nat) : Inv X pins σ H { s with toks := t } := I.un (h' := s.heap) (t' := t) Un.refl I.hok
theorem Inv.kept {t' : Nat} (I : Inv X pins σ H s) (k : ∀ b u, s.heap.get? b = some u → h'.get? b = some u) : Inv X pins σ H { s with heap := h', toks := t' } := I.un (Un.kept k) (I.hok.kept k)
theorem Inv.laid {a : Addr} {o : HO} {t' : Nat} (I : Inv X pins σ H s) (k : ∀ b u, s.heap.get? b = some u → h'.get? b = some u) (hp : s.heap.objs.size ≤ a) (new : ObjOk X.prog X.w (upd H a o) h' a o) :
    Inv X pins σ (upd H a o) { s with heap := h', toks := t' } := I.un (Un.laid k hp (I.hok.fresh hp)) (I.hok.laid k hp new)
theorem Inv.write {x e : Addr} {o : HO} {t' : Nat} (I : Inv X pins σ H s) (mu : Mut (H x)) (he : e = x ∨ H e = some (.own x)) (k : ∀ b u, b ≠ e → s.heap.get? b = some u → h'.get? b = some u) (heo : ∃ u, h'.get? e = some u)
    (new : ObjOk X.prog X.w (upd H x o) h' x o) : Inv X pins σ (upd H x o) { s with heap := h', toks := t' } := I.un (Un.write mu he k heo) (I.hok.write mu he k heo new)
theorem Inv.weak {σ' : List (Option V)} (I : Inv X pins σ H s) (hl : σ'.length = σ.length) (w : ∀ (i : Nat) v, σ'[i]? = some (some v) → σ[i]? = some (some v)) : Inv X pins σ' H s :=
  ⟨I.ok, I.os, I.bare, I.base, let ⟨m, hn, hl'⟩ := I.loc; ⟨m, hn, fun i x v e1 e2 e3 => hl' i x v e1 (w i v e2) e3⟩, I.cell, I.free, I.freeC, I.pin, I.hok, hl.trans I.len⟩
theorem Inv.pins_of {pins' : List (Addr × Obj)} (I : Inv X pins σ H s) (h : ∀ p ∈ pins', s.heap.get? p.1 = some p.2 ∧ H p.1 = none ∧ p.1 ≠ X.env.locals ∧ p.1 ∉ X.fs ∧ ∀ v, p.2.data ≠ .cell v) : Inv X pins' σ H s :=
  ⟨I.ok, I.os, I.bare, I.base, I.loc, I.cell, I.free, I.freeC, fun p hp => (List.mem_append.mp hp).elim (fun z => I.pin p (List.mem_append_left _ z)) (h p), I.hok, I.len⟩
theorem nodup_ix {N : List Str} (hN : N.Nodup) {i j : Nat} {x : Str} (a : N[i]? = some x) (b : N[j]? = some x) : i = j := by
  obtain ⟨h1, e1⟩ := List.getElem?_eq_some_iff.mp a
  obtain ⟨h2, e2⟩ := List.getElem?_eq_some_iff.mp b
  exact (List.getElem_inj hN).mp (e1.trans e2.symm)
theorem store_ok2 {M : Model} {A : Around} {E : Value → Shared → Prop} {i : Nat} {x : Str} {v : V} {u : Value} {Q : Unit → Shared → Prop} (I : Inv X pins σ H s) (hN : X.N.Nodup) (hi : X.N[i]? = some x) (hx : Loc X.env.scope x) (r : RelV v u)
    (h : ∀ s', Inv X pins (σ.set i (some v)) H s' → (∃ a, Heap.SameBut a s.heap s'.heap ∧ (a = X.env.locals ∨ X.env.cells.lookup x = some a)) → Q () s') (hf : X.fn x = true ∨ X.env.scope.names.lookup x = some .local := by first | exact .inl rfl | exact .inr rfl | assumption) : wpAny M A (storeName X.env x u) Q E s := by
  obtain ⟨m, hn, hl⟩ := id I.loc
  have hcls : (X.env.scope.kind == .class || (X.env.scope.kind == .module && X.env.locals != X.env.globals)) = false := by rw [I.ok.kind]; rfl
  have hiσ : i < σ.length := by rw [I.len]; exact (List.getElem?_eq_some_iff.mp hi).1
  have cne := I.cne
  have tracked : ∀ {a : Addr} {h' : Heap}, (∃ o, s.heap.get? a = some o ∧ H a = none) → Heap.SameBut a s.heap h' → HOk X.prog X.w H h' := fun {a h'} ha hs b ob e => by
    obtain ⟨_, _, hfree⟩ := ha
    refine (I.hok b ob e).stay (fun c w' hc q => (hs.2 c ?_).trans q) (fun _ q => q) fun _ _ q => q
    rintro rfl
    rcases hc with rfl | hc
    · rw [hfree] at e; cases e
    · rw [hfree] at hc; cases hc
  rcases hx with hk | hk
  · refine wpAny_storeName_local hk hn (fun h' hn' hs => ?_) hcls
    obtain ⟨oL, _, _, hoL, _⟩ := id hn
    refine h _ ⟨I.ok, I.os, I.bare, ⟨fun b o e n hb hx => ?_, fun b o e n hb hx => ?_, I.base.free, fun b o e hx => ?_, I.base.tups, I.base.frzs, I.base.tbls⟩, ⟨_, hn', fun j y v' e1 e2 e3 => ?_⟩, fun y c e => ?_, I.free, I.freeC, fun p hp => ?_, tracked ⟨oL, hoL, I.free⟩ hs, by simpa using I.len⟩ ⟨_, hs, .inl rfl⟩
    · exact (hs.2 b (Nat.ne_of_lt (Nat.lt_of_lt_of_le (Heap.lt_size e) I.ok.above))).trans (I.base.keep b o e n hb hx)
    · obtain ⟨sl, e1⟩ := I.base.slot b o e n hb hx
      exact ⟨sl, (hs.2 b (Nat.ne_of_lt (Nat.lt_of_lt_of_le (Heap.lt_size e) I.ok.above))).trans e1⟩
    · obtain ⟨o', e1⟩ := I.base.there b o e hx
      exact ⟨o', (hs.2 b (Nat.ne_of_lt (Nat.lt_of_lt_of_le (Heap.lt_size e) I.ok.above))).trans e1⟩
    · by_cases hj : j = i
      · subst hj
        rw [hi] at e1; cases e1
        rw [List.getElem?_set_self hiσ] at e2
        cases e2
        exact ⟨u, r, .inl ⟨hk, by simp⟩⟩
      · rw [List.getElem?_set_ne (Ne.symm hj)] at e2
        obtain ⟨u', r', q⟩ := hl j y v' e1 e2 e3
        refine ⟨u', r', ?_⟩
        rcases q with ⟨k, e⟩ | ⟨k, c, e, z⟩
        · refine .inl ⟨k, ?_⟩
          have : y ≠ x := fun e => hj (nodup_ix hN e1 (e ▸ hi))
          simp [this, e]
        · exact .inr ⟨k, c, e, z.sameBut hs (cne y c e)⟩
    · obtain ⟨w', z⟩ := I.cell y c e
      exact ⟨w', z.sameBut hs (cne y c e)⟩
    · obtain ⟨e, n, ne, nf, d⟩ := I.pin p hp
      exact ⟨(hs.2 p.1 ne).trans e, n, ne, nf, d⟩
  · have hfn : X.fn x = true := by
      rcases hf with z | z
      · exact z
      · rw [z] at hk; cases hk
    obtain ⟨c, hc⟩ := I.ok.has x (.inl hk)
    obtain ⟨w', z⟩ := I.cell x c hc
    refine wpAny_storeName_cell I.ok.kind hk hc z (fun h' hc' hs => ?_)
    obtain ⟨oc, hoc, hocd⟩ := id z
    refine h { s with heap := h' } ⟨I.ok, I.os, I.bare, ⟨fun b o e n hb hx => ?_, fun b o e n hb hx => ?_, I.base.free, fun b o e hx => ?_, I.base.tups, I.base.frzs, I.base.tbls⟩, ⟨m, hn.sameBut hs (Ne.symm (cne x c hc)), fun j y v' e1 e2 e3 => ?_⟩, fun y c' e => ?_, I.free, I.freeC, fun p hp => ?_, tracked ⟨oc, hoc, I.freeC x c hc⟩ hs, by simpa using I.len⟩ ⟨c, hs, .inr hc⟩
    · exact (hs.2 b (Nat.ne_of_lt (Nat.lt_of_lt_of_le (Heap.lt_size e) (I.ok.cab x c hfn hc)))).trans (I.base.keep b o e n hb hx)
    · obtain ⟨sl, e1⟩ := I.base.slot b o e n hb hx
      exact ⟨sl, (hs.2 b (Nat.ne_of_lt (Nat.lt_of_lt_of_le (Heap.lt_size e) (I.ok.cab x c hfn hc)))).trans e1⟩
    · obtain ⟨o', e1⟩ := I.base.there b o e hx
      exact ⟨o', (hs.2 b (Nat.ne_of_lt (Nat.lt_of_lt_of_le (Heap.lt_size e) (I.ok.cab x c hfn hc)))).trans e1⟩
    · by_cases hj : j = i
      · subst hj
        rw [hi] at e1; cases e1
        rw [List.getElem?_set_self hiσ] at e2
        cases e2
        exact ⟨u, r, .inr ⟨.inl hk, c, hc, hc'⟩⟩
      · rw [List.getElem?_set_ne (Ne.symm hj)] at e2
        obtain ⟨u', r', q⟩ := hl j y v' e1 e2 e3
        refine ⟨u', r', ?_⟩
        rcases q with q | ⟨k, c', e, z'⟩
        · exact .inl q
        · refine .inr ⟨k, c', e, z'.sameBut hs ?_⟩
          rintro rfl
          exact hj (nodup_ix hN e1 (I.ok.inj _ _ _ e hc ▸ hi))
    · by_cases hcc : c' = c
      · subst hcc; exact ⟨_, hc'⟩
      · obtain ⟨w2, z2⟩ := I.cell y c' e
        exact ⟨w2, z2.sameBut hs hcc⟩
    · obtain ⟨e, n, ne, nf, d⟩ := I.pin p hp
      refine ⟨(hs.2 p.1 ?_).trans e, n, ne, nf, d⟩
      intro q
      rw [q, hoc] at e
      have q' : oc = p.2 := Option.some.inj e
      exact d w' (by rw [← q']; exact hocd)
theorem store_ok {M : Model} {A : Around} {E : Value → Shared → Prop} {i : Nat} {x : Str} {v : V} {u : Value} {Q : Unit → Shared → Prop} (I : Inv X pins σ H s) (hN : X.N.Nodup) (hi : X.N[i]? = some x) (hx : Loc X.env.scope x) (r : RelV v u)
    (h : ∀ s', Inv X pins (σ.set i (some v)) H s' → Q () s') (hf : X.fn x = true ∨ X.env.scope.names.lookup x = some .local := by first | exact .inl rfl | exact .inr rfl | assumption) : wpAny M A (storeName X.env x u) Q E s :=
  store_ok2 I hN hi hx r (fun s' I' _ => h s' I') hf
end
abbrev XK := Value → Option Addr → Hp → Prop
abbrev St := List (Option V)
abbrev VK := V → Hp → Prop
abbrev TE := St → Hp → VK → Prop
abbrev TT := St → Hp → (Bool → Hp → Prop) → Prop
abbrev TA := St → Hp → (List V → Hp → Prop) → Prop
structure Ends where
  nx : St → Hp → Prop
  rt : VK
  bk : St → Hp → Prop := fun _ _ => False
  ct : St → Hp → Prop := fun _ _ => False
abbrev TS := Ends → St → Hp → Prop
def EP (X : Cx) (pins : List (Addr × Obj)) (σ : St) (Q : VK) (u : Value) (s' : Shared) : Prop := ∃ v H', Inv X pins σ H' s' ∧ RelV v u ∧ Q v H'
def TP (X : Cx) (pins : List (Addr × Obj)) (σ : St) (Q : Bool → Hp → Prop) (b : Bool) (s' : Shared) : Prop := ∃ H', Inv X pins σ H' s' ∧ Q b H'
def AP (X : Cx) (pins : List (Addr × Obj)) (σ : St) (Q : List V → Hp → Prop) (us : List Value) (s' : Shared) : Prop := ∃ vs H', Inv X pins σ H' s' ∧ Vals vs us ∧ Q vs H'
def SP (X : Cx) (pins : List (Addr × Obj)) (D : Ends) (f : Flow) (s' : Shared) : Prop :=
  match f with
  | .next => ∃ σ' H', Inv X pins σ' H' s' ∧ D.nx σ' H'
  | .brk => ∃ σ' H', Inv X pins σ' H' s' ∧ D.bk σ' H'
  | .cont => ∃ σ' H', Inv X pins σ' H' s' ∧ D.ct σ' H'
  | .ret u => ∃ v σ' H', Inv X pins σ' H' s' ∧ RelV v u ∧ D.rt v H'
def PE (X : Cx) (e : Expr) (t : TE) : Prop :=
  ∀ (pins : List (Addr × Obj)) (s : Shared) (σ : St) (H : Hp) (Q : VK), Inv X pins σ H s → t σ H Q → wpAny (model X.prog X.w) X.A (eval e X.env) (EP X pins σ Q) X.xe s
def PT (X : Cx) (e : Expr) (t : TT) : Prop :=
  ∀ (pins : List (Addr × Obj)) (s : Shared) (σ : St) (H : Hp) (Q : Bool → Hp → Prop), Inv X pins σ H s → t σ H Q → wpAny (model X.prog X.w) X.A (isTrue e X.env (eval e X.env)) (TP X pins σ Q) X.xe s
def PW (X : Cx) (e : Expr) (t : TT) : Prop :=
  ∀ (whole : Sem Value) (pins : List (Addr × Obj)) (s : Shared) (σ : St) (H : Hp) (Q : Bool → Hp → Prop), Inv X pins σ H s → t σ H Q → wpAny (model X.prog X.w) X.A (isTrue e X.env whole) (TP X pins σ Q) X.xe s
theorem PW.pt {X : Cx} {e : Expr} {t : TT} (h : PW X e t) : PT X e t := h _
def PA (X : Cx) (es : List Expr) (t : TA) : Prop :=
  ∀ (pos : Pos) (pins : List (Addr × Obj)) (s : Shared) (σ : St) (H : Hp) (Q : List V → Hp → Prop), Inv X pins σ H s → t σ H Q → wpAny (model X.prog X.w) X.A (spliced (backTo pos (starEach es X.env))) (AP X pins σ Q) X.xe s
def PS (X : Cx) (st : Stmt) (t : TS) : Prop :=
  ∀ (pins : List (Addr × Obj)) (s : Shared) (σ : St) (H : Hp) (D : Ends), Inv X pins σ H s → t D σ H → wpAny (model X.prog X.w) X.A (exec st X.env) (SP X pins D) X.xe s
def PSs (X : Cx) (st : List Stmt) (t : TS) : Prop :=
  ∀ (pins : List (Addr × Obj)) (s : Shared) (σ : St) (H : Hp) (D : Ends), Inv X pins σ H s → t D σ H → wpAny (model X.prog X.w) X.A (execs st X.env) (SP X pins D) X.xe s
theorem thn {α : Type} {t : Sem α} {Q Q' : α → Shared → Prop} {M : Model} {A : Around} {E : Value → Shared → Prop} {s : Shared} (h : wpAny M A t Q E s) (hQ : ∀ a s, Q a s → Q' a s) : wpAny M A t Q' E s := wpAny_mono h hQ fun _ _ x => x
end L2
namespace L2
open PySem PySem.Spec PyProof.Rows
section
variable {X : Cx}
def tVar (i : Nat) : TE := fun σ H Q => ∃ v, σ[i]? = some (some v) ∧ Q v H
def tC (v : V) : TE := fun _ H Q => Q v H
theorem pe_var {i : Nat} {x : Str} {pos : Pos} (hN : X.N[i]? = some x) (hv : Vis X.env.scope x) (hd : (x == ("__debug__" : Str)) = false := by decide) (hcd : (x == ("__classdict__" : Str)) = false := by decide) : PE X (.Name x pos) (tVar i) := by
  intro pins s σ H Q I h
  obtain ⟨v, e, h⟩ := h
  obtain ⟨m, hn, hl⟩ := I.loc
  obtain ⟨u, r, l⟩ := hl i x v hN e hv
  have fin : EP X pins σ Q u s := ⟨v, H, I, r, h⟩
  rcases l with ⟨hk, hm⟩ | ⟨hk, c, hc, hcell⟩
  · exact wpAny_Name (wpAny_loadName_local I.ok.kind hk hn hm fin) hd
  · rcases hk with hk | hk
    · exact wpAny_Name (wpAny_loadName_cell I.ok.kind hk hc hcell fin) hd
    · exact wpAny_Name (wpAny_loadName_free I.ok.kind hk hc hcell fin hcd) hd
theorem pe_int {i j pos} : PE X (.Constant (.int i) j pos) (tC (.int i)) := fun _ _ _ H _ I h => wpAny_Constant_int ⟨.int i, H, I.tok _, ⟨_, rfl⟩, h⟩
theorem pe_bl {b j pos} : PE X (.Constant (.bool b) j pos) (tC (.bl b)) := fun _ _ _ H _ I h => Constant_bool ⟨.bl b, H, I, rfl, h⟩
theorem pe_non {j pos} : PE X (.Constant .none j pos) (tC .non) := fun _ _ _ H _ I h => Constant_none ⟨.non, H, I, rfl, h⟩
theorem pe_str {x j pos} : PE X (.Constant (.str x) j pos) (tC (.str x)) := fun _ _ _ H _ I h => Calls.Constant_str ⟨.str x, H, I.tok _, ⟨_, rfl⟩, h⟩
def Gl (X : Cx) (x : Str) : Prop := X.env.kindOf x = some .globalImplicit
theorem ld_glob {E : Value → Shared → Prop} {pins : List (Addr × Obj)} {s : Shared} {σ : St} {H : Hp} {x : Str} {u : Value} {pos : Pos} {Q : Value → Shared → Prop} (I : Inv X pins σ H s) (hg : Gl X x) (hm : X.mg x = some u) (h : Q u s)
    (hd : (x == ("__debug__" : Str)) = false := by decide) : wpAny (model X.prog X.w) X.A (eval (.Name x pos) X.env) Q E s :=
  Calls.Name_function_global I.ok.kind hg (Calls.loadGlobal_global (by rw [I.ok.glob]; exact I.mod.glob.keeps I.bk) hm h) hd
theorem ld_blt {E : Value → Shared → Prop} {pins : List (Addr × Obj)} {s : Shared} {σ : St} {H : Hp} {x : Str} {u : Value} {pos : Pos} {Q : Value → Shared → Prop} (I : Inv X pins σ H s) (hg : Gl X x) (hm : X.mg x = none) (hv : bootBuiltins x = some u) (h : Q u s)
    (hn : x ≠ "__name__" := by decide) (hd : (x == ("__debug__" : Str)) = false := by decide) : wpAny (model X.prog X.w) X.A (eval (.Name x pos) X.env) Q E s := by
  obtain ⟨mb, h1, h2⟩ := I.mod.blt
  exact Calls.Name_function_global I.ok.kind hg (Calls.loadGlobal_builtin (by rw [I.ok.glob]; exact I.mod.glob.keeps I.bk) hm (by rw [I.ok.blt]; exact h1.keeps I.bk) ((h2 x hn).trans hv) h) hd
theorem pe_glob {x : Str} {v : V} {u : Value} {pos : Pos} (hg : Gl X x) (hm : X.mg x = some u) (r : RelV v u) (hd : (x == ("__debug__" : Str)) = false := by decide) : PE X (.Name x pos) (tC v) :=
  fun _ _ _ H _ I h => ld_glob I hg hm ⟨v, H, I, r, h⟩ hd
theorem pe_bltn {x : Str} {v : V} {u : Value} {pos : Pos} (hg : Gl X x) (hm : X.mg x = none) (hv : bootBuiltins x = some u) (r : RelV v u) (hn : x ≠ "__name__" := by decide) (hd : (x == ("__debug__" : Str)) = false := by decide) : PE X (.Name x pos) (tC v) :=
  fun _ _ _ H _ I h => ld_blt I hg hm hv ⟨v, H, I, r, h⟩ hn hd
variable {a b : Expr} {ta tb : TE} {pos : Pos}
def tB (t : TE) : TT := fun σ H Q => t σ H fun x H1 => ∃ c, x = .bl c ∧ Q c H1
theorem pt_val {e : Expr} {t : TE} (h : PE X e t) (he : ∀ whole, isTrue e X.env whole = (do let v ← whole; standAt e.pos; holding [v] (truthy v)) := by intro _; rfl) : PT X e (tB t) := by
  intro pins s σ H Q I hw
  refine isTrue_plain (thn (h pins s σ H _ I hw) fun v s1 ⟨x, H1, I1, r1, q1⟩ => ?_) (he _)
  obtain ⟨d, rfl, q⟩ := q1
  cases r1
  exact wpAny_truthy_bool ⟨H1, I1, q⟩
variable {tA tB' : TT} {rest : List Expr}
def tAnd (t u : TT) : TT := fun σ H Q => t σ H fun c H1 => if c = true then u σ H1 Q else Q false H1
def tOr (t u : TT) : TT := fun σ H Q => t σ H fun c H1 => if c = true then Q true H1 else u σ H1 Q
def tNot (t : TT) : TT := fun σ H Q => t σ H fun c H1 => Q (!c) H1
theorem pw_and1 (ha : PT X a tA) : PW X (.BoolOp .And [a] pos) tA := by
  intro wh pins s σ H Q I h
  refine isTrue_and (thn (ha pins s σ H Q I h) fun c s1 e => ?_)
  cases c with
  | true => exact isTrue_and_nil e
  | false => exact e
theorem pw_or1 (ha : PT X a tA) : PW X (.BoolOp .Or [a] pos) tA := by
  intro wh pins s σ H Q I h
  refine isTrue_or (thn (ha pins s σ H Q I h) fun c s1 e => ?_)
  cases c with
  | false => exact isTrue_or_nil e
  | true => exact e
theorem pw_and (ha : PT X a tA) (hb : PW X (.BoolOp .And (b :: rest) pos) tB') : PW X (.BoolOp .And (a :: b :: rest) pos) (tAnd tA tB') := by
  intro wh pins s σ H Q I h
  refine isTrue_and (thn (ha pins s σ H _ I h) fun c s1 ⟨H1, I1, q1⟩ => ?_)
  cases c with
  | true => exact hb wh pins s1 σ H1 Q I1 q1
  | false => exact ⟨H1, I1, q1⟩
theorem pw_or (ha : PT X a tA) (hb : PW X (.BoolOp .Or (b :: rest) pos) tB') : PW X (.BoolOp .Or (a :: b :: rest) pos) (tOr tA tB') := by
  intro wh pins s σ H Q I h
  refine isTrue_or (thn (ha pins s σ H _ I h) fun c s1 ⟨H1, I1, q1⟩ => ?_)
  cases c with
  | true => exact ⟨H1, I1, q1⟩
  | false => exact hb wh pins s1 σ H1 Q I1 q1
theorem pt_not (ha : PT X a tA) : PT X (.UnaryOp .Not a pos) (tNot tA) := by
  intro pins s σ H Q I h
  exact isTrue_not (ha pins s σ H (fun c H1 => Q (!c) H1) I h)
def tAndV (ta tb : TE) : TE := fun σ H Q => ta σ H fun x H1 => ∃ c, x = .bl c ∧ if c = true then tb σ H1 Q else Q (.bl false) H1
def tOrV (ta tb : TE) : TE := fun σ H Q => ta σ H fun x H1 => ∃ c, x = .bl c ∧ if c = true then Q (.bl true) H1 else tb σ H1 Q
def tNotV (ta : TE) : TE := fun σ H Q => ta σ H fun x H1 => ∃ c, x = .bl c ∧ Q (.bl (!c)) H1
theorem pe_one {op} {t : TE} (h : PE X a t) : PE X (.BoolOp op [a] pos) t := fun pins s σ H Q I hw => BoolOp_one (h pins s σ H Q I hw)
theorem pe_and (ha : PE X a ta) (hb : PE X (.BoolOp .And (b :: rest) pos) tb) : PE X (.BoolOp .And (a :: b :: rest) pos) (tAndV ta tb) := by
  intro pins s σ H Q I h
  refine BoolOp_and (thn (ha pins s σ H _ I h) fun v s1 ⟨x, H1, I1, r1, q1⟩ => ?_)
  obtain ⟨c, rfl, q1⟩ := q1
  cases r1
  refine wpAny_truthy_bool ?_
  cases c with
  | true => exact hb pins s1 σ H1 Q I1 q1
  | false => exact ⟨.bl false, H1, I1, rfl, q1⟩
theorem pe_or (ha : PE X a ta) (hb : PE X (.BoolOp .Or (b :: rest) pos) tb) : PE X (.BoolOp .Or (a :: b :: rest) pos) (tOrV ta tb) := by
  intro pins s σ H Q I h
  refine BoolOp_or (thn (ha pins s σ H _ I h) fun v s1 ⟨x, H1, I1, r1, q1⟩ => ?_)
  obtain ⟨c, rfl, q1⟩ := q1
  cases r1
  refine wpAny_truthy_bool ?_
  cases c with
  | false => exact hb pins s1 σ H1 Q I1 q1
  | true => exact ⟨.bl true, H1, I1, rfl, q1⟩
theorem pe_not (ha : PE X a ta) : PE X (.UnaryOp .Not a pos) (tNotV ta) := by
  intro pins s σ H Q I h
  refine UnaryOp_ (thn (ha pins s σ H _ I h) fun v s1 ⟨x, H1, I1, r1, q1⟩ => ?_)
  obtain ⟨c, rfl, q1⟩ := q1
  cases r1
  exact not_of (wpAny_truthy_bool ⟨.bl (!c), H1, I1, rfl, q1⟩)
end
end L2
namespace L2
open PySem PySem.Spec PyProof.Rows
def SqL (K : PySem.W.Frag) (H : Hp) (a : Addr) (xs : List V) : Prop :=
  Rd H a (.lst xs) ∨
    ∃ (o : Obj) (its : Array Value) (n : Nat), K.lookup a = some o ∧ o.cls = .type "list" ∧ o.dict = none ∧ o.data = .seq its n ∧ its.size ≤ sizeLine ∧ Vals xs its.toList
def SqT (K : PySem.W.Frag) (H : Hp) (a : Addr) (xs : List V) : Prop :=
  Rd H a (.tup xs) ∨
    ∃ (o : Obj) (its : Array Value) (n : Nat), K.lookup a = some o ∧ o.cls = .type "tuple" ∧ o.data = .seq its n ∧ its.size ≤ sizeLine ∧ Vals xs its.toList
def absV : Value → Option V
  | .none => some .non
  | .bool b => some (.bl b)
  | .int i _ => some (.int i)
  | .str x _ => some (.str x)
  | .bytes b _ => some (.byt b)
  | .float b _ => some (.flt b)
  | .ref a => some (.ref a)
  | .type n => some (.ty n)
  | _ => none
theorem RelV.abs {x : V} {u : Value} (r : RelV x u) : absV u = some x := by
  cases x with
  | non => cases r; rfl
  | bl _ => cases r; rfl
  | int _ => obtain ⟨t, rfl⟩ := r; rfl
  | str _ => obtain ⟨t, rfl⟩ := r; rfl
  | byt _ => obtain ⟨t, rfl⟩ := r; rfl
  | flt _ => obtain ⟨t, rfl⟩ := r; rfl
  | ref _ => cases r; rfl
  | ty _ => cases r; rfl
theorem RelV.inj {x y : V} {u : Value} (r : RelV x u) (q : RelV y u) : x = y := Option.some.inj (r.abs.symm.trans q.abs)
theorem Vals.inj : ∀ {xs ys : List V} {us : List Value}, Vals xs us → Vals ys us → xs = ys
  | _, _, _, .nil, .nil => rfl
  | _, _, _, .cons r t, .cons r' t' => by rw [r.inj r', Vals.inj t t']
section
variable {X : Cx} {pins : List (Addr × Obj)} {σ : St} {H : Hp} {s : Shared} {a : Addr} {xs ys : List V}
theorem SqL.of {K : PySem.W.Frag} (h : H a = some (.lst xs)) : SqL K H a xs := .inl (.inl h)
theorem SqT.of {K : PySem.W.Frag} (h : H a = some (.tup xs)) : SqT K H a xs := .inl (.inl h)
theorem Inv.list (I : Inv X pins σ H s) (h : SqL X.K H a xs) : ∃ its : List Value, Vals xs its ∧ PlainL s.heap a its.toArray ∧ xs.length ≤ sizeLine := by
  rcases h with h | ⟨o, its, n, hk, hc, hd, hs, hz, r⟩
  · obtain ⟨z, its, n, r, e⟩ := h.ok I.hok
    exact ⟨its, r, ⟨_, n, e, rfl, rfl, rfl⟩, z⟩
  · refine ⟨its.toList, r, ⟨o, n, I.kIn a o hk, hc, hd, by simpa using hs⟩, ?_⟩
    have e := r.length
    simp only [Array.length_toList] at e
    omega
theorem Inv.tuple (I : Inv X pins σ H s) (h : SqT X.K H a xs) : ∃ its : List Value, Vals xs its ∧ IsTup s.heap a its.toArray ∧ xs.length ≤ sizeLine := by
  rcases h with h | ⟨o, its, n, hk, hc, hs, hz, r⟩
  · obtain ⟨z, its, r, p⟩ := h.ok I.hok
    exact ⟨its, r, p, z⟩
  · refine ⟨its.toList, r, ⟨o, I.kIn a o hk, hc, n, by simpa using hs⟩, ?_⟩
    have e := r.length
    simp only [Array.length_toList] at e
    omega
theorem Inv.list_inj (I : Inv X pins σ H s) (h : SqL X.K H a xs) (h' : SqL X.K H a ys) : xs = ys := by
  obtain ⟨its, r, ⟨o, n, e, _, _, d⟩, _⟩ := I.list h
  obtain ⟨its', r', ⟨o', n', e', _, _, d'⟩, _⟩ := I.list h'
  rw [e] at e'; cases e'
  rw [d] at d'
  injection d' with d1 _
  have : its = its' := by simpa using congrArg Array.toList d1
  subst this
  exact r.inj r'
theorem Inv.tuple_inj (I : Inv X pins σ H s) (h : SqT X.K H a xs) (h' : SqT X.K H a ys) : xs = ys := by
  obtain ⟨its, r, ⟨o, e, _, n, d⟩, _⟩ := I.tuple h
  obtain ⟨its', r', ⟨o', e', _, n', d'⟩, _⟩ := I.tuple h'
  rw [e] at e'; cases e'
  rw [d] at d'
  injection d' with d1 _
  have : its = its' := by simpa using congrArg Array.toList d1
  subst this
  exact r.inj r'
end
abbrev Cx.wish (X : Cx) (E : Value → Shared → Prop) : Cx := { X with xe := E }
abbrev Cx.nox (X : Cx) : Cx := X.wish fun _ _ => False
theorem Cx.Ok.wish {X : Cx} (ok : X.Ok) (E : Value → Shared → Prop) : (X.wish E).Ok :=
  ⟨ok.mod, ok.kind, ok.glob, ok.blt, ok.above, ok.inj, ok.has, ok.cab, ok.hd, ok.frames, ok.stk, ok.exf, ok.bs, ok.bsz, ok.noex, ok.exfs, ok.funs, ok.frf⟩
theorem Cx.Ok.unwish {X : Cx} {E : Value → Shared → Prop} (ok : (X.wish E).Ok) : X.Ok :=
  ⟨ok.mod, ok.kind, ok.glob, ok.blt, ok.above, ok.inj, ok.has, ok.cab, ok.hd, ok.frames, ok.stk, ok.exf, ok.bs, ok.bsz, ok.noex, ok.exfs, ok.funs, ok.frf⟩
section
variable {X : Cx} {pins : List (Addr × Obj)} {σ : St} {H : Hp} {s : Shared} {E : Value → Shared → Prop}
theorem Inv.wish (I : Inv X pins σ H s) (E : Value → Shared → Prop) : Inv (X.wish E) pins σ H s := ⟨I.ok.wish E, I.os, I.bare, I.base, I.loc, I.cell, I.free, I.freeC, I.pin, I.hok, I.len⟩
theorem Inv.unwish (I : Inv (X.wish E) pins σ H s) : Inv X pins σ H s := ⟨I.ok.unwish, I.os, I.bare, I.base, I.loc, I.cell, I.free, I.freeC, I.pin, I.hok, I.len⟩
theorem SP.unwish {D : Ends} {f : Flow} {s' : Shared} (h : SP (X.wish E) pins D f s') : SP X pins D f s' := by
  cases f with
  | next => obtain ⟨σ', H', I, q⟩ := h; exact ⟨σ', H', I.unwish, q⟩
  | brk => obtain ⟨σ', H', I, q⟩ := h; exact ⟨σ', H', I.unwish, q⟩
  | cont => obtain ⟨σ', H', I, q⟩ := h; exact ⟨σ', H', I.unwish, q⟩
  | ret u => obtain ⟨v, σ', H', I, r, q⟩ := h; exact ⟨v, σ', H', I.unwish, r, q⟩
theorem PE.nox {e : Expr} {t : TE} (h : PE X.nox e t) : PE X e t := fun pins s σ H Q I hw =>
  wpAny_mono (h pins s σ H Q (I.wish _) hw) (fun _ _ ⟨v, H', I', r, q⟩ => ⟨v, H', I'.unwish, r, q⟩) fun _ _ z => False.elim z
theorem PT.nox {e : Expr} {t : TT} (h : PT X.nox e t) : PT X e t := fun pins s σ H Q I hw =>
  wpAny_mono (h pins s σ H Q (I.wish _) hw) (fun _ _ ⟨H', I', q⟩ => ⟨H', I'.unwish, q⟩) fun _ _ z => False.elim z
theorem PSs.nox {st : List Stmt} {t : TS} (h : PSs X.nox st t) : PSs X st t := fun pins s σ H D I hw =>
  wpAny_mono (h pins s σ H D (I.wish _) hw) (fun _ _ q => q.unwish) fun _ _ z => False.elim z
end
section
variable {X : Cx} {st : Stmt} {rest : List Stmt} {t u : TS} {e : Expr} {te : TE} {pos : Pos}
def tNext : TS := fun D σ H => D.nx σ H
def tSeq (t u : TS) : TS := fun D σ H => t { D with nx := u D } σ H
theorem pss_nil : PSs X [] tNext := fun _ _ σ H _ I h => wpAny_execs_nil ⟨σ, H, I, h⟩
theorem pss_cons (h1 : PS X st t) (h2 : PSs X rest u) : PSs X (st :: rest) (tSeq t u) := by
  intro pins s σ H D I h
  refine wpAny_execs_cons (thn (h1 pins s σ H { D with nx := u D } I h) fun f s1 q => ?_)
  cases f with
  | next =>
    obtain ⟨σ', H', I', q⟩ := q
    exact h2 pins s1 σ' H' D I' q
  | ret v => exact q
  | brk => exact q
  | cont => exact q
theorem pss_one (h1 : PS X st t) : PSs X [st] t := by
  intro pins s σ H D I h
  refine wpAny_execs_cons (thn (h1 pins s σ H D I h) fun f s1 q => ?_)
  cases f with
  | next => exact wpAny_execs_nil q
  | ret v => exact q
  | brk => exact q
  | cont => exact q
theorem Inv.quiet {pins : List (Addr × Obj)} {σ : St} {H : Hp} {s : Shared} (I : Inv X pins σ H s) : interactive X.env = false := by simp [interactive, I.ok.kind]
def tDrop (te : TE) : TS := fun D σ H => te σ H fun _ H1 => D.nx σ H1
theorem ps_expr (he : PE X e te) (hs : swapsWith e none pos.line X.env = pure false := by rfl) : PS X (.Expr e pos) (tDrop te) := by
  intro pins s σ H D I h
  exact wpAny_Expr_any (thn (he pins s σ H _ I h) fun v s1 ⟨x, H1, I1, r1, q1⟩ => ⟨σ, H1, I1, q1⟩) I.quiet hs
def tRet (te : TE) : TS := fun D σ H => te σ H D.rt
theorem ps_ret (he : PE X e te) : PS X (.Return (some e) pos) (tRet te) := by
  intro pins s σ H D I h
  exact wpAny_Return_some (thn (he pins s σ H _ I h) fun v s1 ⟨x, H1, I1, r1, q1⟩ => ⟨x, σ, H1, I1, r1, q1⟩)
def tIfS (c : TT) (t u : TS) : TS := fun D σ H => c σ H fun b H1 => if b = true then t D σ H1 else u D σ H1
theorem ps_if {c : Expr} {a b : List Stmt} {tc : TT} (hc : PT X c tc) (ha : PSs X a t) (hb : PSs X b u) : PS X (.If c a b pos) (tIfS tc t u) := by
  intro pins s σ H D I h
  refine wpAny_If (thn (hc pins s σ H _ I h) fun d s1 ⟨H1, I1, q1⟩ => ?_)
  cases d with
  | true => exact ha pins s1 σ H1 D I1 q1
  | false => exact hb pins s1 σ H1 D I1 q1
def tNever : TS := fun _ _ _ => False
theorem ps_never : PS X st tNever := fun _ _ _ _ _ _ h => h.elim
end
abbrev TG := V → St → Hp → (St → Hp → Prop) → Prop
abbrev TGs := List V → St → Hp → (St → Hp → Prop) → Prop
def PG (X : Cx) (target : Expr) (t : TG) : Prop :=
  ∀ (pins : List (Addr × Obj)) (s : Shared) (σ : St) (H : Hp) (v : V) (u : Value) (Q : St → Hp → Prop), Inv X pins σ H s → RelV v u → t v σ H Q →
    wpAny (model X.prog X.w) X.A (assign target X.env u) (fun _ s' => ∃ σ' H', Inv X pins σ' H' s' ∧ Q σ' H') X.xe s
def PGs (X : Cx) (ts : List Expr) (t : TGs) : Prop :=
  ∀ (pins : List (Addr × Obj)) (s : Shared) (σ : St) (H : Hp) (vs : List V) (us : List Value) (Q : St → Hp → Prop), Inv X pins σ H s → Vals vs us → t vs σ H Q →
    wpAny (model X.prog X.w) X.A (assignInOrder ((assignEach ts X.env).map (·.2)) us) (fun _ s' => ∃ σ' H', Inv X pins σ' H' s' ∧ Q σ' H') X.xe s
abbrev TSet := V → V → V → Hp → (Hp → Prop) → Prop
def PSet (X : Cx) (t : TSet) : Prop :=
  ∀ (pins : List (Addr × Obj)) (s : Shared) (σ : St) (H : Hp) (o i v : V) (ov iv u : Value) (Q : Hp → Prop), Inv X pins σ H s → RelV o ov → RelV i iv → RelV v u → t o i v H Q →
    wpAny (model X.prog X.w) X.A (setItem ov iv u) (fun _ s' => ∃ H', Inv X pins σ H' s' ∧ Q H') X.xe s
abbrev TIp := V → V → Hp → VK → Prop
def PIp (X : Cx) (op : Operator) (t : TIp) : Prop :=
  ∀ (pins : List (Addr × Obj)) (s : Shared) (σ : St) (H : Hp) (x y : V) (v u : Value) (Q : VK), Inv X pins σ H s → RelV x v → RelV y u → t x y H Q →
    wpAny (model X.prog X.w) X.A (inplaceOp op v u) (EP X pins σ Q) X.xe s
section
variable {X : Cx} {pos : Pos}
def gName (i : Nat) : TG := fun v σ H Q => Q (σ.set i (some v)) H
theorem pg_name {i : Nat} {x : Str} (hN : X.N.Nodup) (hi : X.N[i]? = some x) (hx : Loc X.env.scope x) (hf : X.fn x = true ∨ X.env.scope.names.lookup x = some .local := by first | exact .inl rfl | exact .inr rfl | assumption) : PG X (.Name x pos) (gName i) := by
  intro pins s σ H v u Q I r h
  exact wpAny_assign_Name (store_ok I hN hi hx r (fun s' I' => ⟨_, H, I', h⟩) hf)
def gNil : TGs := fun vs σ H Q => vs = [] ∧ Q σ H
def gCons (t : TG) (u : TGs) : TGs := fun vs σ H Q => ∃ v r, vs = v :: r ∧ t v σ H fun σ' H' => u r σ' H' Q
theorem pgs_nil : PGs X [] gNil := by
  intro pins s σ H vs us Q I r h
  obtain ⟨e, h⟩ := h
  subst e
  cases r
  exact assignInOrder_nil ⟨σ, H, I, h⟩
theorem pgs_cons {e : Expr} {es : List Expr} {t : TG} {u : TGs} (h1 : PG X e t) (h2 : PGs X es u)
    (hs : (assignEach (e :: es) X.env).map (·.2) = assign e X.env :: (assignEach es X.env).map (·.2) := by rfl) : PGs X (e :: es) (gCons t u) := by
  intro pins s σ H vs us Q I r h
  obtain ⟨v, vr, e1, h⟩ := h
  subst e1
  cases r with
  | cons r rr =>
    rw [hs]
    refine assignInOrder_cons (thn (h1 pins s σ H _ _ _ I r h) fun _ s1 ⟨σ1, H1, I1, q1⟩ => ?_)
    exact h2 pins s1 σ1 H1 _ _ Q I1 rr q1
def gTup (K : PySem.W.Frag) (n : Nat) (t : TGs) : TG := fun v σ H Q => ∃ a xs, v = .ref a ∧ SqT K H a xs ∧ xs.length = n ∧ t xs σ H Q
theorem pg_tup {es : List Expr} {k : Nat} {t : TGs} {n : Nat} (hc : X.calm = true) (h : PGs X es t)
    (hn : (assignEach es X.env).length = n := by rfl) (hst : (assignEach es X.env).findIdx? (·.1) = none := by rfl) : PG X (.Tuple es k pos) (gTup X.K n t) := by
  intro pins s σ H v u Q I r hw
  obtain ⟨a, xs, e1, hq, hl, hw⟩ := hw
  subst e1
  cases r
  obtain ⟨its, rv, ht, hz⟩ := I.tuple hq
  refine assign_Tuple_tuple (I.ok.hd hc) ht (by simp [hn, ← hl, rv.length]) hst fun h' hx => ?_
  have I1 : Inv X pins σ H { s with heap := h' } := I.kept (t' := s.toks) fun b o e => hx b o (Nat.ne_of_lt (Heap.lt_size e)) e
  exact h pins _ σ H xs _ Q I1 (by simpa using rv) hw
def gSub (to ti : TE) (t : TSet) : TG := fun v σ H Q => to σ H fun o H1 => ti σ H1 fun i H2 => t o i v H2 fun H3 => Q σ H3
theorem pg_sub {o i : Expr} {to ti : TE} {t : TSet} (ho : PE X o to) (hi : PE X i ti) (hs : PSet X t)
    (ha : ∀ v, assign (.Subscript o i pos) X.env v = (do
      let ov ← holding [v] (eval o X.env)
      let iv ← holding [v, ov] (eval i X.env)
      standAt pos
      holding [v, ov, iv] (setItem ov iv v)
      release [v, ov, iv] []) := by intro _; rfl) : PG X (.Subscript o i pos) (gSub to ti t) := by
  intro pins s σ H v u Q I r h
  rw [ha]
  refine wpAny_bind (wpAny_holding (thn (ho pins s σ H _ I h) fun ov s1 ⟨x, H1, I1, r1, q1⟩ => ?_))
  refine wpAny_bind (wpAny_holding (thn (hi pins s1 σ H1 _ I1 q1) fun iv s2 ⟨y, H2, I2, r2, q2⟩ => ?_))
  refine wpAny_bind (wpAny_standAt (wpAny_bind (wpAny_holding (thn (hs pins s2 σ H2 x y v ov iv u _ I2 r1 r2 r q2) fun _ s3 ⟨H3, I3, q3⟩ => ?_))))
  exact wpAny_release ⟨σ, H3, I3, q3⟩
def tAsg (te : TE) (g : TG) : TS := fun D σ H => te σ H fun x H1 => g x σ H1 D.nx
theorem ps_asg {tg e : Expr} {te : TE} {g : TG} (he : PE X e te) (hg : PG X tg g) (hs : swapsWithSole [tg] e pos.line X.env = pure false := by rfl) (hw : swappedStores [tg] e X.env = pure none := by rfl)
    (h1 : (assignEach [tg] X.env).map (·.2) = [assign tg X.env] := by rfl) : PS X (.Assign [tg] e pos) (tAsg te g) := by
  intro pins s σ H D I h
  refine wpAny_Assign_stores (thn (he pins s σ H _ I h) fun v s1 ⟨x, H1, I1, r1, q1⟩ => ?_) hs hw
  rw [h1]
  exact thn (hg pins s1 σ H1 x v _ I1 r1 q1) fun _ s2 q => q
theorem ps_set {i : Nat} {x : Str} {e : Expr} {te : TE} {pos' : Pos} (hN : X.N.Nodup) (hi : X.N[i]? = some x) (hx : Loc X.env.scope x) (he : PE X e te) (hs : swapsWith e (some (.Name x pos')) pos.line X.env = pure false := by rfl) (hf : X.fn x = true ∨ X.env.scope.names.lookup x = some .local := by first | exact .inl rfl | exact .inr rfl | assumption) :
    PS X (.Assign [.Name x pos'] e pos) (tAsg te (gName i)) := by
  intro pins s σ H D I h
  refine wpAny_Assign_Name (thn (he pins s σ H _ I h) fun v s1 ⟨y, H1, I1, r1, q1⟩ => ?_) hs
  exact store_ok I1 hN hi hx r1 (fun s2 I2 => ⟨_, H1, I2, q1⟩) hf
def tAug (i : Nat) (te : TE) (ti : TIp) : TS := fun D σ H => ∃ x, σ[i]? = some (some x) ∧ te σ H fun y H1 => ti x y H1 fun z H2 => D.nx (σ.set i (some z)) H2
theorem ps_aug {i : Nat} {x : Str} {e : Expr} {te : TE} {op : Operator} {ti : TIp} {pos' : Pos} (hN : X.N.Nodup) (hi : X.N[i]? = some x) (hx : Loc X.env.scope x) (he : PE X e te) (ho : PIp X op ti) (hf : X.fn x = true ∨ X.env.scope.names.lookup x = some .local := by first | exact .inl rfl | exact .inr rfl | assumption) :
    PS X (.AugAssign (.Name x pos') op e pos) (tAug i te ti) := by
  intro pins s σ H D I h
  obtain ⟨v, e1, h⟩ := h
  obtain ⟨m, hn, hl⟩ := I.loc
  have vis : Vis X.env.scope x := by rcases hx with k | k; exact .inl k; exact .inr (.inl k)
  obtain ⟨u, r, l⟩ := hl i x v hi e1 vis
  refine wpAny_AugAssign_Name ?_
  have go : wpAny (model X.prog X.w) X.A (eval e X.env) (fun w s₂ => wpAny (model X.prog X.w) X.A (inplaceOp op u w) (fun r s₃ => wpAny (model X.prog X.w) X.A (storeName X.env x r) (fun _ => SP X pins D .next) X.xe s₃) X.xe s₂) X.xe s := by
    refine thn (he pins s σ H _ I h) fun w s1 ⟨y, H1, I1, r1, q1⟩ => ?_
    refine thn (ho pins s1 σ H1 v y u w _ I1 r r1 q1) fun z s2 ⟨zv, H2, I2, r2, q2⟩ => ?_
    exact store_ok I2 hN hi hx r2 (fun s3 I3 => ⟨_, H2, I3, q2⟩) hf
  rcases l with ⟨hk, hm⟩ | ⟨hk, c, hc, hcell⟩
  · exact wpAny_loadName_local I.ok.kind hk hn hm go
  · rcases hk with hk | hk
    · exact wpAny_loadName_cell I.ok.kind hk hc hcell go
    · rcases hx with k | k
      · have : X.env.scope.names.lookup x = some .free := hk
        rw [k] at this; cases this
      · have : X.env.scope.names.lookup x = some .free := hk
        rw [k] at this; cases this
def ipI (f : Int → Int → Int) : TIp := fun x y H Q => ∃ i j, x = .int i ∧ y = .int j ∧ Q (.int (f i j)) H
theorem ip_add : PIp X .Add (ipI fun i j => i + j) := by
  intro pins s σ H x y v u Q I r1 r2 h
  obtain ⟨i, j, e1, e2, q⟩ := h
  subst e1; subst e2
  obtain ⟨t, rfl⟩ := r1
  obtain ⟨t', rfl⟩ := r2
  exact iadd_int ⟨.int _, H, I.tok _, ⟨_, rfl⟩, q⟩
end
section
variable {X : Cx} {pos : Pos}
def tWhile (c : TT) (tb : TS) : TS := fun D σ H => ∃ W : Nat → St → Hp → Prop, (∃ m, W m σ H) ∧ ∀ m σ H, W m σ H →
  c σ H fun b H1 => if b = true then ∃ N : St → Hp → Prop, (∀ σ' H', N σ' H' → ∃ m', m' < m ∧ W m' σ' H') ∧ tb { D with nx := N, ct := N, bk := D.nx } σ H1 else D.nx σ H1
theorem ps_while {c : Expr} {body : List Stmt} {tc : TT} {tb : TS} (hp : PassesOwn (model X.prog X.w) X.A X.env X.xe) (hc : PT X c tc) (hb : PSs X body tb) : PS X (.While c body [] pos) (tWhile tc tb) := by
  intro pins s σ H D I h
  obtain ⟨W, ⟨m0, w0⟩, turn⟩ := h
  refine wpAny_While (codeAny_whileLoop (fun n s' => ∃ σ' H', Inv X pins σ' H' s' ∧ W n σ' H') ?_ m0 ⟨σ, H, I, w0⟩)
  rintro n s1 ⟨σ1, H1, I1, w1⟩
  refine wpAny_passesOwn hp (thn (hc pins s1 σ1 H1 _ I1 (turn n σ1 H1 w1)) fun b s2 ⟨H2, I2, q2⟩ => ?_)
  cases b with
  | true =>
    obtain ⟨N, hN, q2⟩ := q2
    rw [if_pos rfl]
    refine wpAny_passesOwn hp (thn (hb pins s2 σ1 H2 _ I2 q2) fun f s3 q3 => ?_)
    cases f with
    | next =>
      obtain ⟨σ3, H3, I3, n3⟩ := q3
      obtain ⟨m', hm, w3⟩ := hN σ3 H3 n3
      exact ⟨m', hm, σ3, H3, I3, w3⟩
    | cont =>
      obtain ⟨σ3, H3, I3, n3⟩ := q3
      obtain ⟨m', hm, w3⟩ := hN σ3 H3 n3
      exact ⟨m', hm, σ3, H3, I3, w3⟩
    | brk => exact q3
    | ret v => exact q3
  | false =>
    rw [if_neg Bool.false_ne_true]
    exact wpAny_execs_nil ⟨σ1, H2, I2, q2⟩
end
structure It where
  go : Nat → Hp → Prop
  yld : Nat → Hp → V → Hp → Prop
  stop : Nat → Hp → Prop
def FpOk (X : Cx) (pins : List (Addr × Obj)) (H : Hp) (b : Addr) : Prop :=
  H b = none ∧ b ≠ X.env.locals ∧ b ∉ X.fs ∧ (b ∈ X.ex ∨ X.s₀.heap.objs.size ≤ b) ∧ (∀ x c, X.env.cells.lookup x = some c → c ≠ b) ∧ ∀ p ∈ X.pn ++ pins, p.1 ≠ b
theorem Inv.fpOk {X : Cx} {pins : List (Addr × Obj)} {σ : St} {H H' : Hp} {s : Shared} {b : Addr} (I : Inv X pins σ H s) (hb : s.heap.objs.size ≤ b) (hn : H' b = none) : FpOk X pins H' b := by
  refine ⟨hn, Nat.ne_of_gt (Nat.lt_of_lt_of_le I.lt hb), I.nofs hb, .inr (Nat.le_trans I.sz hb), fun x c e z => ?_, fun p hp z => ?_⟩
  · obtain ⟨v, q⟩ := I.cell x c e
    exact absurd (Nat.lt_of_lt_of_le q.lt (by rw [z]; exact hb)) (Nat.lt_irrefl _)
  · exact absurd (Nat.lt_of_lt_of_le (Heap.lt_size (I.pin p hp).1) (by rw [z]; exact hb)) (Nat.lt_irrefl _)
structure Turn (P : Program) (w : World) (K : PySem.W.Frag) (tg : Expr) (J : It) (fp : List Addr) (it : Addr) (tn : Nat → Heap → Prop) : Prop where
  mem : it ∈ fp
  obj : ∀ i h, tn i h → ∀ b ∈ fp, ∃ o, h.get? b = some o ∧ ∀ v, o.data ≠ .cell v
  keep : ∀ i h h', tn i h → (∀ b ∈ fp, ∀ o, h.get? b = some o → h'.get? b = some o) → tn i h'
  item : ∀ (X : Cx), X.prog = P → X.w = w → X.K = K → X.calm = true → ∀ (i : Nat) (pins : List (Addr × Obj)) (s : Shared) (σ : St) (H : Hp) (E : Value → Shared → Prop), Inv X pins σ H s → (∀ b ∈ fp, FpOk X pins H b) → tn i s.heap → J.go i H →
    wpAny (model P w) X.A (pyNext (.ref it)) (fun r s1 => ∃ u, r = some u ∧
      wpAny (model P w) X.A (letOwnedTupleGo tg (.ref it) u) (fun _ s2 => ∃ x H', Inv X pins σ H' s2 ∧ RelV x u ∧ J.yld i H x H' ∧ tn (i + 1) s2.heap ∧ ∀ b ∈ fp, H' b = none) E s1) E s
  done : ∀ (X : Cx), X.prog = P → X.w = w → X.K = K → X.calm = true → ∀ (i : Nat) (pins : List (Addr × Obj)) (s : Shared) (σ : St) (H : Hp) (E : Value → Shared → Prop), Inv X pins σ H s → (∀ b ∈ fp, FpOk X pins H b) → tn i s.heap → J.stop i H →
    wpAny (model P w) X.A (pyNext (.ref it)) (fun r s1 => r = none ∧ Inv X pins σ H s1) E s
  self : ∀ (A : Around) (i : Nat) (s : Shared) (Q : Value → Shared → Prop) (E : Value → Shared → Prop), tn i s.heap → Q (.ref it) s → wpAny (model P w) A (pyIter (.ref it)) Q E s
abbrev TI := St → Hp → (It → Hp → Prop) → Prop
def PIE (X : Cx) (pins : List (Addr × Obj)) (σ : St) (tg : Expr) (R : It → Hp → Prop) (itv : Value) (s2 : Shared) : Prop :=
  ∃ (it : Addr) (fp : List Addr) (tn : Nat → Heap → Prop) (J : It) (H' : Hp), itv = .ref it ∧ Inv X pins σ H' s2 ∧ Turn X.prog X.w X.K tg J fp it tn ∧ tn 0 s2.heap ∧ (∀ b ∈ fp, FpOk X pins H' b) ∧ R J H'
def PI (X : Cx) (tg iter : Expr) (wi : TI) : Prop :=
  ∀ (pins : List (Addr × Obj)) (s : Shared) (σ : St) (H : Hp) (R : It → Hp → Prop), Inv X pins σ H s → wi σ H R →
    wpAny (model X.prog X.w) X.A (eval iter X.env) (fun v s1 => wpAny (model X.prog X.w) X.A (pyIter v) (PIE X pins σ tg R) X.xe s1) X.xe s
theorem go_of {M : Model} {A : Around} {E : Value → Shared → Prop} {s : Shared} {tg : Expr} {it : Addr} {u : Value} {o : Obj} {n : String} {vs : Array Value} {Q : Unit → Shared → Prop} (ho : s.heap.get? it = some o) (hc : o.cls = .type n) (hd : o.data = .fields vs)
    (hn : ["enumerate", "zip", "dict_itemiterator", "dict_reverseitemiterator", "odict_iterator", "itertools.zip_longest", "itertools.pairwise"].contains n = false) (hQ : Q () s) : wpAny M A (letOwnedTupleGo tg (.ref it) u) Q E s := by
  unfold letOwnedTupleGo
  cases tg <;> first
    | exact wpAny_pure hQ
    | (cases u <;> first
        | exact wpAny_pure hQ
        | (refine wpAny_bind (wpAny_load ho ?_)
           rw [hc, hd]
           show wpAny M A (if (["enumerate", "zip", "dict_itemiterator", "dict_reverseitemiterator", "odict_iterator", "itertools.zip_longest", "itertools.pairwise"].contains n && vs[0]? == some (rawInt _)) = true then _ else _) Q E s
           rw [if_neg (by intro h; rw [hn, Bool.false_and] at h; cases h)]
           exact wpAny_pure hQ))
def Itl (K : PySem.W.Frag) (a : Addr) : It :=
  ⟨fun i H => ∃ xs x, SqL K H a xs ∧ xs[i]? = some x, fun i H x H' => H' = H ∧ ∀ xs, SqL K H a xs → xs[i]? = some x, fun i H => ∃ xs, SqL K H a xs ∧ xs.length ≤ i⟩
def Itt (K : PySem.W.Frag) (a : Addr) : It :=
  ⟨fun i H => ∃ xs x, SqT K H a xs ∧ xs[i]? = some x, fun i H x H' => H' = H ∧ ∀ xs, SqT K H a xs → xs[i]? = some x, fun i H => ∃ xs, SqT K H a xs ∧ xs.length ≤ i⟩
def Itr (lo : Int) (n : Nat) : It := ⟨fun i _ => i < n, fun i H x H' => H' = H ∧ x = .int (lo + i), fun i _ => n ≤ i⟩
theorem turn_list {P : Program} {w : World} {K : PySem.W.Frag} {tg : Expr} (a it : Addr) : Turn P w K tg (Itl K a) [it] it (fun i h => h.IsListIter it a i) where
  mem := by simp
  obj := fun i h st b hb => by
    have e : b = it := by simpa using hb
    subst e
    obtain ⟨o, e, c, d⟩ := st
    exact ⟨o, e, fun v z => by rw [d] at z; cases z⟩
  keep := fun i h h' st k => st.at fun o e => k it (by simp) o e
  item := by
    intro X hP hw hK hc i pins s σ H E I hf st hg
    subst hP hw hK
    obtain ⟨xs, x, hq, hx⟩ := hg
    obtain ⟨its, rv, p, hz⟩ := I.list hq
    obtain ⟨u, hu, ru⟩ := rv.get hx
    obtain ⟨f0, f1, f2, f3, f4, f5⟩ := hf it (by simp)
    refine wpAny_pyNext_list_item st p.isList (x := u) (by simpa using hu) fun h' st' sb => ?_
    have I1 : Inv X pins σ H { s with heap := h' } := I.turned (t' := s.toks) (fun b o hb e => (sb.2 b hb).trans e) f0 f1 f3 f4 f5
    obtain ⟨o, e, c, d⟩ := id st'
    exact ⟨u, rfl, go_of (s := { s with heap := h' }) e c d (by decide) ⟨x, H, I1, ru, ⟨rfl, fun ys hy => by rw [I.list_inj hy hq]; exact hx⟩, st', fun b hb => (hf b hb).1⟩⟩
  done := by
    intro X hP hw hK hc i pins s σ H E I hf st hg
    subst hP hw hK
    obtain ⟨xs, hq, hx⟩ := hg
    obtain ⟨its, rv, p, hz⟩ := I.list hq
    obtain ⟨f0, f1, f2, f3, f4, f5⟩ := hf it (by simp)
    have hl := rv.length
    exact wpAny_pyNext_list_end (I.ok.hd hc) st p.isList (by simp; omega) fun h' eb => ⟨rfl, I.turned (t' := s.toks) (fun b o hb e => eb b o hb e) f0 f1 f3 f4 f5⟩
  self := fun _ _ _ _ _ st h => wpAny_pyIter_listiter st h
theorem turn_tuple {P : Program} {w : World} {K : PySem.W.Frag} {tg : Expr} (a it : Addr) : Turn P w K tg (Itt K a) [it] it (fun i h => h.IsTupleIter it a i) where
  mem := by simp
  obj := fun i h st b hb => by
    have e : b = it := by simpa using hb
    subst e
    obtain ⟨o, e, c, d⟩ := st
    exact ⟨o, e, fun v z => by rw [d] at z; cases z⟩
  keep := fun i h h' st k => st.at fun o e => k it (by simp) o e
  item := by
    intro X hP hw hK hc i pins s σ H E I hf st hg
    subst hP hw hK
    obtain ⟨xs, x, hq, hx⟩ := hg
    obtain ⟨its, rv, p, hz⟩ := I.tuple hq
    obtain ⟨u, hu, ru⟩ := rv.get hx
    obtain ⟨f0, f1, f2, f3, f4, f5⟩ := hf it (by simp)
    refine wpAny_pyNext_tuple_item st (show s.heap.IsTuple a its.toArray from p) (x := u) (by simpa using hu) fun h' st' sb => ?_
    have I1 : Inv X pins σ H { s with heap := h' } := I.turned (t' := s.toks) (fun b o hb e => (sb.2 b hb).trans e) f0 f1 f3 f4 f5
    obtain ⟨o, e, c, d⟩ := id st'
    exact ⟨u, rfl, go_of (s := { s with heap := h' }) e c d (by decide) ⟨x, H, I1, ru, ⟨rfl, fun ys hy => by rw [I.tuple_inj hy hq]; exact hx⟩, st', fun b hb => (hf b hb).1⟩⟩
  done := by
    intro X hP hw hK hc i pins s σ H E I hf st hg
    subst hP hw hK
    obtain ⟨xs, hq, hx⟩ := hg
    obtain ⟨its, rv, p, hz⟩ := I.tuple hq
    obtain ⟨f0, f1, f2, f3, f4, f5⟩ := hf it (by simp)
    have hl := rv.length
    exact wpAny_pyNext_tuple_end (I.ok.hd hc) st (show s.heap.IsTuple a its.toArray from p) (by simp; omega) fun h' eb => ⟨rfl, I.turned (t' := s.toks) (fun b o hb e => eb b o hb e) f0 f1 f3 f4 f5⟩
  self := fun _ _ _ _ _ st h => wpAny_pyIter_tupleiter st h
theorem turn_range {P : Program} {w : World} {K : PySem.W.Frag} {tg : Expr} (it : Addr) (lo : Int) (n : Nat) : Turn P w K tg (Itr lo n) [it] it (fun i h => IsRangeIter h it (lo + (i : Nat) * 1) ((n : Int) - (i : Nat)) 1) where
  mem := by simp
  obj := fun i h st b hb => by
    have e : b = it := by simpa using hb
    subst e
    exact ⟨_, st, fun v z => by
      have z' : Data.fields _ = Data.cell v := z
      cases z'⟩
  keep := fun i h h' st k => k it (by simp) _ st
  item := by
    intro X hP hw hK hc i pins s σ H E I hf st hg
    subst hP hw hK
    obtain ⟨f0, f1, f2, f3, f4, f5⟩ := hf it (by simp)
    have W := Walks.range (prog := X.prog) (w := X.w) (I.ok.hd hc) it lo 1 n
    refine W.item i s _ _ hg st fun v h' tk hv st' kk => ?_
    obtain ⟨t, rfl⟩ := hv
    have I1 : Inv X pins σ H { s with heap := h', toks := tk } := I.turned (fun b o hb e => kk b o (by simpa using hb) e) f0 f1 f3 f4 f5
    refine ⟨_, rfl, go_of (s := { s with heap := h', toks := tk }) (n := "range_iterator") st' rfl rfl (by decide) ⟨.int (lo + i), H, I1, ⟨t, ?_⟩, ⟨rfl, rfl⟩, st', fun b hb => (hf b hb).1⟩⟩
    rw [Int.mul_one]
  done := by
    intro X hP hw hK hc i pins s σ H E I hf st hg
    subst hP hw hK
    obtain ⟨f0, f1, f2, f3, f4, f5⟩ := hf it (by simp)
    exact wpAny_pyNext_range_end (I.ok.hd hc) st (by have : n ≤ i := hg; omega) fun h' eb => ⟨rfl, I.turned (t' := s.toks) (fun b o hb e => eb b o hb e) f0 f1 f3 f4 f5⟩
  self := fun _ _ _ _ _ st h => wpAny_pyIter_rangeiter st h
end L2
namespace L2
open PySem PySem.Spec PyProof.Rows
section
variable {X : Cx} {tg : Expr}
def iList (K : PySem.W.Frag) (tl : TE) : TI := fun σ H R => tl σ H fun x H1 => ∃ a, x = .ref a ∧ (∃ xs, SqL K H1 a xs) ∧ R (Itl K a) H1
def iTup (K : PySem.W.Frag) (tl : TE) : TI := fun σ H R => tl σ H fun x H1 => ∃ a, x = .ref a ∧ (∃ xs, SqT K H1 a xs) ∧ R (Itt K a) H1
theorem pi_list {l : Expr} {tl : TE} (hl : PE X l tl) : PI X tg l (iList X.K tl) := by
  intro pins s σ H R I h
  refine thn (hl pins s σ H _ I h) fun v s1 ⟨x, H1, I1, r1, q1⟩ => ?_
  obtain ⟨a, e, ⟨xs, hq⟩, q⟩ := q1
  subst e
  cases r1
  obtain ⟨its, rv, p, hz⟩ := I1.list hq
  refine wpAny_pyIter_list p.isList ?_
  refine ⟨s1.heap.objs.size, [s1.heap.objs.size], _, _, H1, rfl, I1.kept (t' := s1.toks) fun b o e => Heap.get?_push_of_some _ e, turn_list a _, ⟨_, Heap.get?_push_size _ rfl, rfl, rfl⟩, fun b hb => ?_, q⟩
  have e : b = s1.heap.objs.size := by simpa using hb
  subst e
  exact I1.fpOk (Nat.le_refl _) (I1.hok.fresh (Nat.le_refl _))
theorem pi_tup {l : Expr} {tl : TE} (hl : PE X l tl) : PI X tg l (iTup X.K tl) := by
  intro pins s σ H R I h
  refine thn (hl pins s σ H _ I h) fun v s1 ⟨x, H1, I1, r1, q1⟩ => ?_
  obtain ⟨a, e, ⟨xs, hq⟩, q⟩ := q1
  subst e
  cases r1
  obtain ⟨its, rv, p, hz⟩ := I1.tuple hq
  refine wpAny_pyIter_tuple (show s1.heap.IsTuple a its.toArray from p) ?_
  refine ⟨s1.heap.objs.size, [s1.heap.objs.size], _, _, H1, rfl, I1.kept (t' := s1.toks) fun b o e => Heap.get?_push_of_some _ e, turn_tuple a _, ⟨_, Heap.get?_push_size _ rfl, rfl, rfl⟩, fun b hb => ?_, q⟩
  have e : b = s1.heap.objs.size := by simpa using hb
  subst e
  exact I1.fpOk (Nat.le_refl _) (I1.hok.fresh (Nat.le_refl _))
theorem range_it {pins : List (Addr × Obj)} {σ : St} {H : Hp} {s : Shared} {R : It → Hp → Prop} {E : Value → Shared → Prop} {lo hi : Int} {t u v : Tok} {tk : Nat} (I : Inv X pins σ H s) (h1 : -(2 ^ 62) ≤ lo) (h2 : lo < 2 ^ 62) (h3 : -(2 ^ 62) ≤ hi) (h4 : hi < 2 ^ 62)
    (q : R (Itr lo (hi - lo).toNat) H) : wpAny (model X.prog X.w) X.A (pyIter (.ref s.heap.objs.size)) (PIE X pins σ tg R) E { s with heap := s.heap.push { cls := .type "range", data := .fields #[.int lo t, .int hi u, .int 1 v] }, toks := tk } := by
  refine wpAny_pyIter_range (IsRange.new ..) (small_one h1 h2 h3 h4) ?_
  have I1 : Inv X pins σ H { s with heap := s.heap.push { cls := .type "range", data := .fields #[.int lo t, .int hi u, .int 1 v] }, toks := tk } := I.kept fun b o e => Heap.get?_push_of_some _ e
  refine ⟨(s.heap.push { cls := .type "range", data := .fields #[.int lo t, .int hi u, .int 1 v] }).objs.size, [(s.heap.push { cls := .type "range", data := .fields #[.int lo t, .int hi u, .int 1 v] }).objs.size], _, _, H, rfl,
    I1.kept (t' := tk) fun b o e => Heap.get?_push_of_some _ e, turn_range _ lo (hi - lo).toNat, ?_, fun b hb => ?_, q⟩
  · have e1 : lo + ((0 : Nat) : Int) * 1 = lo := by simp
    have e2 : (((hi - lo).toNat : Nat) : Int) - ((0 : Nat) : Int) = Builtin.Range.rangeSize lo hi 1 := by rw [rangeSize_one]; split <;> omega
    show IsRangeIter _ _ (lo + ((0 : Nat) : Int) * 1) ((((hi - lo).toNat : Nat) : Int) - ((0 : Nat) : Int)) 1
    rw [e1, e2]
    exact Heap.get?_push_size _ rfl
  · have e : b = (s.heap.push { cls := .type "range", data := .fields #[.int lo t, .int hi u, .int 1 v] }).objs.size := by simpa using hb
    subst e
    exact I1.fpOk (Nat.le_refl _) (I1.hok.fresh (Nat.le_refl _))
def iRng1 (ta : TA) : TI := fun σ H R => ta σ H fun vs H1 => ∃ j : Int, vs = [.int j] ∧ -(2 ^ 62) ≤ j ∧ j < 2 ^ 62 ∧ R (Itr 0 j.toNat) H1
theorem pi_range1 {a : Expr} {ta : TA} {p pos : Pos} (hg : Gl X "range") (hm : X.mg "range" = none) (ha : PA X [a] ta) (hs : starEach [a] X.env = [(false, eval a X.env)] := by rfl) : PI X tg (.Call (.Name "range" p) [a] [] pos) (iRng1 ta) := by
  intro pins s σ H R I h
  refine Call_ (ld_blt I hg hm boot_range (PyProof.Rows.callWith_type1 (thn (ha pos pins s σ H _ I h) fun us s1 ⟨vs, H1, I1, r1, q1⟩ => ?_) hs rfl))
  obtain ⟨j, e, q1, q2, q⟩ := q1
  subst e
  cases r1 with
  | cons r rr =>
    cases rr
    obtain ⟨t, rfl⟩ := r
    exact call_range_1 (range_it I1 (by omega) (by omega) q1 q2 (by simpa using q))
def tFor (wi : TI) (g : TG) (tb : TS) : TS := fun D σ H => wi σ H fun J H1 => ∃ W : Nat → Nat → St → Hp → Prop, (∃ m, W 0 m σ H1) ∧ ∀ i m σ H, W i m σ H →
  (J.stop i H ∧ D.nx σ H) ∨ (J.go i H ∧ ∃ N : St → Hp → Prop, (∀ σ' H', N σ' H' → ∃ m', m' < m ∧ W (i + 1) m' σ' H') ∧ ∀ x H', J.yld i H x H' → g x σ H' fun σ2 H2 => tb { D with nx := N, ct := N, bk := D.nx } σ2 H2)
def pinsAt (fp : List Addr) (h : Heap) : List (Addr × Obj) := fp.filterMap fun b => (h.get? b).map fun o => (b, o)
theorem mem_pinsAt {fp : List Addr} {h : Heap} {b : Addr} {o : Obj} (hb : b ∈ fp) (e : h.get? b = some o) : (b, o) ∈ pinsAt fp h := List.mem_filterMap.mpr ⟨b, hb, by rw [e]; rfl⟩
theorem of_pinsAt {fp : List Addr} {h : Heap} {p : Addr × Obj} (hp : p ∈ pinsAt fp h) : p.1 ∈ fp ∧ h.get? p.1 = some p.2 := by
  obtain ⟨b, hb, e⟩ := List.mem_filterMap.mp hp
  cases q : h.get? b with
  | none => rw [q] at e; cases e
  | some o =>
    rw [q] at e
    have e' : (b, o) = p := Option.some.inj e
    subst e'
    exact ⟨hb, q⟩
theorem Inv.pinned {pins : List (Addr × Obj)} {σ : St} {H : Hp} {s : Shared} {fp : List Addr} (I : Inv X pins σ H s) (hf : ∀ b ∈ fp, FpOk X pins H b) (ho : ∀ b ∈ fp, ∃ o, s.heap.get? b = some o ∧ ∀ v, o.data ≠ .cell v) : Inv X (pins ++ pinsAt fp s.heap) σ H s :=
  I.pins_of fun p hp => (List.mem_append.mp hp).elim (fun z => I.pin p (List.mem_append_right _ z)) fun z => by
    obtain ⟨hb, e⟩ := of_pinsAt z
    obtain ⟨f0, f1, f2, _⟩ := hf p.1 hb
    obtain ⟨o, e', d⟩ := ho p.1 hb
    rw [e] at e'; cases e'
    exact ⟨e, f0, f1, f2, d⟩
theorem Inv.unpinned {pins pl : List (Addr × Obj)} {σ : St} {H : Hp} {s : Shared} (I : Inv X (pins ++ pl) σ H s) : Inv X pins σ H s := I.pins_of fun p hp => I.pin p (List.mem_append_right _ (List.mem_append_left _ hp))
theorem ps_for {iter : Expr} {body : List Stmt} {wi : TI} {g : TG} {tb : TS} {pos : Pos} (hp : PassesOwn (model X.prog X.w) X.A X.env X.xe) (hc : X.calm = true) (hi : PI X tg iter wi) (hg : PG X tg g) (hb : PSs X body tb)
    (hs : ∀ x, foldedSetIterable iter X.env x = pure x := by intro _; rfl) : PS X (.For tg iter body [] pos) (tFor wi g tb) := by
  intro pins s σ H D I h
  refine wpAny_For (thn (hi pins s σ H _ I h) fun v s1 h1 => thn h1 fun itv s2 h2 => ?_) hs
  obtain ⟨it, fp, tn, J, H2, e, I2, T, st2, f2, W, ⟨m0, w0⟩, turn⟩ := h2
  subst e
  have stat : ∀ {H' : Hp}, (∀ b ∈ fp, H' b = none) → ∀ b ∈ fp, FpOk X pins H' b := fun hn b hb => ⟨hn b hb, (f2 b hb).2⟩
  refine codeAny_forLoop_any (fun n s' => ∃ i σ' H', Inv X pins σ' H' s' ∧ tn i s'.heap ∧ (∀ b ∈ fp, H' b = none) ∧ W i n σ' H') ?_ m0 ⟨0, σ, H2, I2, st2, fun b hb => (f2 b hb).1, w0⟩
  rintro n s3 ⟨i, σ3, H3, I3, st3, fr3, w3⟩
  rcases turn i n σ3 H3 w3 with ⟨stop, qn⟩ | ⟨go, N, hN, step⟩
  · refine wpAny_passesOwn hp (thn (T.done X rfl rfl rfl hc i pins s3 σ3 H3 X.xe I3 (stat fr3) st3 stop) fun r s4 ⟨hr, I4⟩ => ?_)
    subst hr
    exact wpAny_execs_nil ⟨σ3, H3, I4, qn⟩
  · refine wpAny_passesOwn hp (thn (T.item X rfl rfl rfl hc i pins s3 σ3 H3 X.xe I3 (stat fr3) st3 go) fun r s4 ⟨u, hr, h4⟩ => ?_)
    subst hr
    refine wpAny_passesOwn hp (thn h4 fun _ s5 ⟨x, H5, I5, r5, y5, st5, fr5⟩ => ?_)
    have I5' := I5.pinned (stat fr5) (T.obj _ _ st5)
    refine wpAny_passesOwn hp (thn (hg _ s5 σ3 H5 x u _ I5' r5 (step x H5 y5)) fun _ s6 ⟨σ6, H6, I6, q6⟩ => ?_)
    refine wpAny_passesOwn hp (thn (hb _ s6 σ6 H6 _ I6 q6) fun f s7 q7 => ?_)
    have again : ∀ {σ7 : St} {H7 : Hp}, Inv X (pins ++ pinsAt fp s5.heap) σ7 H7 s7 → N σ7 H7 → ∃ m, m < n ∧ ∃ i σ' H', Inv X pins σ' H' s7 ∧ tn i s7.heap ∧ (∀ b ∈ fp, H' b = none) ∧ W i m σ' H' := fun {σ7 H7} I7 n7 => by
      obtain ⟨m', hm, w7⟩ := hN σ7 H7 n7
      refine ⟨m', hm, i + 1, σ7, H7, I7.unpinned, T.keep _ _ _ st5 fun b hb o e => (I7.pin (b, o) (List.mem_append_right _ (List.mem_append_right _ (mem_pinsAt hb e)))).1, fun b hb => ?_, w7⟩
      obtain ⟨o, e, d⟩ := T.obj _ _ st5 b hb
      exact (I7.pin (b, o) (List.mem_append_right _ (List.mem_append_right _ (mem_pinsAt hb e)))).2.1
    cases f with
    | next => obtain ⟨σ7, H7, I7, n7⟩ := q7; exact again I7 n7
    | cont => obtain ⟨σ7, H7, I7, n7⟩ := q7; exact again I7 n7
    | brk => obtain ⟨σ7, H7, I7, q7⟩ := q7; exact ⟨σ7, H7, I7.unpinned, q7⟩
    | ret v => obtain ⟨x7, σ7, H7, I7, r7, q7⟩ := q7; exact ⟨x7, σ7, H7, I7.unpinned, r7, q7⟩
end
theorem for_list {K : PySem.W.Frag} {a : Addr} {xs : List V} {g : TG} {tb : TS} {D : Ends} {σ : St} {H : Hp} (Pv : Nat → St → Hp → Prop) (h0 : Pv 0 σ H) (hl : ∀ i σ H, i ≤ xs.length → Pv i σ H → SqL K H a xs)
    (hs : ∀ i x σ H, xs[i]? = some x → Pv i σ H → g x σ H fun σ2 H2 => tb { D with nx := Pv (i + 1), ct := Pv (i + 1), bk := D.nx } σ2 H2) (hd : ∀ σ H, Pv xs.length σ H → D.nx σ H) :
    ∃ W : Nat → Nat → St → Hp → Prop, (∃ m, W 0 m σ H) ∧ ∀ i m σ H, W i m σ H →
      ((Itl K a).stop i H ∧ D.nx σ H) ∨ ((Itl K a).go i H ∧ ∃ N : St → Hp → Prop, (∀ σ' H', N σ' H' → ∃ m', m' < m ∧ W (i + 1) m' σ' H') ∧ ∀ x H', (Itl K a).yld i H x H' → g x σ H' fun σ2 H2 => tb { D with nx := N, ct := N, bk := D.nx } σ2 H2) := by
  refine ⟨fun i m σ H => m = xs.length - i ∧ i ≤ xs.length ∧ Pv i σ H, ⟨xs.length, by simp, Nat.zero_le _, h0⟩, ?_⟩
  rintro i m σ H ⟨rfl, hi, p⟩
  have q := hl i σ H hi p
  by_cases hlt : i < xs.length
  · refine .inr ⟨⟨xs, xs[i], q, by simp [hlt]⟩, Pv (i + 1), fun σ' H' p' => ⟨xs.length - (i + 1), by omega, rfl, hlt, p'⟩, fun x H' y => ?_⟩
    obtain ⟨e, y⟩ := y
    subst e
    exact hs i x σ _ (y xs q) p
  · have e : i = xs.length := by omega
    subst e
    exact .inl ⟨⟨xs, q, Nat.le_refl _⟩, hd σ H p⟩
theorem for_tup {K : PySem.W.Frag} {a : Addr} {xs : List V} {g : TG} {tb : TS} {D : Ends} {σ : St} {H : Hp} (Pv : Nat → St → Hp → Prop) (h0 : Pv 0 σ H) (hl : ∀ i σ H, i ≤ xs.length → Pv i σ H → SqT K H a xs)
    (hs : ∀ i x σ H, xs[i]? = some x → Pv i σ H → g x σ H fun σ2 H2 => tb { D with nx := Pv (i + 1), ct := Pv (i + 1), bk := D.nx } σ2 H2) (hd : ∀ σ H, Pv xs.length σ H → D.nx σ H) :
    ∃ W : Nat → Nat → St → Hp → Prop, (∃ m, W 0 m σ H) ∧ ∀ i m σ H, W i m σ H →
      ((Itt K a).stop i H ∧ D.nx σ H) ∨ ((Itt K a).go i H ∧ ∃ N : St → Hp → Prop, (∀ σ' H', N σ' H' → ∃ m', m' < m ∧ W (i + 1) m' σ' H') ∧ ∀ x H', (Itt K a).yld i H x H' → g x σ H' fun σ2 H2 => tb { D with nx := N, ct := N, bk := D.nx } σ2 H2) := by
  refine ⟨fun i m σ H => m = xs.length - i ∧ i ≤ xs.length ∧ Pv i σ H, ⟨xs.length, by simp, Nat.zero_le _, h0⟩, ?_⟩
  rintro i m σ H ⟨rfl, hi, p⟩
  have q := hl i σ H hi p
  by_cases hlt : i < xs.length
  · refine .inr ⟨⟨xs, xs[i], q, by simp [hlt]⟩, Pv (i + 1), fun σ' H' p' => ⟨xs.length - (i + 1), by omega, rfl, hlt, p'⟩, fun x H' y => ?_⟩
    obtain ⟨e, y⟩ := y
    subst e
    exact hs i x σ _ (y xs q) p
  · have e : i = xs.length := by omega
    subst e
    exact .inl ⟨⟨xs, q, Nat.le_refl _⟩, hd σ H p⟩
theorem for_range {lo : Int} {n : Nat} {g : TG} {tb : TS} {D : Ends} {σ : St} {H : Hp} (Pv : Nat → St → Hp → Prop) (h0 : Pv 0 σ H)
    (hs : ∀ i σ H, i < n → Pv i σ H → g (.int (lo + i)) σ H fun σ2 H2 => tb { D with nx := Pv (i + 1), ct := Pv (i + 1), bk := D.nx } σ2 H2) (hd : ∀ σ H, Pv n σ H → D.nx σ H) :
    ∃ W : Nat → Nat → St → Hp → Prop, (∃ m, W 0 m σ H) ∧ ∀ i m σ H, W i m σ H →
      ((Itr lo n).stop i H ∧ D.nx σ H) ∨ ((Itr lo n).go i H ∧ ∃ N : St → Hp → Prop, (∀ σ' H', N σ' H' → ∃ m', m' < m ∧ W (i + 1) m' σ' H') ∧ ∀ x H', (Itr lo n).yld i H x H' → g x σ H' fun σ2 H2 => tb { D with nx := N, ct := N, bk := D.nx } σ2 H2) := by
  refine ⟨fun i m σ H => m = n - i ∧ i ≤ n ∧ Pv i σ H, ⟨n, by simp, Nat.zero_le _, h0⟩, ?_⟩
  rintro i m σ H ⟨rfl, hi, p⟩
  by_cases hlt : i < n
  · refine .inr ⟨hlt, Pv (i + 1), fun σ' H' p' => ⟨n - (i + 1), by omega, rfl, hlt, p'⟩, fun x H' y => ?_⟩
    obtain ⟨e, y⟩ := y
    subst e y
    exact hs i σ _ hlt p
  · have e : i = n := by omega
    subst e
    exact .inl ⟨Nat.le_refl _, hd σ H p⟩
end L2
namespace L2
open PySem PySem.Spec PyProof.Rows
abbrev R2 := V → V → Hp → VK → Prop
def OpR (X : Cx) (f : Value → Value → Sem Value) (r : R2) : Prop :=
  ∀ (pins : List (Addr × Obj)) (s : Shared) (σ : St) (H : Hp) (x y : V) (v u : Value) (Q : VK), Inv X pins σ H s → RelV x v → RelV y u → r x y H Q →
    wpAny (model X.prog X.w) X.A (f v u) (EP X pins σ Q) X.xe s
def CallR (X : Cx) (f : Value) (r : List V → Hp → VK → Prop) : Prop :=
  ∀ (pins : List (Addr × Obj)) (s : Shared) (σ : St) (H : Hp) (xs : List V) (us : List Value) (Q : VK), Inv X pins σ H s → Vals xs us → r xs H Q →
    wpAny (model X.prog X.w) X.A (call f us) (EP X pins σ Q) X.xe s
def tOp (r : R2) (ta tb : TE) : TE := fun σ H Q => ta σ H fun x H1 => tb σ H1 fun y H2 => r x y H2 Q
def rI (C : Int → Int → Prop) (g : Int → Int → V) : R2 := fun x y H Q => ∃ i j, x = .int i ∧ y = .int j ∧ C i j ∧ Q (g i j) H
def rI0 (g : Int → Int → V) : R2 := fun x y H Q => ∃ i j, x = .int i ∧ y = .int j ∧ Q (g i j) H
section
variable {X : Cx} {a b c : Expr} {ta tb tc : TE} {pos : Pos}
theorem binT (ha : PE X a ta) (hb : PE X b tb) {pins : List (Addr × Obj)} {s : Shared} {σ : St} {H : Hp} {R : V → V → Hp → Prop} (I : Inv X pins σ H s)
    (h : ta σ H fun x H1 => tb σ H1 fun y H2 => R x y H2) {Q : Value → Shared → Prop} {f : Value → Value → Sem Value}
    (hf : ∀ v u s2 x y H2, Inv X pins σ H2 s2 → RelV x v → RelV y u → R x y H2 → wpAny (model X.prog X.w) X.A (f v u) Q X.xe s2) :
    wpAny (model X.prog X.w) X.A (eval a X.env) (fun v s₁ => wpAny (model X.prog X.w) X.A (eval b X.env) (fun u s₂ => wpAny (model X.prog X.w) X.A (f v u) Q X.xe s₂) X.xe s₁) X.xe s := by
  refine thn (ha pins s σ H _ I h) fun v s1 ⟨x, H1, I1, r1, q1⟩ => ?_
  refine thn (hb pins s1 σ H1 _ I1 q1) fun u s2 ⟨y, H2, I2, r2, q2⟩ => ?_
  exact hf v u s2 x y H2 I2 r1 r2 q2
theorem pe_op {op : Operator} {r : R2} (ho : OpR X (binaryOp op) r) (ha : PE X a ta) (hb : PE X b tb) : PE X (.BinOp a op b pos) (tOp r ta tb) := by
  intro pins s σ H Q I h
  exact wpAny_BinOp (binT ha hb I h fun v u s2 x y H2 I2 rx ry q => ho pins s2 σ H2 x y v u Q I2 rx ry q)
theorem opI {f : Value → Value → Sem Value} {C : Int → Int → Prop} {g : Int → Int → Int}
    (rule : ∀ (i j : Int) (t u : Tok) (s : Shared) (Q : Value → Shared → Prop) (E : Value → Shared → Prop), C i j → Q (.int (g i j) s.toks) { s with toks := s.toks + 1 } → wpAny (model X.prog X.w) X.A (f (.int i t) (.int j u)) Q E s) :
    OpR X f (rI C fun i j => .int (g i j)) := by
  intro pins s σ H x y v u Q I rx ry h
  obtain ⟨i, j, rfl, rfl, hc, q⟩ := h
  obtain ⟨t, rfl⟩ := rx
  obtain ⟨t', rfl⟩ := ry
  exact rule i j t t' s _ _ hc ⟨.int (g i j), H, I.tok _, ⟨_, rfl⟩, q⟩
theorem opI0 {f : Value → Value → Sem Value} {g : Int → Int → Int}
    (rule : ∀ (i j : Int) (t u : Tok) (s : Shared) (Q : Value → Shared → Prop) (E : Value → Shared → Prop), Q (.int (g i j) s.toks) { s with toks := s.toks + 1 } → wpAny (model X.prog X.w) X.A (f (.int i t) (.int j u)) Q E s) :
    OpR X f (rI0 fun i j => .int (g i j)) := by
  intro pins s σ H x y v u Q I rx ry h
  obtain ⟨i, j, rfl, rfl, q⟩ := h
  obtain ⟨t, rfl⟩ := rx
  obtain ⟨t', rfl⟩ := ry
  exact rule i j t t' s _ _ ⟨.int (g i j), H, I.tok _, ⟨_, rfl⟩, q⟩
theorem opB0 {f : Value → Value → Sem Value} {g : Int → Int → Bool}
    (rule : ∀ (i j : Int) (t u : Tok) (s : Shared) (Q : Value → Shared → Prop) (E : Value → Shared → Prop), Q (.bool (g i j)) s → wpAny (model X.prog X.w) X.A (f (.int i t) (.int j u)) Q E s) :
    OpR X f (rI0 fun i j => .bl (g i j)) := by
  intro pins s σ H x y v u Q I rx ry h
  obtain ⟨i, j, rfl, rfl, q⟩ := h
  obtain ⟨t, rfl⟩ := rx
  obtain ⟨t', rfl⟩ := ry
  exact rule i j t t' s _ _ ⟨.bl (g i j), H, I, rfl, q⟩
def CDiv (i j : Int) : Prop := 0 < j ∧ j < 1073741824
def CPow (i j : Int) : Prop := 0 ≤ j ∧ j ≤ 1000000 ∧ i.natAbs < 2 ^ 64
def CMul (i j : Int) : Prop := (-(2 ^ 64) < i ∧ i < 2 ^ 64) ∨ (-(2 ^ 64) < j ∧ j < 2 ^ 64)
theorem CMul.ok {i j : Int} (h : CMul i j) : IntMulOk i j := by
  rcases h with ⟨h1, h2⟩ | ⟨h1, h2⟩
  · exact .of_left (intBits_le_64 h1 h2)
  · exact .of_right (intBits_le_64 h1 h2)
theorem op_add : OpR X (binaryOp .Add) (rI0 fun i j => .int (i + j)) := opI0 fun _ _ _ _ _ _ _ q => add_int q
theorem op_sub : OpR X (binaryOp .Sub) (rI0 fun i j => .int (i - j)) := opI0 fun _ _ _ _ _ _ _ q => sub_int q
theorem op_mul : OpR X (binaryOp .Mult) (rI CMul fun i j => .int (i * j)) := opI fun _ _ _ _ _ _ _ hc q => mul_int q hc.ok
theorem op_fdiv : OpR X (binaryOp .FloorDiv) (rI CDiv fun i j => .int (i / j)) := opI fun i j _ _ _ _ _ hc q => by
  have h1 : (0 : Int) < j := hc.1
  have h2 : j < 1073741824 := hc.2
  exact floordiv_int (by omega) (by rw [Int.fdiv_eq_ediv_of_nonneg i (by omega)]; exact q) (.inl (PyProof.noPylong_small (by omega)))
theorem op_mod : OpR X (binaryOp .Mod) (rI (fun _ j => 0 < j) fun i j => .int (i % j)) := opI fun i j _ _ _ _ _ hc q => by
  have h1 : (0 : Int) < j := hc
  exact mod_int' (by omega) (by rw [Int.fmod_eq_emod_of_nonneg i (by omega)]; exact q)
theorem op_pow : OpR X (binaryOp .Pow) (rI CPow fun i j => .int (i ^ j.toNat)) := opI fun _ _ _ _ _ _ _ hc q => pow_int_small hc.1 hc.2.1 hc.2.2 q
end
def scal : V → V → Bool
  | .non, .non => true | .non, .int _ => true | .int _, .non => true | .non, .bl _ => true | .bl _, .non => true | .non, .str _ => true | .str _, .non => true
  | .int _, .int _ => true | .bl _, .bl _ => true | .str _, .str _ => true | .byt _, .byt _ => true
  | .int _, .str _ => true | .str _, .int _ => true | .bl _, .str _ => true | .str _, .bl _ => true
  | _, _ => false
def rEq : R2 := fun x y H Q => scal x y = true ∧ Q (.bl (decide (x = y))) H
def rNe : R2 := fun x y H Q => scal x y = true ∧ Q (.bl (!decide (x = y))) H
theorem dec_int {i j : Int} : decide (V.int i = V.int j) = (i == j) := by
  rw [Bool.eq_iff_iff]
  simp
theorem dec_bl {i j : Bool} : decide (V.bl i = V.bl j) = (i == j) := by
  rw [Bool.eq_iff_iff]
  simp
theorem dec_str {i j : Str} : decide (V.str i = V.str j) = (i == j) := by
  rw [Bool.eq_iff_iff]
  simp
theorem dec_byt {i j : Array UInt8} : decide (V.byt i = V.byt j) = (i.toList == j.toList) := by
  rw [Bool.eq_iff_iff]
  cases i
  cases j
  simp
section
variable {X : Cx} {a b c : Expr} {ta tb tc : TE} {pos : Pos}
theorem fin_bl {pins : List (Addr × Obj)} {σ : St} {H : Hp} {s : Shared} {Q : VK} {k k' : Bool} (I : Inv X pins σ H s) (q : Q (.bl k) H) (e : k = k') : EP X pins σ Q (.bool k') s := by
  subst e
  exact ⟨.bl k, H, I, rfl, q⟩
theorem op_eq : OpR X (compareOp .Eq) rEq := by
  intro pins s σ H x y v u Q I rx ry h
  obtain ⟨hs, q⟩ := h
  cases x with
  | non =>
    cases rx
    cases y with
    | non => cases ry; exact PySem.EqNone.eq_none_none (fin_bl I q (by simp))
    | bl j => cases ry; exact PySem.EqNone.eq_none_bool (fin_bl I q (by simp))
    | int j => obtain ⟨t', rfl⟩ := ry; exact PySem.EqNone.eq_none_int (fin_bl I q (by simp))
    | str j => obtain ⟨t', rfl⟩ := ry; exact PySem.EqNone.eq_none_str (fin_bl I q (by simp))
    | _ => exact absurd (show false = true from hs) Bool.false_ne_true
  | bl i =>
    cases rx
    cases y with
    | non => cases ry; exact PySem.EqNone.eq_bool_none (fin_bl I q (by simp))
    | bl j => cases ry; exact eq_bool (fin_bl I q dec_bl)
    | str j => obtain ⟨t', rfl⟩ := ry; exact PySem.EqMixed.eq_bool_str (fin_bl I q (by simp))
    | _ => exact absurd (show false = true from hs) Bool.false_ne_true
  | int i =>
    obtain ⟨t, rfl⟩ := rx
    cases y with
    | non => cases ry; exact PySem.EqNone.eq_int_none (fin_bl I q (by simp))
    | int j => obtain ⟨t', rfl⟩ := ry; exact eq_int (fin_bl I q dec_int)
    | str j => obtain ⟨t', rfl⟩ := ry; exact PySem.EqMixed.eq_int_str (fin_bl I q (by simp))
    | _ => exact absurd (show false = true from hs) Bool.false_ne_true
  | str i =>
    obtain ⟨t, rfl⟩ := rx
    cases y with
    | non => cases ry; exact PySem.EqNone.eq_str_none (fin_bl I q (by simp))
    | bl j => cases ry; exact PySem.EqMixed.eq_str_bool (fin_bl I q (by simp))
    | int j => obtain ⟨t', rfl⟩ := ry; exact PySem.EqMixed.eq_str_int (fin_bl I q (by simp))
    | str j => obtain ⟨t', rfl⟩ := ry; exact eq_str (fin_bl I q dec_str)
    | _ => exact absurd (show false = true from hs) Bool.false_ne_true
  | byt i =>
    obtain ⟨t, rfl⟩ := rx
    cases y with
    | byt j => obtain ⟨t', rfl⟩ := ry; exact PySem.W.eq_bytes (fin_bl I q dec_byt)
    | _ => exact absurd (show false = true from hs) Bool.false_ne_true
  | _ => cases y <;> exact absurd (show false = true from hs) Bool.false_ne_true
theorem op_ne : OpR X (compareOp .NotEq) rNe := by
  intro pins s σ H x y v u Q I rx ry h
  obtain ⟨hs, q⟩ := h
  cases x with
  | non =>
    cases rx
    cases y with
    | non => cases ry; exact PySem.EqNone.ne_none_none (fin_bl I q (by simp))
    | bl j => cases ry; exact PySem.EqNone.ne_none_bool (fin_bl I q (by simp))
    | int j => obtain ⟨t', rfl⟩ := ry; exact PySem.EqNone.ne_none_int (fin_bl I q (by simp))
    | str j => obtain ⟨t', rfl⟩ := ry; exact PySem.EqNone.ne_none_str (fin_bl I q (by simp))
    | _ => exact absurd (show false = true from hs) Bool.false_ne_true
  | bl i =>
    cases rx
    cases y with
    | non => cases ry; exact PySem.EqNone.ne_bool_none (fin_bl I q (by simp))
    | bl j => cases ry; exact ne_bool (fin_bl I q (congrArg not dec_bl))
    | str j => obtain ⟨t', rfl⟩ := ry; exact PySem.EqMixed.ne_bool_str (fin_bl I q (by simp))
    | _ => exact absurd (show false = true from hs) Bool.false_ne_true
  | int i =>
    obtain ⟨t, rfl⟩ := rx
    cases y with
    | non => cases ry; exact PySem.EqNone.ne_int_none (fin_bl I q (by simp))
    | int j => obtain ⟨t', rfl⟩ := ry; exact ne_int (fin_bl I q (congrArg not dec_int))
    | str j => obtain ⟨t', rfl⟩ := ry; exact PySem.EqMixed.ne_int_str (fin_bl I q (by simp))
    | _ => exact absurd (show false = true from hs) Bool.false_ne_true
  | str i =>
    obtain ⟨t, rfl⟩ := rx
    cases y with
    | non => cases ry; exact PySem.EqNone.ne_str_none (fin_bl I q (by simp))
    | bl j => cases ry; exact PySem.EqMixed.ne_str_bool (fin_bl I q (by simp))
    | int j => obtain ⟨t', rfl⟩ := ry; exact PySem.EqMixed.ne_str_int (fin_bl I q (by simp))
    | str j => obtain ⟨t', rfl⟩ := ry; exact ne_str (fin_bl I q (congrArg not dec_str))
    | _ => exact absurd (show false = true from hs) Bool.false_ne_true
  | byt i =>
    obtain ⟨t, rfl⟩ := rx
    cases y with
    | byt j => obtain ⟨t', rfl⟩ := ry; exact PySem.W.ne_bytes (fin_bl I q (congrArg not dec_byt))
    | _ => exact absurd (show false = true from hs) Bool.false_ne_true
  | _ => cases y <;> exact absurd (show false = true from hs) Bool.false_ne_true
theorem op_lt : OpR X (compareOp .Lt) (rI0 fun i j => .bl (decide (i < j))) := opB0 fun _ _ _ _ _ _ _ q => lt_int q
theorem op_le : OpR X (compareOp .LtE) (rI0 fun i j => .bl (decide (i ≤ j))) := opB0 fun _ _ _ _ _ _ _ q => le_int q
theorem op_gt : OpR X (compareOp .Gt) (rI0 fun i j => .bl (decide (j < i))) := opB0 fun _ _ _ _ _ _ _ q => gt_int q
theorem op_in_str : OpR X (compareOp .In) (fun x y H Q => ∃ i j, x = .str i ∧ y = .str j ∧ Q (.bl (!(Builtin.Str.occurrences j i 0 j.length 1).isEmpty)) H) := by
  intro pins s σ H x y v u Q I rx ry h
  obtain ⟨i, j, rfl, rfl, q⟩ := h
  obtain ⟨t, rfl⟩ := rx
  obtain ⟨t', rfl⟩ := ry
  exact in_str (fin_bl I q rfl)
theorem op_isN : OpR X (compareOp .Is) (fun x y H Q => y = .non ∧ Q (.bl (decide (x = .non))) H) := by
  intro pins s σ H x y v u Q I rx ry h
  obtain ⟨rfl, q⟩ := h
  cases ry
  refine is_none_gen (fin_bl I q ?_)
  cases x <;> first
    | (cases rx; rfl)
    | (obtain ⟨t, rfl⟩ := rx; rfl)
theorem OpR.or {f : Value → Value → Sem Value} {r r' : R2} (h : OpR X f r) (h' : OpR X f r') : OpR X f (fun x y H Q => r x y H Q ∨ r' x y H Q) := by
  intro pins s σ H x y v u Q I rx ry q
  rcases q with q | q
  · exact h pins s σ H x y v u Q I rx ry q
  · exact h' pins s σ H x y v u Q I rx ry q
theorem nomark (b : Expr) {op : CmpOp} (h : op ≠ .In := by decide) (h2 : op ≠ .NotIn := by decide) : behindInMarks op b = false := by
  have e1 : (op == CmpOp.In) = false := by cases op <;> first | rfl | exact absurd rfl h
  have e2 : (op == CmpOp.NotIn) = false := by cases op <;> first | rfl | exact absurd rfl h2
  cases b <;> simp [behindInMarks, e1, e2]
theorem pe_cmpR {op : CmpOp} {r : R2} (ho : OpR X (compareOp op) r) (ha : PE X a ta) (hb : PE X b tb) (hm : behindInMarks op b = false) : PE X (.Compare a [op] [b] pos) (tOp r ta tb) := by
  intro pins s σ H Q I h
  exact wpAny_Compare1 (binT ha hb I h fun v u s2 x y H2 I2 rx ry q => ho pins s2 σ H2 x y v u Q I2 rx ry q) hm
def tTest (t : TE) : TT := fun σ H Q => t σ H fun x H' => ∃ k, x = .bl k ∧ Q k H'
theorem pt_cmpR {op : CmpOp} {r : R2} (ho : OpR X (compareOp op) r) (ha : PE X a ta) (hb : PE X b tb) (hm : behindInMarks op b = false) : PT X (.Compare a [op] [b] pos) (tTest (tOp r ta tb)) := by
  intro pins s σ H Q I h
  refine wpAny_isTrue_Compare1 (thn (ha pins s σ H _ I h) fun v s1 ⟨x, H1, I1, r1, q1⟩ => thn (hb pins s1 σ H1 _ I1 q1) fun u s2 ⟨y, H2, I2, r2, q2⟩ =>
    thn (ho pins s2 σ H2 x y v u _ I2 r1 r2 q2) fun c s3 ⟨z, H3, I3, r3, k, e, q3⟩ => ?_) hm
  subst e
  cases r3
  exact wpAny_truthy_bool ⟨H3, I3, q3⟩
def tChain (r r' : R2) (ta tb tc : TE) : TE := fun σ H Q => ta σ H fun x H1 => tb σ H1 fun y H2 => r x y H2 fun z H3 => ∃ k, z = .bl k ∧
  (if k = true then tc σ H3 fun w' H4 => r' y w' H4 Q else Q (.bl false) H3)
theorem pe_chain {op op' : CmpOp} {r r' : R2} (ho : OpR X (compareOp op) r) (ho' : OpR X (compareOp op') r') (ha : PE X a ta) (hb : PE X b tb) (hc : PE X c tc)
    (hm : lastMarks [op, op'] [b, c] = false := by with_unfolding_all rfl) : PE X (.Compare a [op, op'] [b, c] pos) (tChain r r' ta tb tc) := by
  intro pins s σ H Q I h
  refine Compare_chain (thn (ha pins s σ H _ I h) fun v s1 ⟨x, H1, I1, r1, q1⟩ => chain_link (thn (hb pins s1 σ H1 _ I1 q1) fun u s2 ⟨y, H2, I2, r2, q2⟩ =>
    thn (ho pins s2 σ H2 x y v u _ I2 r1 r2 q2) fun d s3 ⟨z, H3, I3, r3, k, e, q3⟩ => ?_)) hm
  subst e
  cases r3
  refine wpAny_truthy_bool ?_
  cases k with
  | false => exact ite_ff ⟨.bl false, H3, I3, rfl, q3⟩
  | true => exact ite_tt (chain_last (thn (hc pins s3 σ H3 _ I3 q3) fun w' s4 ⟨z', H4, I4, r4, q4⟩ => ho' pins s4 σ H4 y z' u w' Q I4 r2 r4 q4))
theorem pt_chain {op op' : CmpOp} {r r' : R2} (ho : OpR X (compareOp op) r) (ho' : OpR X (compareOp op') r') (ha : PE X a ta) (hb : PE X b tb) (hc : PE X c tc)
    (hm : lastMarks [op, op'] [b, c] = false := by with_unfolding_all rfl) : PT X (.Compare a [op, op'] [b, c] pos) (tTest (tChain r r' ta tb tc)) := by
  intro pins s σ H Q I h
  refine isTrue_chain (thn (ha pins s σ H _ I h) fun v s1 ⟨x, H1, I1, r1, q1⟩ => test_link (thn (hb pins s1 σ H1 _ I1 q1) fun u s2 ⟨y, H2, I2, r2, q2⟩ =>
    thn (ho pins s2 σ H2 x y v u _ I2 r1 r2 q2) fun d s3 ⟨z, H3, I3, r3, k, e, q3⟩ => ?_)) hm
  subst e
  cases r3
  refine wpAny_truthy_bool ?_
  cases k with
  | false =>
    obtain ⟨k', e', q'⟩ := q3
    cases e'
    exact ite_ff ⟨H3, I3, q'⟩
  | true =>
    refine ite_tt (test_last (thn (hc pins s3 σ H3 _ I3 q3) fun w' s4 ⟨z', H4, I4, r4, q4⟩ => thn (ho' pins s4 σ H4 y z' u w' _ I4 r2 r4 q4) fun d' s5 ⟨z2, H5, I5, r5, k2, e2, q5⟩ => ?_))
    subst e2
    cases r5
    exact wpAny_truthy_bool ⟨H5, I5, q5⟩
theorem line63 : (sizeLine : Nat) < 2 ^ 63 := by rw [sizeLine_eq]; decide
theorem op_add_str : OpR X (binaryOp .Add) (fun x y H Q => ∃ i j, x = .str i ∧ y = .str j ∧ i.length + j.length ≤ sizeLine ∧ Q (.str (i ++ j)) H) := by
  intro pins s σ H x y v u Q I rx ry h
  obtain ⟨i, j, rfl, rfl, hz, q⟩ := h
  obtain ⟨t, rfl⟩ := rx
  obtain ⟨t', rfl⟩ := ry
  exact add_str (fun t' tk => ⟨.str (i ++ j), H, I.tok _, ⟨_, rfl⟩, q⟩) hz
theorem vals1 {x : V} {us : List Value} (r : Vals [x] us) : ∃ u, us = [u] ∧ RelV x u := by
  cases r with
  | cons r1 r2 => cases r2; exact ⟨_, rfl, r1⟩
theorem vals2 {x y : V} {us : List Value} (r : Vals [x, y] us) : ∃ u w', us = [u, w'] ∧ RelV x u ∧ RelV y w' := by
  cases r with
  | cons r1 r2 =>
    cases r2 with
    | cons r3 r4 => cases r4; exact ⟨_, _, rfl, r1, r3⟩
theorem call_max2 (hc : X.calm = true) : CallR X (.builtin "max") (fun xs H Q => ∃ i j, xs = [.int i, .int j] ∧ Q (.int (if j > i then j else i)) H) := by
  intro pins s σ H xs us Q I r h
  obtain ⟨i, j, rfl, q⟩ := h
  obtain ⟨u, w', rfl, ⟨t, rfl⟩, ⟨t', rfl⟩⟩ := vals2 r
  refine max_two_ints (I.ok.hd hc) fun h' tk k => ⟨_, H, I.kept k, ?_, q⟩
  by_cases hj : j > i
  · rw [if_pos hj, if_pos hj]; exact ⟨_, rfl⟩
  · rw [if_neg hj, if_neg hj]; exact ⟨_, rfl⟩
theorem call_min2 (hc : X.calm = true) : CallR X (.builtin "min") (fun xs H Q => ∃ i j, xs = [.int i, .int j] ∧ Q (.int (if j < i then j else i)) H) := by
  intro pins s σ H xs us Q I r h
  obtain ⟨i, j, rfl, q⟩ := h
  obtain ⟨u, w', rfl, ⟨t, rfl⟩, ⟨t', rfl⟩⟩ := vals2 r
  refine min_two_ints (I.ok.hd hc) fun h' tk k => ⟨_, H, I.kept k, ?_, q⟩
  by_cases hj : j < i
  · rw [if_pos hj, if_pos hj]; exact ⟨_, rfl⟩
  · rw [if_neg hj, if_neg hj]; exact ⟨_, rfl⟩
theorem call_int1 : CallR X (.type "int") (fun xs H Q => (∃ i, xs = [.int i] ∧ Q (.int i) H) ∨ ∃ k, xs = [.bl k] ∧ Q (.int (if k then 1 else 0)) H) := by
  intro pins s σ H xs us Q I r h
  rcases h with ⟨i, rfl, q⟩ | ⟨k, rfl, q⟩
  · obtain ⟨u, rfl, t, rfl⟩ := vals1 r
    exact call_int_int ⟨.int i, H, I, ⟨_, rfl⟩, q⟩
  · obtain ⟨u, rfl, r1⟩ := vals1 r
    cases r1
    exact call_int_bool ⟨.int (if k then 1 else 0), H, I.tok _, ⟨_, rfl⟩, q⟩
theorem call_str_int : CallR X (.type "str") (fun xs H Q => ∃ i, xs = [.int i] ∧ i.natAbs.log2 < 1920 ∧ Q (.str (toString i)) H) := by
  intro pins s σ H xs us Q I r h
  obtain ⟨i, rfl, hz, q⟩ := h
  obtain ⟨u, rfl, t, rfl⟩ := vals1 r
  exact PySem.P.str_of_int hz ⟨.str _, H, I.tok _, ⟨_, rfl⟩, q⟩
end
end L2
namespace L2
open PySem PySem.Spec PyProof.Rows
structure ObjM (h : Heap) (x dx C : Addr) (mA : Str → Option Value) : Prop where
  obj : h.get? x = some (PySem.W.instObj C dx)
  ns : h.Ns1 dx mA
  ne : dx ≠ x
theorem lookIn_ns {h : Heap} {dx : Addr} {mA : Str → Option Value} (n : h.Ns1 dx mA) : ∃ od, h.get? dx = some od ∧ ∀ name, PySem.W.lookIn name od = some (mA name) := by
  obtain ⟨o, es, ep, ho, hd, hk, _, hm⟩ := n
  refine ⟨o, ho, fun name => ?_⟩
  have e := hm name
  unfold nsFind findBy at e
  rw [← Array.find?_toList] at e
  unfold PySem.W.lookIn
  rw [hd]
  dsimp only
  split
  · rename_i y q
    rw [q] at e
    exact congrArg some e
  · rename_i q
    rw [q] at e
    have a : es.toList.any (·.refKey) = false := by
      rw [List.any_eq_false]
      intro y hy
      obtain ⟨z, t, hkey⟩ := hk y (Array.mem_toList_iff.mp hy)
      simp [DictEntry.refKey, hkey]
    have a' : ¬ es.toList.any (·.refKey) = true := by rw [a]; exact Bool.false_ne_true
    rw [if_neg a']
    exact congrArg some e
theorem ObjM.look {h : Heap} {x dx C : Addr} {mA : Str → Option Value} (I : ObjM h x dx C mA) : ∃ od, PySem.W.InstAt h x (PySem.W.instObj C dx) C (some od) ∧ ∀ name, PySem.W.lookIn name od = some (mA name) :=
  let ⟨od, ho, hl⟩ := lookIn_ns I.ns
  ⟨od, ⟨I.obj, rfl, rfl, ho⟩, hl⟩
section
variable {prog : Program} {w : World} {A : Around} {E : Value → Shared → Prop} {s : Shared} {K : PySem.W.Frag} {x dx C f : Addr} {mA : Str → Option Value} {name : Str} {v : Value}
theorem get_map {expr : Bool} {Q : Value → Shared → Prop} (X : K.In s.heap) (I : ObjM s.heap x dx C mA) (hg : PySem.W.plainGet K C name = true) (hh : PySem.W.hasDictIn K C = true)
    (ha : PySem.W.findIn K (.ref C) name = some none) (hv : mA name = some v) (hv' : PySem.W.handedIn v = true) (h : Q v { s with toks := s.toks + 1 }) :
    wpAny (model prog w) A (getAttr (.ref x) name expr) Q E s := by
  obtain ⟨od, J, hl⟩ := I.look
  exact PySem.W.get_value X J (PySem.W.plainGet_of hg).1 (PySem.W.findObj_own hh ha rfl (by rw [hl, hv])) hv' h
theorem get_meth {pl : Sem Bool} {Q : Value × List Value → Shared → Prop} (X : K.In s.heap) (I : ObjM s.heap x dx C mA) (hg : PySem.W.plainGet K C name = true)
    (hf : PySem.W.findIn K (.ref C) name = some (some (.ref f))) (ht : PySem.W.isFn K (.ref f) = true) (hv : mA name = none) (h : Q (.ref f, [.ref x]) s) :
    wpAny (model prog w) A (getMethod (.ref x) name pl) Q E s := by
  obtain ⟨od, J, hl⟩ := I.look
  exact PySem.W.method_fn X J (PySem.W.plainGet_of hg).1 (PySem.W.plainGet_of hg).2 hf (beq_iff_eq.mp ht) (by show (PySem.W.lookIn name od).map (·.isSome) = some false; rw [hl, hv]; rfl) h
theorem set_map {ns : List Str} {Q : Unit → Shared → Prop} (X : K.In s.heap) (I : ObjM s.heap x dx C mA)
    (hs : PySem.W.findIn K (.ref C) "__setattr__" = some (some (.builtin "object.__setattr__"))) (hp : PySem.W.plainOver K C = true) (ht : PySem.W.takerIn K C name = some none) (hh : PySem.W.hasDictIn K C = true)
    (hw : PySem.Within mA ns) (hsz : ns.length ≤ sizeLine)
    (h : ∀ h', ObjM h' x dx C (fun y => if y = name then some v else mA y) → Heap.SameBut dx s.heap h' → Q () { s with heap := h', toks := s.toks + 2 }) :
    wpAny (model prog w) A (setAttr (.ref x) name v) Q E s := by
  obtain ⟨od, J, hl⟩ := I.look
  refine PySem.W.set_plain X J hs (PySem.W.osa_open (s := { s with toks := s.toks + 1 }) (r := none) X J hp ht fun b => ?_)
  obtain ⟨cd, hc, hd'⟩ := PySem.W.any_some hh
  have hx : s.heap.get? x = some ⟨.ref C, some dx, .plain, #[]⟩ := I.obj
  refine wpAny_bind (wpAny_pure (wpAny_bind (wpAny_bind (wpAny_loadPart hx (wpAny_bind (PySem.W.Looks.here (s := { s with toks := s.toks + 1 }) (PySem.W.looks_clsIn X hc) ?_))))))
  rw [hd']
  refine wpAny_pure (a := some dx) (wpAny_bind (wpAny_pure (wpAny_bind ?_)))
  refine wpAny_nsSet1 (s := { s with toks := s.toks + 1 }) I.ns fun h' hn2 hs2 => ?_
  obtain ⟨oD, esD, epD, hoD, hdD, hcD⟩ := hn2.count (PySem.Within.cons name v hw)
  refine wpAny_bind (wpAny_lookBehind hoD (by rw [hdD]; exact pastItsLine_dict (Nat.le_trans hcD (by rw [List.length_cons]; omega))) ?_)
  exact wpAny_pure (h _ ⟨(hs2.2 _ (Ne.symm I.ne)).trans I.obj, hn2, I.ne⟩ hs2)
theorem make_map {R : Result → Shared → Prop} {vs : List Value} {kw : List (Str × Value)} (X : K.In s.heap) (hm : PySem.W.makesIn K C = true)
    (hi : PySem.W.findIn K (.ref C) "__init__" = some (some (.ref f))) (hf : PySem.W.typeIn K (.ref f) = some (.type "function"))
    (h : codeAny (model prog w) (A.under (.builtin "type.__call__" ⟨.ref C :: vs, kw⟩)) (.call (.ref f) ⟨.ref (s.heap.objs.size + 1) :: vs, kw⟩) (PySem.W.InitBack (s.heap.objs.size + 1) R)
      { s with heap := (s.heap.push PySem.W.emptyDict).push (PySem.W.instObj C s.heap.objs.size) }) :
    codeAny (model prog w) A (.call (.ref C) ⟨vs, kw⟩) R s := by
  obtain ⟨hh, g, d, t, os⟩ := s
  exact PySem.W.make_core (PySem.W.makes_of X hm) (PySem.W.looks_findIn X hi) (fun self => PySem.W.bind_fn X self hf) (.inl rfl) h
end
def putF (f : Str) (v : V) : List (Str × V) → List (Str × V)
  | [] => [(f, v)]
  | (g, x) :: r => if g = f then (g, v) :: r else (g, x) :: putF f v r
theorem lookup_putF (f g : Str) (v : V) : ∀ fs : List (Str × V), (putF f v fs).lookup g = if g = f then some v else fs.lookup g
  | [] => by
    show List.lookup g [(f, v)] = _
    by_cases h : g = f
    · have hb : (g == f) = true := beq_iff_eq.mpr h
      simp only [List.lookup, hb, if_pos h]
    · have hb : (g == f) = false := beq_eq_false_iff_ne.mpr h
      simp only [List.lookup, hb, if_neg h]
  | (k, x) :: r => by
    have ih := lookup_putF f g v r
    rw [show putF f v ((k, x) :: r) = (if k = f then (k, v) :: r else (k, x) :: putF f v r) from rfl]
    by_cases hk : k = f
    · rw [if_pos hk]
      by_cases h : g = k
      · have hb : (g == k) = true := beq_iff_eq.mpr h
        simp only [List.lookup, hb, if_pos (h.trans hk)]
      · have hb : (g == k) = false := beq_eq_false_iff_ne.mpr h
        simp only [List.lookup, hb, if_neg (fun e : g = f => h (e.trans hk.symm))]
    · rw [if_neg hk]
      by_cases h : g = k
      · have hb : (g == k) = true := beq_iff_eq.mpr h
        simp only [List.lookup, hb, if_neg (fun e : g = f => hk (h.symm.trans e))]
      · have hb : (g == k) = false := beq_eq_false_iff_ne.mpr h
        simp only [List.lookup, hb]
        exact ih
theorem keys_putF (f : Str) (v : V) : ∀ fs : List (Str × V), f ∈ (putF f v fs).map (·.1) ∧ ∀ g, g ∈ fs.map (·.1) → g ∈ (putF f v fs).map (·.1)
  | [] => ⟨by simp [putF], fun g h => by simp at h⟩
  | (k, x) :: r => by
    obtain ⟨i1, i2⟩ := keys_putF f v r
    rw [show putF f v ((k, x) :: r) = (if k = f then (k, v) :: r else (k, x) :: putF f v r) from rfl]
    by_cases hk : k = f
    · rw [if_pos hk]
      subst hk
      exact ⟨by simp, fun g h => by simpa using h⟩
    · rw [if_neg hk]
      refine ⟨?_, fun g h => ?_⟩
      · rw [List.map_cons]
        exact List.mem_cons_of_mem _ i1
      · rw [List.map_cons] at h ⊢
        rcases List.mem_cons.mp h with e | e
        · exact List.mem_cons.mpr (.inl e)
        · exact List.mem_cons_of_mem _ (i2 g e)
theorem length_putF (f : Str) (v : V) : ∀ fs : List (Str × V), (putF f v fs).length ≤ fs.length + 1
  | [] => by simp [putF]
  | (k, x) :: r => by
    have ih := length_putF f v r
    rw [show putF f v ((k, x) :: r) = (if k = f then (k, v) :: r else (k, x) :: putF f v r) from rfl]
    by_cases hk : k = f
    · rw [if_pos hk, List.length_cons, List.length_cons]; omega
    · rw [if_neg hk, List.length_cons, List.length_cons]; omega
theorem RelO.some_of {v : V} {o : Option Value} (r : RelO (some v) o) : ∃ u, o = some u ∧ RelV v u := by
  cases o with
  | none => exact (show False from r).elim
  | some u => exact ⟨u, rfl, r⟩
theorem RelO.none_of {o : Option Value} (r : RelO none o) : o = none := by
  cases o with
  | none => rfl
  | some u => exact (show False from r).elim
theorem handed_of {v : V} {u : Value} (r : RelV v u) : PySem.W.handedIn u = true := by
  cases v with
  | non => cases (show u = Value.none from r); rfl
  | bl b => cases (show u = Value.bool b from r); rfl
  | int i => obtain ⟨t, e⟩ := (show ∃ t, u = Value.int i t from r); cases e; rfl
  | str x => obtain ⟨t, e⟩ := (show ∃ t, u = Value.str x t from r); cases e; rfl
  | byt b => obtain ⟨t, e⟩ := (show ∃ t, u = Value.bytes b t from r); cases e; rfl
  | flt b => obtain ⟨t, e⟩ := (show ∃ t, u = Value.float b t from r); cases e; rfl
  | ref a => cases (show u = Value.ref a from r); rfl
  | ty n => cases (show u = Value.type n from r); rfl
section
variable {P : Program} {w : World} {H H' : Hp} {h h' : Heap} {a C dx : Addr} {fs fs' : List (Str × V)}
theorem ins_get (hok : HOk P w H h) (e : H a = some (.ins C dx fs)) : ∃ mA, ObjM h a dx C mA ∧ (∀ f, RelO (fs.lookup f) (mA f)) ∧ PySem.Within mA (fs.map (·.1)) ∧ fs.length ≤ 1000 ∧ H dx = some (.own a) := by
  obtain ⟨d, z, ne, ob, mA, n, r, q⟩ := (show ObjOk P w H h a (.ins C dx fs) from hok a _ e)
  exact ⟨mA, ⟨ob, n, ne⟩, r, q, z, d⟩
end
structure Cls (K : PySem.W.Frag) (C : Addr) : Prop where
  pg : PySem.W.plainGet K C Str.empty = true
  hd : PySem.W.hasDictIn K C = true
  po : PySem.W.plainOver K C = true
  sa : PySem.W.findIn K (.ref C) "__setattr__" = some (some (.builtin "object.__setattr__"))
theorem Cls.get {K : PySem.W.Frag} {C : Addr} (c : Cls K C) (f : Str) : PySem.W.plainGet K C f = true := c.pg
def NoAttr (K : PySem.W.Frag) (C : Addr) (f : Str) : Prop := PySem.W.findIn K (.ref C) f = some none
theorem NoAttr.taker {K : PySem.W.Frag} {C : Addr} {f : Str} (n : NoAttr K C f) : PySem.W.takerIn K C f = some none := by
  unfold PySem.W.takerIn
  rw [show PySem.W.findIn K (.ref C) f = some none from n]
  rfl
structure Con (K : PySem.W.Frag) (C : Addr) (f : Str) (v : V) (u : Value) : Prop where
  at_ : PySem.W.findIn K (.ref C) f = some (some u)
  rel : RelV v u
  get : PySem.W.specialIn K u "__get__" = some none
  cp : PySem.W.copiedNames.contains f = false
structure Meth (K : PySem.W.Frag) (C : Addr) (m : Str) (f : Addr) : Prop where
  at_ : PySem.W.findIn K (.ref C) m = some (some (.ref f))
  fn : PySem.W.isFn K (.ref f) = true
  kp : PySem.W.keepIn K (.ref f) = true
section
variable {X : Cx} {pins : List (Addr × Obj)} {σ : St} {H : Hp} {s : Shared} {a C dx : Addr} {fs : List (Str × V)} {f : Str} {v : V} {A : Around} {E : Value → Shared → Prop}
theorem getattr_ok {b : Bool} {Q : Value → Shared → Prop} (I : Inv X pins σ H s) (e : H a = some (.ins C dx fs)) (c : Cls X.K C) (n : NoAttr X.K C f) (l : fs.lookup f = some v)
    (h : ∀ u s', Inv X pins σ H s' → RelV v u → Q u s') : wpAny (model X.prog X.w) A (getAttr (.ref a) f b) Q E s := by
  obtain ⟨mA, O, r, _, _, _⟩ := ins_get I.hok e
  obtain ⟨u, hu, ru⟩ := RelO.some_of (v := v) (o := mA f) (by rw [← l]; exact r f)
  exact get_map I.kIn O (c.get f) c.hd n hu (handed_of ru) (h u _ (I.tok _) ru)
theorem getmeth_ok {m : Str} {g : Addr} {pl : Sem Bool} {Q : Value × List Value → Shared → Prop} (I : Inv X pins σ H s) (e : H a = some (.ins C dx fs)) (c : Cls X.K C) (k : Meth X.K C m g) (l : fs.lookup m = none)
    (h : Q (.ref g, [.ref a]) s) : wpAny (model X.prog X.w) A (getMethod (.ref a) m pl) Q E s := by
  obtain ⟨mA, O, r, _, _, _⟩ := ins_get I.hok e
  have hn : mA m = none := RelO.none_of (by rw [← l]; exact r m)
  exact get_meth I.kIn O (c.get m) k.at_ k.fn hn h
theorem setattr_ok {y : V} {u : Value} {Q : Unit → Shared → Prop} (I : Inv X pins σ H s) (e : H a = some (.ins C dx fs)) (c : Cls X.K C) (n : NoAttr X.K C f) (hl : fs.length < 1000) (ry : RelV y u)
    (h : ∀ s', Inv X pins σ (upd H a (.ins C dx (putF f y fs))) s' → Q () s') : wpAny (model X.prog X.w) A (setAttr (.ref a) f u) Q E s := by
  obtain ⟨mA, O, r, wi, _, ho⟩ := ins_get I.hok e
  have hz : (fs.map (·.1)).length ≤ sizeLine := by rw [List.length_map, sizeLine_eq]; omega
  refine set_map I.kIn O c.sa c.po n.taker c.hd wi hz fun h' O' sb => h _ ?_
  have hd : ∃ o, h'.get? dx = some o := let ⟨o, _, _, e', _⟩ := O'.ns; ⟨o, e'⟩
  refine I.write (x := a) (e := dx) (by rw [e]; exact True.intro) (.inr ho) (fun b q hb z => (sb.2 b hb).trans z) hd ?_
  refine ⟨by rw [upd_ne O.ne]; exact ho, ?_, O.ne, O'.obj, _, O'.ns, fun g => ?_, fun g hg => ?_⟩
  · have := length_putF f y fs; omega
  · show RelO ((putF f y fs).lookup g) (if g = f then some u else mA g)
    rw [lookup_putF]
    by_cases q : g = f
    · rw [if_pos q, if_pos q]; exact ry
    · rw [if_neg q, if_neg q]; exact r g
  · by_cases q : g = f
    · rw [q]; exact (keys_putF f y fs).1
    · refine (keys_putF f y fs).2 g (wi g fun z => hg ?_)
      show (if g = f then some u else mA g) = none
      rw [if_neg q]; exact z
theorem Inv.made (I : Inv X pins σ H s) : Inv X pins σ (upd (upd H s.heap.objs.size (.own (s.heap.objs.size + 1))) (s.heap.objs.size + 1) (.ins C s.heap.objs.size []))
    { s with heap := (s.heap.push PySem.W.emptyDict).push (PySem.W.instObj C s.heap.objs.size) } := by
  have e1 : (s.heap.push PySem.W.emptyDict).get? s.heap.objs.size = some PySem.W.emptyDict := Heap.get?_push_size s.heap rfl
  have e2 : ((s.heap.push PySem.W.emptyDict).push (PySem.W.instObj C s.heap.objs.size)).get? (s.heap.objs.size + 1) = some (PySem.W.instObj C s.heap.objs.size) := by
    have := Heap.get?_push_size (s.heap.push PySem.W.emptyDict) (o := PySem.W.instObj C s.heap.objs.size) rfl
    rwa [Heap.size_push] at this
  have e3 : (s.heap.push PySem.W.emptyDict).Ns s.heap.objs.size (fun _ => none) := ⟨PySem.W.emptyDict, #[], _, e1, rfl, (fun e he => absurd he (by simp)), fun _ => rfl⟩
  have I1 := I.laid (a := s.heap.objs.size) (o := .own (s.heap.objs.size + 1)) (h' := s.heap.push PySem.W.emptyDict) (t' := s.toks) (fun b u q => Heap.get?_push_of_some _ q) (Nat.le_refl _) ⟨_, e1⟩
  refine I1.laid (a := s.heap.objs.size + 1) (o := .ins C s.heap.objs.size []) (t' := s.toks) (fun b u q => Heap.get?_push_of_some _ q) (Nat.le_of_eq (Heap.size_push _ _)) ?_
  have ne : s.heap.objs.size ≠ s.heap.objs.size + 1 := Nat.ne_of_lt (Nat.lt_succ_self _)
  refine ⟨by rw [upd_ne ne, upd_same], Nat.zero_le _, ne, e2, fun _ => none, (Heap.Ns1.of_empty e3).at fun o q => Heap.get?_push_of_some _ q, fun _ => True.intro, fun y hy => absurd rfl hy⟩
theorem attr_of {prog : Program} {w : World} {env : Env} {e : Expr} {f : Str} {pos : Pos} {s : Shared} {Q : Value → Shared → Prop} (hb : attributeBase e f env (eval e env) = eval e env)
    (h : wpAny (model prog w) A (eval e env) (fun o s₁ => wpAny (model prog w) A (getAttr o f true) Q E s₁) E s) : wpAny (model prog w) A (eval (.Attribute e f pos) env) Q E s :=
  Attribute_any_ h (by rw [arm_eval_Attribute, hb])
end
def tFld (K : PySem.W.Frag) (ta : TE) (f : Str) : TE := fun σ H Q => ta σ H fun x H1 => ∃ a C dx fs v, x = .ref a ∧ H1 a = some (.ins C dx fs) ∧ Cls K C ∧ NoAttr K C f ∧ fs.lookup f = some v ∧ Q v H1
def sFld (K : PySem.W.Frag) (ta tv : TE) (f : Str) : TS := fun D σ H => tv σ H fun y H1 => ta σ H1 fun x H2 => ∃ a C dx fs, x = .ref a ∧ H2 a = some (.ins C dx fs) ∧ Cls K C ∧ NoAttr K C f ∧ fs.length < 1000 ∧
  D.nx σ (upd H2 a (.ins C dx (putF f y fs)))
def InOp (X : Cx) (op : Operator) (rd : V → V → Hp → VK → Prop) : Prop :=
  ∀ (pins : List (Addr × Obj)) (s : Shared) (σ : St) (H : Hp) (x y : V) (u v : Value) (Q : VK), Inv X pins σ H s → RelV x u → RelV y v → rd x y H Q → wpAny (model X.prog X.w) X.A (inplaceOp op u v) (EP X pins σ Q) X.xe s
def sFldAug (K : PySem.W.Frag) (ta tv : TE) (rd : V → V → Hp → VK → Prop) (f : Str) : TS := fun D σ H => ta σ H fun x H1 => ∃ a C dx fs v, x = .ref a ∧ H1 a = some (.ins C dx fs) ∧ Cls K C ∧ NoAttr K C f ∧ fs.lookup f = some v ∧
  tv σ H1 fun y H2 => rd v y H2 fun z H3 => ∃ dx' fs', H3 a = some (.ins C dx' fs') ∧ fs'.length < 1000 ∧ D.nx σ (upd H3 a (.ins C dx' (putF f z fs')))
section
variable {X : Cx} {o e value : Expr} {f : Str} {pos pos' tpos : Pos} {ta tv : TE}
theorem pe_fld (he : PE X e ta) (hb : attributeBase e f X.env (eval e X.env) = eval e X.env) : PE X (.Attribute e f pos) (tFld X.K ta f) := by
  intro pins s σ H Q I h
  refine attr_of hb (thn (he pins s σ H _ I h) fun u s1 ⟨x, H1, I1, rx, a, C, dx, fs, v, ex, ea, c, n, l, q⟩ => ?_)
  subst ex
  obtain rfl : u = Value.ref a := rx
  exact getattr_ok I1 ea c n l fun u' s2 I2 ru => ⟨v, H1, I2, ru, q⟩
theorem ps_fld (ha : PE X o ta) (hv : PE X value tv) (hs : swapsWith value (some (.Attribute o f pos')) pos.line X.env = pure false) : PS X (.Assign [.Attribute o f pos'] value pos) (sFld X.K ta tv f) := by
  intro pins s σ H D I h
  refine plainObj_wpAny_Assign_Attribute (thn (hv pins s σ H _ I h) fun u s1 ⟨y, H1, I1, ry, q⟩ => thn (ha pins s1 σ H1 _ I1 q) fun ov s2 ⟨x, H2, I2, rx, a, C, dx, fs, ex, ea, c, n, l, q2⟩ => ?_) hs
  subst ex
  obtain rfl : ov = Value.ref a := rx
  exact setattr_ok I2 ea c n l ry fun s3 I3 => ⟨σ, _, I3, q2⟩
theorem ps_fldaug {op : Operator} {rd : V → V → Hp → VK → Prop} (ha : PE X o ta) (hv : PE X value tv) (hop : InOp X op rd) : PS X (.AugAssign (.Attribute o f tpos) op value pos) (sFldAug X.K ta tv rd f) := by
  intro pins s σ H D I h
  refine wpAny_AugAssign_AttributeAny (thn (ha pins s σ H _ I h) fun ov s1 ⟨x, H1, I1, rx, a, C, dx, fs, v, ex, ea, c, n, l, q⟩ => ?_)
  subst ex
  obtain rfl : ov = Value.ref a := rx
  refine getattr_ok I1 ea c n l fun u s2 I2 ru => thn (hv pins s2 σ H1 _ I2 q) fun w3 s3 ⟨y, H2, I3, ry, q3⟩ => thn (hop pins s3 σ H2 v y u w3 _ I3 ru ry q3) fun w4 s4 ⟨z, H3, I4, rz, dx', fs', ea', l', q4⟩ => ?_
  exact setattr_ok I4 ea' c n l' rz fun s5 I5 => ⟨σ, _, I5, q4⟩
def rAdd : V → V → Hp → VK → Prop := fun x y H Q => ∃ i j, x = .int i ∧ y = .int j ∧ Q (.int (i + j)) H
theorem in_add : InOp X .Add rAdd := by
  rintro pins s σ H x y u v Q I rx ry ⟨i, j, rfl, rfl, q⟩
  obtain ⟨t, rfl⟩ := (show ∃ t, u = Value.int i t from rx)
  obtain ⟨t', rfl⟩ := (show ∃ t', v = Value.int j t' from ry)
  exact PyProof.Rows.iadd_int ⟨.int (i + j), H, I.tok _, ⟨_, rfl⟩, q⟩
end
section
variable {X : Cx} {pins : List (Addr × Obj)} {σ : St} {H : Hp} {s : Shared} {A : Around} {E : Value → Shared → Prop} {Q : Value → Shared → Prop} {c : Value} {b : Bool}
inductive TyOf (K : PySem.W.Frag) (H : Hp) : V → Value → Prop where
  | non : TyOf K H .non (.type "NoneType")
  | bl (x : Bool) : TyOf K H (.bl x) (.type "bool")
  | int (i : Int) : TyOf K H (.int i) (.type "int")
  | str (x : Str) : TyOf K H (.str x) (.type "str")
  | flt (x : UInt64) : TyOf K H (.flt x) (.type "float")
  | lst {a : Addr} {xs : List V} (e : H a = some (.lst xs)) : TyOf K H (.ref a) (.type "list")
  | frz {a : Addr} {o : Obj} {xs : List V} (e : H a = some (.frz o (.lst xs))) : TyOf K H (.ref a) (.type "list")
  | tup {a : Addr} {xs : List V} (e : H a = some (.tup xs)) : TyOf K H (.ref a) (.type "tuple")
  | dK {a : Addr} {kvs : List (Key × V)} (e : H a = some (.dK kvs)) : TyOf K H (.ref a) (.type "dict")
  | dT {a : Addr} {kvs : List (List Key × V)} (e : H a = some (.dT kvs)) : TyOf K H (.ref a) (.type "dict")
  | ins {a C dx : Addr} {fs : List (Str × V)} (e : H a = some (.ins C dx fs)) (cl : Cls K C) (ha : PySem.W.findIn K (.ref C) "__class__" = some (some (.builtin "object.__class__")))
      (hn : PySem.W.specialIn K (.builtin "object.__class__") "__get__" = some (some (.builtin "getset_descriptor.__get__"))) (htk : PySem.W.takesIn K (.builtin "object.__class__") = some true)
      (hm : PySem.W.mroIn K C (.type "object") = some true) : TyOf K H (.ref a) (.ref C)
theorem isinst_ok {x : V} {u t : Value} (I : Inv X pins σ H s) (rx : RelV x u) (ty : TyOf X.K H x t) (e : PySem.W.kitOne X.K t c = some b) (h : ∀ tk, Q (.bool b) { s with toks := tk }) :
    wpAny (model X.prog X.w) A (call (.builtin "isinstance") [u, c]) Q E s := by
  cases ty with
  | non => cases (show u = Value.none from rx); exact PySem.W.kia_one PySem.W.kitx_none I.kIn True.intro e (fun z => nomatch z) h
  | bl y => cases (show u = Value.bool y from rx); exact PySem.W.kia_one PySem.W.kitx_bool I.kIn True.intro e (fun z => nomatch z) h
  | int i => obtain ⟨t, q⟩ := (show ∃ t, u = Value.int i t from rx); cases q; exact PySem.W.kia_one PySem.W.kitx_int I.kIn True.intro e (fun z => nomatch z) h
  | str y => obtain ⟨t, q⟩ := (show ∃ t, u = Value.str y t from rx); cases q; exact PySem.W.kia_one PySem.W.kitx_str I.kIn True.intro e (fun z => nomatch z) h
  | flt y => obtain ⟨t, q⟩ := (show ∃ t, u = Value.float y t from rx); cases q; exact PySem.W.kia_one PySem.W.kitx_float I.kIn True.intro e (fun z => nomatch z) h
  | @lst a xs ea =>
    cases (show u = Value.ref a from rx)
    obtain ⟨_, _, n, _, h1⟩ := (show ObjOk X.prog X.w H s.heap a (.lst xs) from I.hok a _ ea)
    exact PySem.W.kia_one PySem.W.kitx_list I.kIn ⟨_, h1, rfl⟩ e (fun z => nomatch z) h
  | @frz a ob xs ea =>
    cases (show u = Value.ref a from rx)
    obtain ⟨_, _, _, n, _, h1⟩ := (show ObjOk X.prog X.w H s.heap a (.frz ob (.lst xs)) from I.hok a _ ea)
    exact PySem.W.kia_one PySem.W.kitx_list I.kIn ⟨_, h1, rfl⟩ e (fun z => nomatch z) h
  | @tup a xs ea =>
    cases (show u = Value.ref a from rx)
    obtain ⟨_, _, _, p⟩ := (show ObjOk X.prog X.w H s.heap a (.tup xs) from I.hok a _ ea)
    obtain ⟨o, h1, h2, _⟩ := p
    exact PySem.W.kia_one PySem.W.kitx_tuple I.kIn ⟨o, h1, h2⟩ e (fun z => nomatch z) h
  | @dK a kvs ea =>
    cases (show u = Value.ref a from rx)
    obtain ⟨_, _, vs, _, p⟩ := (show ObjOk X.prog X.w H s.heap a (.dK kvs) from I.hok a _ ea)
    obtain ⟨o, es, ep, h1, h2, _⟩ := p
    exact PySem.W.kia_one PySem.W.kitx_dict I.kIn ⟨o, h1, h2.1⟩ e (fun z => nomatch z) h
  | @dT a kvs ea =>
    cases (show u = Value.ref a from rx)
    obtain ⟨_, _, xs, _, o, es, ep, h1, h2, _⟩ := (show ObjOk X.prog X.w H s.heap a (.dT kvs) from I.hok a _ ea)
    exact PySem.W.kia_one PySem.W.kitx_dict I.kIn ⟨o, h1, h2.1⟩ e (fun z => nomatch z) h
  | @ins a C dx fs ea cl ha hn htk hm =>
    cases (show u = Value.ref a from rx)
    obtain ⟨mA, O, _⟩ := ins_get I.hok ea
    obtain ⟨od, J, _⟩ := O.look
    exact PySem.W.kia_one (PySem.W.kitx_own (cl.get _) cl.hd ha hn htk hm) I.kIn J e (fun z => nomatch z) h
end
end L2
namespace L2
open PySem PySem.Spec PyProof.Rows
structure Room (k : Nat) (A : Around) : Prop where
  hd : A.handled = none
  dp : A.depth + 3 * k + 5 < recursionLimit
  un : A.units + 16 * k + 200 < cLine
theorem Room.mono {j k : Nat} {A : Around} (r : Room k A) (h : j ≤ k) : Room j A := ⟨r.hd, by have := r.dp; omega, by have := r.un; omega⟩
theorem Room.deeper {k : Nat} {A : Around} (r : Room (k + 1) A) (env : Env) : Room k (A.deeper env) :=
  ⟨r.hd, by have := r.dp; show A.depth + 1 + 3 * k + 5 < _; omega, by have := r.un; show A.units + 3 + 16 * k + 200 < _; omega⟩
theorem Room.in1 {k : Nat} {A : Around} (r : Room (k + 1) A) : Room k A.in1 :=
  ⟨r.hd, by have := r.dp; show A.depth + 3 * k + 5 < _; omega, by have := r.un; show A.units + 1 + 16 * k + 200 < _; omega⟩
theorem make_depth {A : Around} {C : Addr} {us : List Value} {kw : List (Str × Value)} : (A.under (.builtin "type.__call__" ⟨.ref C :: us, kw⟩)).depth = A.depth + 1 := by
  first | rfl | simp [Around.under, Code.weight, Code.isCreation, Code.isGuard, Code.isCaller, Code.frames, Code.isFrame, guardIds]
theorem make_units {A : Around} {C : Addr} {us : List Value} {kw : List (Str × Value)} : (A.under (.builtin "type.__call__" ⟨.ref C :: us, kw⟩)).units = A.units + 1 := by
  first | rfl | simp [Around.under, Code.cUnits, Code.frames, Code.isFrame]
theorem Room.make {k : Nat} {A : Around} (r : Room (k + 1) A) (C : Addr) (us : List Value) (kw : List (Str × Value)) : Room k (A.under (.builtin "type.__call__" ⟨.ref C :: us, kw⟩)) :=
  ⟨r.hd, by have := r.dp; rw [make_depth]; omega, by have := r.un; rw [make_units]; omega⟩
theorem Room.depth {k : Nat} {A : Around} (r : Room k A) : A.depth < recursionLimit := by have := r.dp; omega
theorem Room.units {k : Nat} {A : Around} (r : Room k A) : A.units + 64 < cLine := by have := r.un; omega
def tNil : TA := fun _ H Q => Q [] H
def tCons (ta : TE) (tr : TA) : TA := fun σ H Q => ta σ H fun x H1 => tr σ H1 fun xs H2 => Q (x :: xs) H2
section
variable {X : Cx} {e : Expr} {es : List Expr} {te : TE} {t : TA} {pos : Pos}
theorem pa_nil : PA X [] tNil := fun _ _ _ _ H Q I h => Calls.spliced_nil ⟨[], H, I, .nil, h⟩
theorem pa_cons (ha : PE X e te) (hr : PA X es t) (hs : starEach (e :: es) X.env = (false, eval e X.env) :: starEach es X.env := by rfl) : PA X (e :: es) (tCons te t) := by
  intro pos pins s σ H Q I h
  rw [hs]
  show wpAny _ _ (spliced ((false, eval e X.env) :: backTo pos (starEach es X.env))) _ _ s
  refine Calls.spliced_cons (thn (ha pins s σ H _ I h) fun u s1 ⟨x, H1, I1, r1, q1⟩ => ?_)
  exact thn (hr pos pins s1 σ H1 _ I1 q1) fun us s2 ⟨xs, H2, I2, r2, q2⟩ => ⟨x :: xs, H2, I2, .cons r1 r2, q2⟩
def tTup (t : TA) : TE := fun σ H Q => t σ H fun xs H1 => xs.length ≤ sizeLine ∧ ∀ p, H1 p = none → Q (.ref p) (upd H1 p (.tup xs))
def tLst (t : TA) : TE := fun σ H Q => t σ H fun xs H1 => xs.length ≤ sizeLine ∧ ∀ p, H1 p = none → Q (.ref p) (upd H1 p (.lst xs))
theorem pe_tup {x1} (h : PA X es t) : PE X (.Tuple es x1 pos) (tTup t) := by
  intro pins s σ H Q I hq
  refine wpAny_Tuple_spliced (thn (h pos pins s σ H _ I hq) fun us s1 ⟨xs, H1, I1, r, z, q⟩ => ⟨by rw [← r.length]; exact z, ?_⟩)
  have hf : H1 s1.heap.objs.size = none := I1.hok.fresh (Nat.le_refl _)
  refine ⟨.ref s1.heap.objs.size, upd H1 s1.heap.objs.size (.tup xs), I1.laid (t' := s1.toks) (fun b u e => Heap.get?_push_of_some _ e) (Nat.le_refl _) ?_, rfl, q _ hf⟩
  exact ⟨z, us, r, ⟨_, Heap.get?_push_size _ rfl, rfl, _, rfl⟩⟩
theorem pe_lst (h : PA X es t) : PE X (.List es pos) (tLst t) := by
  intro pins s σ H Q I hq
  refine wpAny_List_spliced (thn (h pos pins s σ H _ I hq) fun us s1 ⟨xs, H1, I1, r, z, q⟩ => ⟨by rw [← r.length]; exact z, ?_⟩)
  have hf : H1 s1.heap.objs.size = none := I1.hok.fresh (Nat.le_refl _)
  refine ⟨.ref s1.heap.objs.size, upd H1 s1.heap.objs.size (.lst xs), I1.laid (t' := s1.toks) (fun b u e => Heap.get?_push_of_some _ e) (Nat.le_refl _) ?_, rfl, q _ hf⟩
  exact ⟨z, us, 0, r, Heap.get?_push_size _ rfl⟩
end
abbrev Sp := List V → Hp → VK → XK → Prop
abbrev CXT := List Env → Hp → Shared → XK → Value → Shared → Prop
structure Env0 (P : Program) (w : World) (K : PySem.W.Frag) (mg : Str → Option Value) (base : Heap) (A : Around) (outer : List Env) (s : Shared) (H : Hp) : Prop where
  frames : A.frames = some outer
  mod : Mod K mg base
  bs : ∀ b o, base.get? b = some o → s.heap.get? b = some o ∧ H b = none
  bsz : base.objs.size ≤ s.heap.objs.size
  funs : s.heap.FunFrames base outer
  frf : ∀ b ∈ frs outer, H b = none
  hok : HOk P w H s.heap
  bare : AllBare s.gens
def CE (outer : List Env) (P : Program) (w : World) (H : Hp) (s : Shared) (Q : VK) (u : Value) (s' : Shared) : Prop :=
  ∃ v H', s'.os = s.os ∧ AllBare s'.gens ∧ Un (frs outer) [] H H' s.heap s'.heap ∧ HOk P w H' s'.heap ∧ RelV v u ∧ Q v H'
def CR (CX : CXT) (outer : List Env) (P : Program) (w : World) (H : Hp) (s : Shared) (Q : VK) (E : XK) (r : Result) (s' : Shared) : Prop :=
  match r with
  | .ok (.ret u) => CE outer P w H s Q u s'
  | .ok _ => False
  | .error e => CX outer H s E e s'
structure FnOk (P : Program) (w : World) (K : PySem.W.Frag) (mg : Str → Option Value) (base : Heap) (CX : CXT) (k : Nat) (f : Addr) (fd : FuncData) (ps : List Str) (sp : Sp) : Prop where
  len : ∀ vs H Q E, sp vs H Q E → vs.length = ps.length
  run : ∀ (A : Around) (outer : List Env) (s : Shared) (H : Hp) (args : Args) (us : List Value) (vs : List V) (Q : VK) (E : XK), Room k A → Env0 P w K mg base A outer s H → BindsTo s fd args (ps.zip us) → Vals vs us → sp vs H Q E →
    codeAny (model P w) A (.call (.ref f) args) (CR CX outer P w H s Q E) s
theorem FnOk.mono {P : Program} {w : World} {K : PySem.W.Frag} {mg : Str → Option Value} {base : Heap} {CX : CXT} {j k : Nat} {f : Addr} {fd : FuncData} {ps : List Str} {sp : Sp} (F : FnOk P w K mg base CX j f fd ps sp) (h : j ≤ k) :
    FnOk P w K mg base CX k f fd ps sp := ⟨F.len, fun A outer s H args us vs Q E hr => F.run A outer s H args us vs Q E (hr.mono h)⟩
theorem FnOk.imp {P : Program} {w : World} {K : PySem.W.Frag} {mg : Str → Option Value} {base : Heap} {CX : CXT} {k : Nat} {f : Addr} {fd : FuncData} {ps : List Str} {sp sp' : Sp} (F : FnOk P w K mg base CX k f fd ps sp)
    (h : ∀ vs H Q E, sp' vs H Q E → sp vs H Q E) : FnOk P w K mg base CX k f fd ps sp' :=
  ⟨fun vs H Q E q => F.len vs H Q E (h _ _ _ _ q), fun A outer s H args us vs Q E hr he hb hv hs => F.run A outer s H args us vs Q E hr he hb hv (h _ _ _ _ hs)⟩
theorem Env0.make {P : Program} {w : World} {K : PySem.W.Frag} {mg : Str → Option Value} {base : Heap} {A : Around} {outer : List Env} {s : Shared} {H : Hp} (e : Env0 P w K mg base A outer s H) (C : Addr) (us : List Value) (kw : List (Str × Value)) :
    Env0 P w K mg base (A.under (.builtin "type.__call__" ⟨.ref C :: us, kw⟩)) outer s H := ⟨by first | exact e.frames | (simpa [Around.under, Code.envs, Code.isFrame, pushEnvs] using e.frames), e.mod, e.bs, e.bsz, e.funs, e.frf, e.hok, e.bare⟩
theorem Env0.in1 {P : Program} {w : World} {K : PySem.W.Frag} {mg : Str → Option Value} {base : Heap} {A : Around} {outer : List Env} {s : Shared} {H : Hp} (e : Env0 P w K mg base A outer s H) :
    Env0 P w K mg base A.in1 outer s H := ⟨e.frames, e.mod, e.bs, e.bsz, e.funs, e.frf, e.hok, e.bare⟩
section
variable {X : Cx} {pins : List (Addr × Obj)} {σ : St} {H : Hp} {s s' : Shared}
theorem Inv.env0 (I : Inv X pins σ H s) : Env0 X.prog X.w X.K X.mg X.base X.A X.stack s H :=
  ⟨I.ok.frames, I.ok.mod, I.bs, Nat.le_trans I.ok.bsz I.sz, I.stack, I.stkFree, I.hok, I.bare⟩
theorem Inv.after {Q : VK} {u : Value} (I : Inv X pins σ H s) (h : CE X.stack X.prog X.w H s Q u s') : EP X pins σ Q u s' := by
  obtain ⟨v, H', os, bare, un, hok, r, q⟩ := h
  obtain ⟨hh, g, d, t, os'⟩ := s'
  obtain rfl : os' = s.os := os
  exact ⟨v, H', I.call (h' := hh) (g' := g) (d' := d) (t' := t) (ch := []) un hok bare (fun b z => absurd z (by simp)), r, q⟩
end
def tCall (sp : Sp) (dvs : List V) (E : XK) (t : TA) : TE := fun σ H Q => t σ H fun vs H1 => sp (vs ++ dvs) H1 Q E
def tMeth (C : Addr) (m : Str) (sp : Sp) (dvs : List V) (E : XK) (ta : TE) (t : TA) : TE := fun σ H Q => ta σ H fun x H1 => ∃ a dx fs, x = .ref a ∧ H1 a = some (.ins C dx fs) ∧ fs.lookup m = none ∧
  t σ H1 fun vs H2 => sp (x :: (vs ++ dvs)) H2 Q E
def tMake (C : Addr) (sp : Sp) (dvs : List V) (E : XK) (t : TA) : TE := fun σ H Q => t σ H fun vs H1 => ∀ x dx, H1 x = none → H1 dx = none → dx ≠ x →
  sp (.ref x :: (vs ++ dvs)) (upd (upd H1 dx (.own x)) x (.ins C dx [])) (fun v H2 => v = .non ∧ Q (.ref x) H2) E
def Binds (K : PySem.W.Frag) (fd : FuncData) (ps : List Str) (ds : List Value) : Prop :=
  ∀ (s : Shared) (us : List Value), K.In s.heap → (us ++ ds).length = ps.length → BindsTo s fd ⟨us, []⟩ (ps.zip (us ++ ds))
theorem Binds.all {K : PySem.W.Frag} {fd : FuncData} {ps : List Str} (h : ∀ us : List Value, us.length = ps.length → bindArgs fd ⟨us, []⟩ = pure (ps.zip us)) : Binds K fd ps [] := fun s us _ hl => by
  rw [List.append_nil] at hl ⊢
  exact .of_eq (h us hl)
def Passes (CX : CXT) (X : Cx) (E : XK) : Prop := ∀ (pins : List (Addr × Obj)) (σ : St) (H : Hp) (s : Shared) (e : Value) (s' : Shared), Inv X pins σ H s → CX X.stack H s E e s' → X.xe e s'
section
variable {X : Cx} {CX : CXT} {k : Nat} {f C : Addr} {fd : FuncData} {ps : List Str} {sp : Sp} {dvs : List V} {ds : List Value} {E : XK} {x m : Str} {p pos apos : Pos} {e o : Expr} {es : List Expr} {ta : TE} {t : TA}
theorem run_fn {pins : List (Addr × Obj)} {σ : St} {H : Hp} {s : Shared} {Q : VK} {us : List Value} {vs : List V} (F : FnOk X.prog X.w X.K X.mg X.base CX k f fd ps sp) (hr : Room k X.A) (hb : Binds X.K fd ps ds) (hd : Vals dvs ds) (hx : Passes CX X E)
    (I : Inv X pins σ H s) (r : Vals vs us) (h : sp (vs ++ dvs) H Q E) : wpAny (model X.prog X.w) X.A (call (.ref f) us) (EP X pins σ Q) X.xe s := by
  have r2 : Vals (vs ++ dvs) (us ++ ds) := r.append hd
  have hl : (us ++ ds).length = ps.length := by rw [← r2.length]; exact F.len _ _ _ _ h
  refine wpAny_call (codeAny_mono (F.run X.A X.stack s H ⟨us, []⟩ (us ++ ds) (vs ++ dvs) Q E hr I.env0 (hb s us I.kIn hl) r2 h) fun r s' hq => ?_)
  cases r with
  | error e => exact hx pins σ H s e s' I hq
  | ok fl =>
    cases fl with
    | ret u => exact I.after hq
    | next => exact False.elim hq
    | brk => exact False.elim hq
    | cont => exact False.elim hq
theorem pe_call (F : FnOk X.prog X.w X.K X.mg X.base CX k f fd ps sp) (hr : Room k X.A) (hg : Gl X x) (hm : X.mg x = some (.ref f)) (hk : PySem.W.keepIn X.K (.ref f) = true) (hb : Binds X.K fd ps ds) (hd : Vals dvs ds) (hx : Passes CX X E)
    (ha : PA X (e :: es) t) (hdb : (x == ("__debug__" : Str)) = false := by decide) (he : starEach (e :: es) X.env = (false, eval e X.env) :: starEach es X.env := by rfl) (hpl : (backTo pos (starEach es X.env)).any (·.1) = false := by rfl) :
    PE X (.Call (.Name x p) (e :: es) [] pos) (tCall sp dvs E t) := by
  intro pins s σ H Q I h
  refine wpAny_Call_Name_kw (ld_glob I hg hm ?_ hdb)
  refine PySem.W.callWith_K (h₀ := X.base) I.ok.mod.kin hk (thn (ha pos pins s σ H _ I h) fun us s1 ⟨vs, H1, I1, r, q⟩ => ⟨I1.kIn, ?_⟩) he hpl
  exact run_fn F hr hb hd hx I1 r q
theorem pe_meth {pl : Sem Bool} (he : PE X o ta) (c : Cls X.K C) (hm : Meth X.K C m f) (F : FnOk X.prog X.w X.K X.mg X.base CX k f fd ps sp) (hr : Room k X.A) (hb : Binds X.K fd ps ds) (hd : Vals dvs ds) (hx : Passes CX X E) (ha : PA X (e :: es) t)
    (hst : starEach (e :: es) X.env = (false, eval e X.env) :: starEach es X.env := by rfl) (hpl : (backTo pos (starEach es X.env)).any (·.1) = false := by rfl)
    (ht : eval (.Call (.Attribute o m apos) (e :: es) [] pos) X.env = (do
      let ov ← eval o X.env
      standAt apos.atName
      let (f, first) ← holding [ov] (getMethod ov m pl)
      callWith pos f first (backTo pos (starEach (e :: es) X.env)) (backToKw pos (keywordEach [] X.env))) := by rfl) :
    PE X (.Call (.Attribute o m apos) (e :: es) [] pos) (tMeth C m sp dvs E ta t) := by
  intro pins s σ H Q I h
  refine PySem.W.methodCall_KW (pl := pl) (thn (he pins s σ H _ I h) fun u s1 ⟨x, H1, I1, rx, a, dx, fs, ex, ea, l, q⟩ => ?_) ht
  subst ex
  obtain rfl : u = Value.ref a := rx
  refine getmeth_ok I1 ea c hm l ?_
  refine PySem.W.callWith_K (first := [.ref a]) (h₀ := X.base) I.ok.mod.kin hm.kp (thn (ha pos pins s1 σ H1 _ I1 q) fun us s2 ⟨vs, H2, I2, r, q2⟩ => ⟨I2.kIn, ?_⟩) hst hpl
  exact run_fn (us := .ref a :: us) (vs := .ref a :: vs) F hr hb hd hx I2 (.cons rfl r) q2
theorem pe_meth0 {pl : Sem Bool} (he : PE X o ta) (c : Cls X.K C) (hm : Meth X.K C m f) (F : FnOk X.prog X.w X.K X.mg X.base CX k f fd ps sp) (hr : Room k X.A) (hb : Binds X.K fd ps ds) (hd : Vals dvs ds) (hx : Passes CX X E)
    (ht : eval (.Call (.Attribute o m apos) [] [] pos) X.env = (do
      let ov ← eval o X.env
      standAt apos.atName
      let (f, first) ← holding [ov] (getMethod ov m pl)
      callWith pos f first (backTo pos (starEach [] X.env)) (backToKw pos (keywordEach [] X.env))) := by rfl) :
    PE X (.Call (.Attribute o m apos) [] [] pos) (tMeth C m sp dvs E ta tNil) := by
  intro pins s σ H Q I h
  refine PySem.W.methodCall_KW (pl := pl) (thn (he pins s σ H _ I h) fun u s1 ⟨x, H1, I1, rx, a, dx, fs, ex, ea, l, q⟩ => ?_) ht
  subst ex
  obtain rfl : u = Value.ref a := rx
  refine getmeth_ok I1 ea c hm l ?_
  exact PySem.W.callWith_K0 (first := [.ref a]) I1.kIn hm.kp (run_fn (us := [.ref a]) (vs := [.ref a]) F hr hb hd hx I1 (.cons rfl .nil) q)
structure Mk (K : PySem.W.Frag) (C f : Addr) : Prop where
  makes : PySem.W.makesIn K C = true
  init : PySem.W.findIn K (.ref C) "__init__" = some (some (.ref f))
  fn : PySem.W.isFn K (.ref f) = true
  kp : PySem.W.keepIn K (.ref C) = true
theorem run_make {pins : List (Addr × Obj)} {σ : St} {H : Hp} {s : Shared} {Q : VK} {us : List Value} {vs : List V} (M : Mk X.K C f) (F : FnOk X.prog X.w X.K X.mg X.base CX k f fd ps sp) (hr : Room (k + 1) X.A) (hb : Binds X.K fd ps ds) (hd : Vals dvs ds)
    (hx : Passes CX X E) (I : Inv X pins σ H s) (r : Vals vs us)
    (h : ∀ x dx, H x = none → H dx = none → dx ≠ x → sp (.ref x :: (vs ++ dvs)) (upd (upd H dx (.own x)) x (.ins C dx [])) (fun v H2 => v = .non ∧ Q (.ref x) H2) E) :
    wpAny (model X.prog X.w) X.A (call (.ref C) us) (EP X pins σ Q) X.xe s := by
  have hq := h (s.heap.objs.size + 1) s.heap.objs.size (I.hok.fresh (Nat.le_succ _)) (I.hok.fresh (Nat.le_refl _)) (Nat.ne_of_lt (Nat.lt_succ_self _))
  have I2 := Inv.made (C := C) I
  have r2 : Vals (V.ref (s.heap.objs.size + 1) :: (vs ++ dvs)) (Value.ref (s.heap.objs.size + 1) :: (us ++ ds)) := .cons rfl (r.append hd)
  have hl : (Value.ref (s.heap.objs.size + 1) :: us ++ ds).length = ps.length := by
    have e := r2.length
    rw [F.len _ _ _ _ hq] at e
    exact e.symm
  refine wpAny_call (make_map (f := f) I.kIn M.makes M.init (beq_iff_eq.mp M.fn) (codeAny_mono (F.run _ X.stack _ _ ⟨Value.ref (s.heap.objs.size + 1) :: us, []⟩ (Value.ref (s.heap.objs.size + 1) :: (us ++ ds)) _ _ E (hr.make C us [])
    (I2.env0.make C us []) (hb _ (Value.ref (s.heap.objs.size + 1) :: us) I2.kIn hl) r2 hq) fun r s' hq' => ?_))
  cases r with
  | error e => exact hx pins σ _ _ e s' I2 hq'
  | ok fl =>
    cases fl with
    | ret u =>
      obtain ⟨v, H', I3, rv, ev, q3⟩ := I2.after hq'
      subst ev
      exact ⟨rv, ⟨V.ref (s.heap.objs.size + 1), H', I3, rfl, q3⟩⟩
    | next => exact False.elim hq'
    | brk => exact False.elim hq'
    | cont => exact False.elim hq'
theorem pe_make (M : Mk X.K C f) (F : FnOk X.prog X.w X.K X.mg X.base CX k f fd ps sp) (hr : Room (k + 1) X.A) (hg : Gl X x) (hm : X.mg x = some (.ref C)) (hb : Binds X.K fd ps ds) (hd : Vals dvs ds) (hx : Passes CX X E)
    (ha : PA X (e :: es) t) (hdb : (x == ("__debug__" : Str)) = false := by decide) (he : starEach (e :: es) X.env = (false, eval e X.env) :: starEach es X.env := by rfl) (hpl : (backTo pos (starEach es X.env)).any (·.1) = false := by rfl) :
    PE X (.Call (.Name x p) (e :: es) [] pos) (tMake C sp dvs E t) := by
  intro pins s σ H Q I h
  refine wpAny_Call_Name_kw (ld_glob I hg hm ?_ hdb)
  refine PySem.W.callWith_K (h₀ := X.base) I.ok.mod.kin M.kp (thn (ha pos pins s σ H _ I h) fun us s1 ⟨vs, H1, I1, r, q⟩ => ⟨I1.kIn, ?_⟩) he hpl
  exact run_make M F hr hb hd hx I1 r q
end
section
variable {X : Cx} {CX : CXT} {k : Nat} {f C : Addr} {fd : FuncData} {ps ks : List Str} {sp : Sp} {E : XK} {x m : Str} {p pos apos kpos : Pos} {e o : Expr} {es : List Expr} {kws : List Keyword} {te ta : TE} {t tk : TA} {nm : Option Str}
structure KBinds (K : PySem.W.Frag) (fd : FuncData) (ps ks : List Str) (g : List Value → List Value → List Value) (gV : List V → List V → List V) : Prop where
  to : ∀ (s : Shared) (us ws : List Value), K.In s.heap → (g us ws).length = ps.length → BindsTo s fd ⟨us, ks.zip ws⟩ (ps.zip (g us ws))
  rel : ∀ {vs : List V} {us : List Value} {zs : List V} {ws : List Value}, Vals vs us → Vals zs ws → Vals (gV vs zs) (g us ws)
variable {g : List Value → List Value → List Value} {gV : List V → List V → List V}
end
structure FnScope (N P : List Str) (sc : Scope) : Prop where
  kind : sc.kind = .function
  co : sc.isCoroutine = false
  gen : sc.isGenerator = false
  nd : N.Nodup
  pre : N.take P.length = P
  par : ∀ x ∈ P, sc.names.lookup x = some .local ∨ sc.names.lookup x = some .cell
  nofree : ∀ y ∈ sc.names, y.2 ≠ .free
theorem bindL_out {kindOf : Str → Option NameKind} {x : Str} : ∀ {binds : List (Str × Value)} {m : Str → Option Value}, (∀ v, (x, v) ∉ binds) → bindL kindOf binds m x = m x
  | [], _, _ => rfl
  | (n, v) :: r, m, h => by
    unfold bindL
    rw [bindL_out fun w hw => h w (List.mem_cons_of_mem _ hw)]
    split
    · have : x ≠ n := by rintro rfl; exact h v List.mem_cons_self
      simp [this]
    · rfl
theorem bindC_out {kindOf : Str → Option NameKind} {x : Str} : ∀ {binds : List (Str × Value)} {m : Str → Option Value}, (∀ v, (x, v) ∉ binds) → bindC kindOf binds m x = m x
  | [], _, _ => rfl
  | (n, v) :: r, m, h => by
    unfold bindC
    rw [bindC_out fun w hw => h w (List.mem_cons_of_mem _ hw)]
    split
    · rfl
    · have : x ≠ n := by rintro rfl; exact h v List.mem_cons_self
      simp [this]
theorem bindL_get {kindOf : Str → Option NameKind} {x : Str} {v : Value} : ∀ {P : List Str} {vs : List Value} {i : Nat} {m : Str → Option Value}, P.Nodup → P[i]? = some x → vs[i]? = some v → kindOf x = some .local →
    bindL kindOf (P.zip vs) m x = some v
  | [], _, _, _, _, h, _, _ => by simp at h
  | _ :: _, [], _, _, _, _, h, _ => by simp at h
  | p :: P, w :: vs, 0, m, nd, h1, h2, hk => by
    simp at h1 h2; subst h1; subst h2
    show bindL kindOf ((p, w) :: P.zip vs) m p = _
    unfold bindL
    rw [bindL_out fun v hv => (List.nodup_cons.mp nd).1 (List.of_mem_zip hv).1, if_pos hk]
    simp
  | p :: P, w :: vs, i + 1, m, nd, h1, h2, hk => by
    show bindL kindOf ((p, w) :: P.zip vs) m x = _
    unfold bindL
    exact bindL_get (i := i) (List.nodup_cons.mp nd).2 (by simpa using h1) (by simpa using h2) hk
theorem bindC_get {kindOf : Str → Option NameKind} {x : Str} {v : Value} : ∀ {P : List Str} {vs : List Value} {i : Nat} {m : Str → Option Value}, P.Nodup → P[i]? = some x → vs[i]? = some v → kindOf x ≠ some .local →
    bindC kindOf (P.zip vs) m x = some v
  | [], _, _, _, _, h, _, _ => by simp at h
  | _ :: _, [], _, _, _, _, h, _ => by simp at h
  | p :: P, w :: vs, 0, m, nd, h1, h2, hk => by
    simp at h1 h2; subst h1; subst h2
    show bindC kindOf ((p, w) :: P.zip vs) m p = _
    unfold bindC
    rw [bindC_out fun v hv => (List.nodup_cons.mp nd).1 (List.of_mem_zip hv).1, if_neg hk]
    simp
  | p :: P, w :: vs, i + 1, m, nd, h1, h2, hk => by
    show bindC kindOf ((p, w) :: P.zip vs) m x = _
    unfold bindC
    exact bindC_get (i := i) (List.nodup_cons.mp nd).2 (by simpa using h1) (by simpa using h2) hk
def start (N : List Str) (vs : List V) : St := vs.map some ++ List.replicate (N.length - vs.length) none
def cxOf (CX : CXT) (P : Program) (w : World) (K : PySem.W.Frag) (mg : Str → Option Value) (base : Heap) (N : List Str) (qual : Str) (scope : Scope) (f : Addr) (cd : Value) (A : Around) (outer : List Env) (s : Shared) (H : Hp) (E : XK) : Cx where
  prog := P
  w := w
  K := K
  mg := mg
  base := base
  A := A.deeper (envOfC qual scope s.heap.objs.size f cd)
  N := N
  s₀ := s
  H₀ := H
  env := envOfC qual scope s.heap.objs.size f cd
  outer := outer
  stack := envOfC qual scope s.heap.objs.size f cd :: outer
  ex := []
  calm := true
  fn := fun _ => true
  pn := []
  xe := fun e s' => wpAny (model P w) (A.deeper (envOfC qual scope s.heap.objs.size f cd)) (leaving (envOfC qual scope s.heap.objs.size f cd) e) (fun _ s'' => CX outer H s E e s'') (fun e' s'' => CX outer H s E e' s'') s'
theorem cell_has {sc : Scope} {n : Nat} {x : Str} (h : sc.names.lookup x = some .cell) : ∃ c, (cellsFrom n sc.names []).lookup x = some c := by
  have q := PySem.W.cellsFrom_some sc.names n [] (.inl h)
  exact Option.isSome_iff_exists.mp q
theorem inv_start {CX : CXT} {P : Program} {w : World} {K : PySem.W.Frag} {mg : Str → Option Value} {base : Heap} {N ps : List Str} {qual : Str} {scope : Scope} {f : Addr} {cd : Value} {A : Around} {outer : List Env} {s s1 : Shared} {H : Hp} {E : XK} {us : List Value} {vs : List V}
    (S : FnScope N ps scope) (hd : A.handled = none) (e0 : Env0 P w K mg base A outer s H) (hl : vs.length = ps.length) (r : Vals vs us)
    (x : InCallC s s.heap.objs.size (bindL (envOfC qual scope s.heap.objs.size f cd).kindOf (ps.zip us) fun _ => none) (cellsFrom (s.heap.objs.size + 1) scope.names []) (bindC (envOfC qual scope s.heap.objs.size f cd).kindOf (ps.zip us) fun _ => none) s1) :
    Inv (cxOf CX P w K mg base N qual scope f cd A outer s H E) [] (start N vs) H s1 := by
  have hpl : ps.length ≤ N.length := by have := congrArg List.length S.pre; rw [List.length_take] at this; omega
  obtain ⟨h1, tk, rfl, hk⟩ := x.done
  have noA : ∀ b : Addr, b ∉ (cxOf CX P w K mg base N qual scope f cd A outer s H E).ex := fun b z => absurd (show b ∈ ([] : List Addr) from z) (by simp)
  refine ⟨⟨e0.mod, S.kind, rfl, rfl, Nat.le_refl _, fun y z c h1 h2 => ?_, fun y hy => ?_, fun y c _ h => ?_, fun _ => hd, Around.frames_deeper e0.frames, .inr ⟨rfl, rfl⟩, fun b z => absurd z (noA b), e0.bs, e0.bsz, fun b _ _ => noA b, fun b z => absurd z (noA b), e0.funs, e0.frf⟩,
    rfl, e0.bare, Un.kept hk, ⟨_, x.toInCall.ns, fun i y v h1 h2 h3 => ?_⟩, fun y c h => ⟨_, x.cell y c h⟩, e0.hok.fresh (Nat.le_refl _), fun y c h => ?_, fun p hp => absurd (show p ∈ ([] : List (Addr × Obj)) from hp) (by simp), e0.hok.kept hk, ?_⟩
  · exact name_of_addr x.apart (PySem.mem_of_lookup h1) (PySem.mem_of_lookup h2)
  · have hy : scope.names.lookup y = some .cell ∨ scope.names.lookup y = some .free := hy
    rcases hy with hy | hy
    · exact cell_has hy
    · exact absurd rfl (S.nofree _ (PySem.mem_of_lookup hy))
  · exact Nat.le_of_lt (x.above y c (PySem.mem_of_lookup h))
  · have hi : i < vs.length := by
      unfold start at h2
      by_cases hi : i < vs.length
      · exact hi
      · rw [List.getElem?_append_right (by simpa using hi)] at h2
        rw [List.getElem?_replicate] at h2
        split at h2 <;> cases h2
    have ha : vs[i]? = some v := by
      unfold start at h2
      rw [List.getElem?_append_left (by simpa using hi), List.getElem?_map] at h2
      cases e : vs[i]? with
      | none => rw [e] at h2; cases h2
      | some a => rw [e] at h2; cases h2; rfl
    obtain ⟨u, hu, rv⟩ := r.get ha
    have hp : ps[i]? = some y := by
      rw [← S.pre, List.getElem?_take_of_lt (by omega)]; exact h1
    have ndP : ps.Nodup := by rw [← S.pre]; exact S.nd.sublist (List.take_sublist _ _)
    refine ⟨u, rv, ?_⟩
    rcases S.par y (List.mem_of_getElem? hp) with k | k
    · exact .inl ⟨k, bindL_get ndP hp hu k⟩
    · obtain ⟨c, e⟩ := cell_has (n := s.heap.objs.size + 1) k
      refine .inr ⟨.inl k, c, e, ?_⟩
      have q := x.cell y c e
      rw [bindC_get ndP hp hu (by show scope.names.lookup y ≠ _; rw [k]; decide)] at q
      exact q
  · exact e0.hok.fresh (Nat.le_of_lt (x.above y c (PySem.mem_of_lookup h)))
  · unfold start
    show _ = N.length
    rw [List.length_append, List.length_map, List.length_replicate]
    omega
theorem fn_of {CX : CXT} {P : Program} {w : World} {K : PySem.W.Frag} {mg : Str → Option Value} {base : Heap} {k : Nat} {f : Addr} {name qual : Str} {params : Arguments} {body : List Stmt} {scope : Scope} {dV kV doc pm cdv ct oc : Value} {an od : Option Addr}
    {osl : Array (Option Value)} {N ps : List Str} {sp : Sp} (lk : K.lookup f = some ⟨oc, od, .func (PySem.W.fnOf name qual params body scope dV kV doc pm an cdv ct), osl⟩) (hcd : PySem.W.codeIn K cdv qual = true) (S : FnScope N ps scope)
    (len : ∀ vs H Q E, sp vs H Q E → vs.length = ps.length)
    (hbody : ∀ (A : Around) (outer : List Env) (s : Shared) (H : Hp) (vs : List V) (Q : VK) (E : XK), Room k (A.deeper (envOfC qual scope s.heap.objs.size f cdv)) → sp vs H Q E →
      ∃ t, PSs (cxOf CX P w K mg base N qual scope f cdv A outer s H E) body t ∧ t { nx := fun _ H' => Q .non H', rt := Q } (start N vs) H) :
    FnOk P w K mg base CX (k + 1) f (PySem.W.fnOf name qual params body scope dV kV doc pm an cdv ct) ps sp := by
  refine ⟨len, fun A outer s H args us vs Q E hr e0 hb r hsp => ?_⟩
  have hl := len _ _ _ _ hsp
  have KX : K.In s.heap := e0.mod.kin.keeps fun b o e => (e0.bs b o e).1
  have lim : s.heap.NoLimit := e0.mod.nolimit.keeps fun b o e => (e0.bs b o e).1
  have hkind : ∀ y ∈ ps.zip us, scope.names.lookup y.1 = some .local ∨ (scope.names.lookup y.1 = some .cell ∧ ((cellsFrom (s.heap.objs.size + 1) scope.names []).lookup y.1).isSome = true) := fun ⟨n, v⟩ hy => by
    rcases S.par n (List.of_mem_zip hy).1 with q | q
    · exact .inl q
    · exact .inr ⟨q, PySem.W.cellsFrom_some _ _ _ (.inl q)⟩
  refine codeAny_call_function hr.depth (KX _ _ lk) rfl S.co S.gen rfl (PySem.W.codeRec_of KX hcd) (hb _ _ _ _ ?_)
  refine wpAny_newFunctionEnv_cells S.kind hkind fun env he s1 x => ?_
  subst he
  refine ⟨lim.keeps x.toInCall.keep, codeAny_func ?_⟩
  obtain ⟨t, ht, hq⟩ := hbody A outer s H vs Q E (hr.deeper _) hsp
  have I : Inv (cxOf CX P w K mg base N qual scope f cdv A outer s H E) [] (start N vs) H s1 := inv_start S hr.hd e0 hl r x
  refine wpAny_mono (ht [] s1 (start N vs) H _ I hq) (fun fl s' hs => ?_) fun e s' hs => hs
  have fin : ∀ {σ' : St} {H' : Hp} {v : V} {u : Value}, Inv (cxOf CX P w K mg base N qual scope f cdv A outer s H E) [] σ' H' s' → RelV v u → Q v H' → CE outer P w H s Q u s' :=
    fun {σ' H' v u} J rv q => ⟨v, H', J.os, J.bare, J.base, J.hok, rv, q⟩
  cases fl with
  | ret u =>
    obtain ⟨v, σ', H', J, rv, q⟩ := hs
    exact fin J rv q
  | next =>
    obtain ⟨σ', H', J, q⟩ := hs
    exact fin (v := V.non) (u := Value.none) J rfl q
  | brk =>
    obtain ⟨_, _, _, q⟩ := hs
    exact False.elim q
  | cont =>
    obtain ⟨_, _, _, q⟩ := hs
    exact False.elim q
end L2
namespace L2
open PySem PySem.Spec PyProof.Rows
section
variable {X : Cx} {x : Str} {p pos : Pos} {e : Expr} {es : List Expr} {t : TA} {id T : String} {r : List V → Hp → VK → Prop}
def tCB (r : List V → Hp → VK → Prop) (t : TA) : TE := fun σ H Q => t σ H fun vs H1 => r vs H1 Q
theorem pe_callB (hc : CallR X (.builtin id) r) (hg : Gl X x) (hm : X.mg x = none) (hv : bootBuiltins x = some (.builtin id)) (ha : PA X (e :: es) t) (hn : x ≠ "__name__" := by decide) (hdb : (x == ("__debug__" : Str)) = false := by decide)
    (he : starEach (e :: es) X.env = (false, eval e X.env) :: starEach es X.env := by rfl) (hpl : (backTo pos (starEach es X.env)).any (·.1) = false := by rfl) : PE X (.Call (.Name x p) (e :: es) [] pos) (tCB r t) := by
  intro pins s σ H Q I h
  refine wpAny_Call_Name_kw (ld_blt I hg hm hv ?_ hn hdb)
  exact PyProof.Rows.callWith_builtin1 (thn (ha pos pins s σ H _ I h) fun us s1 ⟨vs, H1, I1, r1, q1⟩ => hc pins s1 σ H1 vs us Q I1 r1 q1) he hpl
theorem pe_callTy (hc : CallR X (.type T) r) (hg : Gl X x) (hm : X.mg x = none) (hv : bootBuiltins x = some (.type T)) (ha : PA X (e :: es) t) (hn : x ≠ "__name__" := by decide) (hdb : (x == ("__debug__" : Str)) = false := by decide)
    (he : starEach (e :: es) X.env = (false, eval e X.env) :: starEach es X.env := by rfl) (hpl : (backTo pos (starEach es X.env)).any (·.1) = false := by rfl) : PE X (.Call (.Name x p) (e :: es) [] pos) (tCB r t) := by
  intro pins s σ H Q I h
  refine wpAny_Call_Name_kw (ld_blt I hg hm hv ?_ hn hdb)
  exact PyProof.Rows.callWith_type1 (thn (ha pos pins s σ H _ I h) fun us s1 ⟨vs, H1, I1, r1, q1⟩ => hc pins s1 σ H1 vs us Q I1 r1 q1) he hpl
end
end L2
namespace HT
open PySem PyProof.Rows
section
open PySem.SeqAt
open PySem.AutoSeq1 (wpAny_loadPart')
open PySem.MeetsSeq PySem.MeetsSeq2 PySem.MeetsSeq3
end
section
variable {prog : Program} {w : World} {A : Around} {E : Value → Shared → Prop} {s : Shared}
def sIx (n d : Nat) : Option Int → Nat
  | none => d
  | some v => if v < 0 then (v + (n : Int)).toNat else min v.toNat n
theorem sIx_none (n d : Nat) : sIx n d none = d := rfl
theorem sIx_nat (n d k : Nat) : sIx n d (some (k : Int)) = min k n := by
  show (if (k : Int) < 0 then ((k : Int) + (n : Int)).toNat else min (k : Int).toNat n) = min k n
  rw [if_neg (by omega), Int.toNat_natCast]
theorem sIx_le (n d : Nat) (hd : d ≤ n) (o : Option Int) : sIx n d o ≤ n := by
  cases o with
  | none => exact hd
  | some v =>
    show (if v < 0 then (v + (n : Int)).toNat else min v.toNat n) ≤ n
    by_cases hv : v < 0
    · rw [if_pos hv]; omega
    · rw [if_neg hv]; exact Nat.min_le_right _ _
theorem clip_eq (v : Int) (n d : Nat) : (if v < 0 then max (v + (n : Int)) 0 else min v (n : Int)) = ((sIx n d (some v) : Nat) : Int) := by
  show (if v < 0 then max (v + (n : Int)) 0 else min v (n : Int)) = (((if v < 0 then (v + (n : Int)).toNat else min v.toNat n) : Nat) : Int)
  by_cases hv : v < 0
  · simp only [if_pos hv]; omega
  · simp only [if_neg hv]; omega
theorem adjust_gen (lo hi : Option Int) (n : Nat) : Builtin.Slice.sliceAdjust lo hi 1 (n : Int) = (((sIx n 0 lo : Nat) : Int), ((sIx n n hi : Nat) : Int)) := by
  have h1 : ¬ ((1 : Int) < 0) := by omega
  unfold Builtin.Slice.sliceAdjust
  simp only [h1, if_false]
  refine Prod.ext ?_ ?_
  · cases lo with
    | none => rfl
    | some v => exact clip_eq v n 0
  · cases hi with
    | none => rfl
    | some v => exact clip_eq v n n
theorem places_gen (i j : Nat) : Builtin.Slice.slicePlaces (i : Int) (j : Int) 1 = j - i := by
  unfold Builtin.Slice.slicePlaces
  have h1 : (1 : Int) > 0 := by omega
  simp only [h1, if_true, Int.ediv_one]
  split <;> omega
theorem slicePart_ {v : Value} {o : Option Int} {Q : Option Int → Shared → Prop} (p : IsPart v o) (h : Q o s) : wpAny (model prog w) A (Builtin.Slice.slicePartIndex v) Q E s := by
  cases p with
  | none => exact slicePart_none h
  | int i t => exact slicePart_int h
theorem sliceApplied_gen {sl : Addr} {vl vu : Value} {lo hi : Option Int} {n : Nat} {Q : Int × Int × Nat → Shared → Prop} (hs : s.heap.IsSliceOf sl vl vu .none) (pl : IsPart vl lo) (pu : IsPart vu hi)
    (h : Q (((sIx n 0 lo : Nat) : Int), 1, sIx n n hi - sIx n 0 lo) s) : wpAny (model prog w) A (Builtin.Slice.sliceApplied (.ref sl) (pure (n : Int))) Q E s := by
  obtain ⟨os, hos, hcs, hds⟩ := id hs
  unfold Builtin.Slice.sliceApplied Builtin.Slice.sliceFields
  refine wpAny_bind (wpAny_bind (wpAny_field hos hds (x := vl) rfl (wpAny_bind (wpAny_field hos hds (x := vu) rfl (wpAny_bind (wpAny_field hos hds (x := .none) rfl (wpAny_pure ?_)))))))
  refine wpAny_bind (slicePart_none ?_)
  show wpAny _ _ (if ((1 : Int) == 0) = true then _ else _) _ _ s
  rw [if_neg (by decide)]
  refine wpAny_bind (slicePart_ pl (wpAny_bind (slicePart_ pu (wpAny_bind (wpAny_pure ?_)))))
  show wpAny _ _ (match Builtin.Slice.sliceAdjust lo hi 1 (n : Int) with | (lo, hi) => pure (lo, (1 : Int), Builtin.Slice.slicePlaces lo hi 1)) _ _ s
  rw [adjust_gen lo hi n]
  show wpAny _ _ (pure (((sIx n 0 lo : Nat) : Int), (1 : Int), Builtin.Slice.slicePlaces ((sIx n 0 lo : Nat) : Int) ((sIx n n hi : Nat) : Int) 1)) _ _ s
  rw [places_gen]
  exact wpAny_pure h
theorem pick_gen (xs : Array Value) (i k : Nat) : ((List.range k).filterMap fun (m : Nat) => xs[((i : Int) + (m : Int) * 1).toNat]?).toArray = ((xs.toList.drop i).take k).toArray := by
  have e : (fun (m : Nat) => xs[((i : Int) + (m : Int) * 1).toNat]?) = fun m => xs[i + m]? := by
    funext m
    have : ((i : Int) + (m : Int) * 1).toNat = i + m := by omega
    rw [this]
  rw [e]
  have := pick_run xs i k
  rw [List.filterMap_map] at this
  have e2 : ((fun x => xs[x]?) ∘ fun x => i + x) = fun m => xs[i + m]? := rfl
  rw [e2] at this
  rw [this]
theorem getItem_tuple_cut {t sl : Addr} {items : Array Value} {vl vu : Value} {lo hi : Option Int} {Q : Value → Shared → Prop} (ht : IsTup s.heap t items) (hs : s.heap.IsSliceOf sl vl vu .none) (pl : IsPart vl lo) (pu : IsPart vu hi)
    (hw : ¬ (sIx items.size 0 lo = 0 ∧ sIx items.size items.size hi = items.size))
    (h : Q (.ref s.heap.objs.size) { s with heap := s.heap.push { cls := .type "tuple", data := .seq ((items.toList.drop (sIx items.size 0 lo)).take (sIx items.size items.size hi - sIx items.size 0 lo)).toArray } })
    (hsz : items.size ≤ sizeLine) : wpAny (model prog w) A (getItem (.ref t) (.ref sl)) Q E s := by
  have htake : sizeOk (.seq ((items.toList.drop (sIx items.size 0 lo)).take (sIx items.size items.size hi - sIx items.size 0 lo)).toArray) := by
    show ((items.toList.drop (sIx items.size 0 lo)).take (sIx items.size items.size hi - sIx items.size 0 lo)).toArray.size ≤ sizeLine
    rw [List.size_toArray, List.length_take, List.length_drop, Array.length_toList]
    omega
  have hj : sIx items.size items.size hi ≤ items.size := sIx_le _ _ (Nat.le_refl _) hi
  obtain ⟨os, hos, hcs, hds⟩ := id hs
  have hTs : s.TypeIs (.ref sl) "slice" := ⟨os, hos, hcs⟩
  unfold getItem
  try with_reducible refine wpAny_holding ?_
  first | refine wpAny_bind (wpAny_pure ?_) | skip
  refine wpAny_bind (wpAny_sequenceKey ht.typeIs (by decide) ?_)
  refine wpAny_bind (wpAny_callSpecial?_slot (name := Str.ofString "__getitem__") ht.typeIs PyProof.Rows.slot_tuple_getitem
    (wpAny_call_entry PyProof.Rows.slot_tuple_getitem ht.typeIs entry_tuple_getitem ?_ (args_tuple_getitem _ _)))
  show wpAny _ _ (Builtin.Tuple.tupleItemsOf (.ref t) >>= _) _ _ s
  refine wpAny_bind (tupleItemsOf_ ht ?_)
  refine wpAny_bind (wpAny_typeOf hTs ?_)
  rw [if_pos (by decide)]
  refine wpAny_bind (sliceApplied_gen hs pl pu ?_)
  have hno : ¬ ((((sIx items.size 0 lo : Nat) : Int) == 0 && (1 : Int) == 1 && (sIx items.size items.size hi - sIx items.size 0 lo) == items.size) = true) := by
    intro q
    rw [Bool.and_eq_true, Bool.and_eq_true] at q
    have q1 : ((sIx items.size 0 lo : Nat) : Int) = 0 := eq_of_beq q.1.1
    have q2 : sIx items.size items.size hi - sIx items.size 0 lo = items.size := eq_of_beq q.2
    exact hw ⟨by omega, by omega⟩
  show wpAny _ _ (if (((sIx items.size 0 lo : Nat) : Int) == 0 && (1 : Int) == 1 && (sIx items.size items.size hi - sIx items.size 0 lo) == items.size) = true then _ else _) _ _ s
  rw [if_neg hno, pick_gen]
  first
    | exact wpAny_bind (m := Builtin.Tuple.tupleExact _) (wpAny_newObj_type (wpAny_pure ⟨_, rfl, wpAny_pure h⟩) htake)
    | exact wpAny_bind (m := Builtin.Tuple.tupleExact _) (wpAny_newObj_type (wpAny_bind (wpAny_pure (wpAny_pure ⟨_, rfl, wpAny_pure h⟩))) htake)
    | exact wpAny_bind (wpAny_bind (m := Builtin.Tuple.tupleExact _) (wpAny_newObj_type (wpAny_pure (wpAny_pure ⟨_, rfl, wpAny_pure h⟩)) htake))
    | exact wpAny_bind (wpAny_bind (m := Builtin.Tuple.tupleExact _) (wpAny_newObj_type (wpAny_pure ⟨_, rfl, wpAny_pure h⟩) htake))
end
end HT
namespace L2
open PySem PySem.Spec PyProof.Rows
abbrev TO := St → Hp → (Option Int → Hp → Prop) → Prop
def PO (X : Cx) (e : Option Expr) (t : TO) : Prop :=
  ∀ (pins : List (Addr × Obj)) (s : Shared) (σ : St) (H : Hp) (Q : Option Int → Hp → Prop), Inv X pins σ H s → t σ H Q →
    wpAny (model X.prog X.w) X.A (evalPart e X.env) (fun u s' => ∃ o H', Inv X pins σ H' s' ∧ IsPart u o ∧ Q o H') X.xe s
def tNoPart : TO := fun _ H Q => Q none H
def tPart (t : TE) : TO := fun σ H Q => t σ H fun x H1 => ∃ i, x = .int i ∧ Q (some i) H1
theorem intsAre_of {ns : List Int} : ∀ {us : List Value}, Vals (ns.map V.int) us → IntsAre us ns := by
  induction ns with
  | nil => intro us r; rw [List.map_nil] at r; cases r; exact .nil
  | cons n ns ih =>
    intro us r
    rw [List.map_cons] at r
    cases r with
    | cons r1 r2 =>
      obtain ⟨t, e⟩ := r1
      subst e
      exact .cons n t (ih r2)
section
variable {X : Cx} {e : Expr} {te : TE} {lo hi : Option Expr} {tl th : TO} {pos p2 : Pos}
theorem po_none : PO X none tNoPart := by
  intro pins s σ H Q I h
  rw [evalPart_none]
  exact wpAny_pure ⟨none, H, I, .none, h⟩
theorem po_some (h : PE X e te) : PO X (some e) (tPart te) := by
  intro pins s σ H Q I hw
  rw [evalPart_some]
  refine thn (h pins s σ H _ I hw) fun u s1 ⟨x, H1, I1, r1, q1⟩ => ?_
  obtain ⟨i, rfl, q⟩ := q1
  obtain ⟨t, rfl⟩ := r1
  exact ⟨some i, H1, I1, .int i t, q⟩
def SlR (X : Cx) (r : V → Option Int → Option Int → Hp → VK → Prop) : Prop :=
  ∀ (pins : List (Addr × Obj)) (s : Shared) (σ : St) (H : Hp) (x : V) (v vl vu : Value) (lo hi : Option Int) (sl : Addr) (Q : VK), Inv X pins σ H s → RelV x v → s.heap.IsSliceOf sl vl vu .none → IsPart vl lo → IsPart vu hi → r x lo hi H Q →
    ∃ T id, typeLookup (.type T) "__getitem__" = pure (some (.builtin id)) ∧ s.TypeIs v T ∧ wpAny (model X.prog X.w) X.A (getItem v (.ref sl)) (EP X pins σ Q) X.xe s
theorem SlR.or {r r' : V → Option Int → Option Int → Hp → VK → Prop} (h : SlR X r) (h' : SlR X r') : SlR X (fun x lo hi H Q => r x lo hi H Q ∨ r' x lo hi H Q) := by
  intro pins s σ H x v vl vu lo hi sl Q I rx hs pl pu q
  rcases q with q | q
  · exact h pins s σ H x v vl vu lo hi sl Q I rx hs pl pu q
  · exact h' pins s σ H x v vl vu lo hi sl Q I rx hs pl pu q
def tSl (r : V → Option Int → Option Int → Hp → VK → Prop) (te : TE) (tl th : TO) : TE := fun σ H Q => te σ H fun x H1 => tl σ H1 fun l H2 => th σ H2 fun u H3 => r x l u H3 Q
theorem pe_slice {r : V → Option Int → Option Int → Hp → VK → Prop} (hr : SlR X r) (he : PE X e te) (hl : PO X lo tl) (hu : PO X hi th) : PE X (.Subscript e (.Slice lo hi none p2) pos) (tSl r te tl th) := by
  intro pins s σ H Q I h
  refine Subscript_ (thn (he pins s σ H _ I h) fun v s1 ⟨x, H1, I1, r1, q1⟩ => ?_)
  refine wpAny_Slice (thn (hl pins s1 σ H1 _ I1 q1) fun vl s2 ⟨l, H2, I2, pl, q2⟩ => thn (hu pins s2 σ H2 _ I2 q2) fun vu s3 ⟨u, H3, I3, pu, q3⟩ => ?_)
  rw [evalPart_none]
  refine wpAny_pure ?_
  have I4 : Inv X pins σ H3 { s3 with heap := s3.heap.push { cls := .type "slice", data := .fields #[vl, vu, .none] } } := I3.kept (t' := s3.toks) fun b ob q => Heap.get?_push_of_some _ q
  obtain ⟨T, id, hT, ht, hg⟩ := hr pins { s3 with heap := s3.heap.push { cls := .type "slice", data := .fields #[vl, vu, .none] } } σ H3 x v vl vu l u s3.heap.objs.size Q I4 r1 (Heap.IsSliceOf.new ..) pl pu q3
  show wpAny (model X.prog X.w) X.A (subscriptTail e (.Slice lo hi none p2) v (.ref s3.heap.objs.size)) (EP X pins σ Q) X.xe { s3 with heap := s3.heap.push { cls := .type "slice", data := .fields #[vl, vu, .none] } }
  exact tail_any (ops := [.ref s3.heap.objs.size, v]) ht hT hg (by with_unfolding_all rfl)
def cutV (xs : List V) (lo hi : Option Int) : List V := (xs.drop (HT.sIx xs.length 0 lo)).take (HT.sIx xs.length xs.length hi - HT.sIx xs.length 0 lo)
theorem cutV_length (xs : List V) (lo hi : Option Int) : (cutV xs lo hi).length ≤ xs.length := by
  unfold cutV
  rw [List.length_take, List.length_drop]
  omega
def rSlT (K : PySem.W.Frag) : V → Option Int → Option Int → Hp → VK → Prop := fun x lo hi H Q => ∃ a xs, x = .ref a ∧ SqT K H a xs ∧
  ¬ (HT.sIx xs.length 0 lo = 0 ∧ HT.sIx xs.length xs.length hi = xs.length) ∧ ∀ p, H p = none → Q (.ref p) (upd H p (.tup (cutV xs lo hi)))
theorem sl_tup : SlR X (rSlT X.K) := by
  intro pins s σ H x v vl vu lo hi sl Q I rx hs pl pu h
  obtain ⟨a, xs, rfl, hx, hw, q⟩ := h
  cases rx
  obtain ⟨its, r, ht, hz⟩ := I.tuple hx
  have hlen : its.toArray.size = xs.length := by rw [List.size_toArray]; exact r.length.symm
  refine ⟨"tuple", _, PyProof.Rows.slot_tuple_getitem.lookup, ht.typeIs, ?_⟩
  refine HT.getItem_tuple_cut ht hs pl pu (by rw [hlen]; exact hw) ?_ (by rw [hlen]; exact hz)
  rw [hlen]
  refine ⟨.ref s.heap.objs.size, _, I.laid (t' := s.toks) (o := .tup (cutV xs lo hi)) (fun b ob q => Heap.get?_push_of_some _ q) (Nat.le_refl _) ?_, rfl, q _ (I.hok.fresh (Nat.le_refl _))⟩
  exact ⟨Nat.le_trans (cutV_length xs lo hi) hz, _, (r.drop (HT.sIx xs.length 0 lo)).take (HT.sIx xs.length xs.length hi - HT.sIx xs.length 0 lo), IsTup.new _ _⟩
end
end L2
namespace L2
open PySem PySem.Spec PyProof.Rows
def ixN (n : Nat) (i : Int) : Option Nat := if 0 ≤ i then (if i < n then some i.toNat else none) else if -(n : Int) ≤ i then some (i + n).toNat else none
def atI {α : Type} (xs : List α) (i : Int) : Option α := (ixN xs.length i).bind fun j => xs[j]?
theorem ixN_seq {n : Nat} {i : Int} {j : Nat} (h : ixN n i = some j) : seqIndex? i n = some j ∧ j < n ∧ -(n : Int) ≤ i ∧ i < n := by
  unfold ixN at h
  by_cases h0 : 0 ≤ i
  · rw [if_pos h0] at h
    by_cases h1 : i < n
    · rw [if_pos h1] at h
      have e : i.toNat = j := Option.some.inj h
      exact ⟨by rw [seqIndex_of h0 h1, e], by omega, by omega, h1⟩
    · rw [if_neg h1] at h; cases h
  · rw [if_neg h0] at h
    by_cases h1 : -(n : Int) ≤ i
    · rw [if_pos h1] at h
      have e : (i + n).toNat = j := Option.some.inj h
      exact ⟨by rw [seqIndex_neg (by omega) h1, e], by omega, h1, by omega⟩
    · rw [if_neg h1] at h; cases h
theorem atI_get {α : Type} {xs : List α} {i : Int} {v : α} (h : atI xs i = some v) : ∃ j, seqIndex? i xs.length = some j ∧ xs[j]? = some v ∧ j < xs.length ∧ -(xs.length : Int) ≤ i ∧ i < xs.length := by
  unfold atI at h
  cases e : ixN xs.length i with
  | none => rw [e] at h; cases h
  | some j =>
    rw [e] at h
    obtain ⟨h1, h2, h3, h4⟩ := ixN_seq e
    exact ⟨j, h1, h, h2, h3, h4⟩
theorem atI_nat {α : Type} {xs : List α} {j : Nat} {v : α} (h : xs[j]? = some v) : atI xs (j : Int) = some v := by
  have hj : j < xs.length := (List.getElem?_eq_some_iff.mp h).1
  have e : ixN xs.length (j : Int) = some j := by
    unfold ixN
    rw [if_pos (by omega), if_pos (by omega)]; simp
  unfold atI; rw [e]; exact h
def PlainIx (b : Expr) : Prop := ∀ o i, subscripted b false o i = operate [o, i] (getItem o i)
def IxR (X : Cx) (r : R2) : Prop :=
  ∀ (value slice : Expr) (pins : List (Addr × Obj)) (s : Shared) (σ : St) (H : Hp) (x y : V) (v u : Value) (Q : VK), Inv X pins σ H s → RelV x v → RelV y u → r x y H Q →
    subscripted slice false v u = operate [v, u] (getItem v u) → wpAny (model X.prog X.w) X.A (subscriptTail value slice v u) (EP X pins σ Q) X.xe s
def MtR (X : Cx) (id : String) (r : V → List V → Hp → VK → Prop) : Prop :=
  ∀ (pins : List (Addr × Obj)) (s : Shared) (σ : St) (H : Hp) (x : V) (xs : List V) (v : Value) (us : List Value) (Q : VK), Inv X pins σ H s → RelV x v → Vals xs us → r x xs H Q →
    wpAny (model X.prog X.w) X.A (call (.builtin id) (v :: us)) (EP X pins σ Q) X.xe s
section
variable {X : Cx} {a b : Expr} {ta tb : TE} {pos : Pos}
theorem IxR.or {r r' : R2} (h : IxR X r) (h' : IxR X r') : IxR X (fun x y H Q => r x y H Q ∨ r' x y H Q) := by
  intro value slice pins s σ H x y v u Q I rx ry q hs
  rcases q with q | q
  · exact h value slice pins s σ H x y v u Q I rx ry q hs
  · exact h' value slice pins s σ H x y v u Q I rx ry q hs
theorem MtR.or {id : String} {r r' : V → List V → Hp → VK → Prop} (h : MtR X id r) (h' : MtR X id r') : MtR X id (fun x xs H Q => r x xs H Q ∨ r' x xs H Q) := by
  intro pins s σ H x xs v us Q I rx rs q
  rcases q with q | q
  · exact h pins s σ H x xs v us Q I rx rs q
  · exact h' pins s σ H x xs v us Q I rx rs q
theorem pe_ix {r : R2} (hr : IxR X r) (ha : PE X a ta) (hb : PE X b tb) (hs : PlainIx b) : PE X (.Subscript a b pos) (tOp r ta tb) := by
  intro pins s σ H Q I h
  exact Subscript_ (binT ha hb I h fun v u s2 x y H2 I2 rx ry q => hr a b pins s2 σ H2 x y v u Q I2 rx ry q (hs _ _))
def rIxL (K : PySem.W.Frag) : R2 := fun x y H Q => ∃ p xs i v, x = .ref p ∧ y = .int i ∧ SqL K H p xs ∧ atI xs i = some v ∧ Q v H
def rIxT (K : PySem.W.Frag) : R2 := fun x y H Q => ∃ p xs i v, x = .ref p ∧ y = .int i ∧ SqT K H p xs ∧ atI xs i = some v ∧ Q v H
def rIxS : R2 := fun x y H Q => ∃ z i c, x = .str z ∧ y = .int i ∧ z.length ≤ sizeLine ∧ atI z.cps.toList i = some c ∧ Q (.str ⟨#[c]⟩) H
theorem ix_list : IxR X (rIxL X.K) := by
  intro value slice pins s σ H x y v u Q I rx ry h hs
  obtain ⟨p, xs, i, z, rfl, rfl, hq, he, q⟩ := h
  cases rx
  obtain ⟨t, rfl⟩ := ry
  obtain ⟨its, r, pl, hz⟩ := I.list hq
  obtain ⟨j, h1, h2, h3, h4, h5⟩ := atI_get he
  obtain ⟨w, ew, rw'⟩ := r.get h2
  have hl := r.length
  have hn := line63
  have fin : EP X pins σ Q w s := ⟨z, H, I, rw', q⟩
  by_cases h0 : 0 ≤ i
  · have hj : i.toNat = j := by
      rw [seqIndex_of h0 h5] at h1
      exact Option.some.inj h1
    exact item_listR pl.isList h0 (by omega) (by rw [hj]; simpa using ew) fin hs
  · have hj : (i + (its.toArray.size : Int)).toNat = j := by
      rw [seqIndex_neg (by omega) h4] at h1
      rw [List.size_toArray, ← hl]
      exact Option.some.inj h1
    exact subscriptTail_builtinR (x := w) pl.isList.typeIs slot_list_getitem.lookup
      (wpAny_getItem_list_neg (Q := fun r s' => r = w ∧ EP X pins σ Q r s') pl.isList (by omega) (by rw [List.size_toArray] <;> omega) (by omega) (by rw [hj]; simpa using ew) ⟨rfl, fin⟩) hs
theorem ix_tup : IxR X (rIxT X.K) := by
  intro value slice pins s σ H x y v u Q I rx ry h hs
  obtain ⟨p, xs, i, z, rfl, rfl, hq, he, q⟩ := h
  cases rx
  obtain ⟨t, rfl⟩ := ry
  obtain ⟨its, r, pl, hz⟩ := I.tuple hq
  obtain ⟨j, h1, h2, h3, h4, h5⟩ := atI_get he
  obtain ⟨w, ew, rw'⟩ := r.get h2
  have hl := r.length
  have hn := line63
  have fin : EP X pins σ Q w s := ⟨z, H, I, rw', q⟩
  exact subscriptTail_builtinR (x := w) pl.typeIs slot_tuple_getitem.lookup
    (getItem_tuple (j := j) (Q := fun r s' => r = w ∧ EP X pins σ Q r s') pl (by omega) (by omega) (by rw [List.size_toArray, ← hl]; exact h1) (by simpa using ew) ⟨rfl, fin⟩) hs
theorem ix_str : IxR X rIxS := by
  intro value slice pins s σ H x y v u Q I rx ry h hs
  obtain ⟨z, i, c, rfl, rfl, hz, he, q⟩ := h
  obtain ⟨t, rfl⟩ := rx
  obtain ⟨t', rfl⟩ := ry
  obtain ⟨j, h1, h2, h3, h4, h5⟩ := atI_get he
  have hl : z.cps.toList.length = z.length := by simp [Str.length]
  rw [hl] at h1 h4 h5
  have hn := line63
  exact tail_any (typeIs_str s z t) slot_str_getitem.lookup (getItem_str (c := c) (by
    have e1 : decide (i < -(2 ^ 63 : Int)) = false := decide_eq_false (by omega)
    have e2 : decide (i ≥ 2 ^ 63) = false := decide_eq_false (by omega)
    rw [e1, e2, Bool.or_false]) (by rw [h1]; simpa using h2) ⟨.str ⟨#[c]⟩, H, I.tok _, ⟨_, rfl⟩, q⟩) hs
def rIx (K : PySem.W.Frag) : R2 := fun x y H Q => rIxL K x y H Q ∨ rIxT K x y H Q ∨ rIxS x y H Q
theorem ix_seq : IxR X (rIx X.K) := ix_list.or (ix_tup.or ix_str)
theorem mapSeq_set (its : List Value) (n j : Nat) (u : Value) : Obj.mapSeq (·.setIfInBounds j u) { cls := .type "list", data := .seq its.toArray n } = { cls := .type "list", data := .seq (its.set j u).toArray n } := by
  simp [Obj.mapSeq]
theorem Inv.lst {pins : List (Addr × Obj)} {σ : St} {H : Hp} {s : Shared} {p : Addr} {xs : List V} (I : Inv X pins σ H s) (h : H p = some (.lst xs)) :
    ∃ (its : List Value) (n : Nat), Vals xs its ∧ s.heap.get? p = some { cls := .type "list", data := .seq its.toArray n } ∧ xs.length ≤ sizeLine := by
  obtain ⟨z, its, n, r, e⟩ := I.hok p _ h
  exact ⟨its, n, r, e, z⟩
theorem Inv.lstUpd {pins : List (Addr × Obj)} {σ : St} {H : Hp} {s : Shared} {p : Addr} {xs ys : List V} {its its' : List Value} {n n' : Nat} {f : Obj → Obj} (I : Inv X pins σ H s) (h : H p = some (.lst xs))
    (ho : s.heap.get? p = some { cls := .type "list", data := .seq its.toArray n }) (hf : f { cls := .type "list", data := .seq its.toArray n } = { cls := .type "list", data := .seq its'.toArray n' }) (r : Vals ys its') (hz : ys.length ≤ sizeLine) (t : Nat) :
    Inv X pins σ (upd H p (.lst ys)) { s with heap := s.heap.update p f, toks := t } := by
  have e : (s.heap.update p f).get? p = some { cls := .type "list", data := .seq its'.toArray n' } := by
    rw [Heap.get?_update_self f ho (by rw [hf] <;> rfl), hf]
  refine I.write (x := p) (e := p) (by rw [h]; trivial) (.inl rfl) (fun b u hb q => (Heap.get?_update_other _ _ (Ne.symm hb)).trans q) ⟨_, e⟩ ?_
  exact ⟨hz, its', n', r, e⟩
def rSetL : V → V → V → Hp → (Hp → Prop) → Prop := fun o i v H Q => ∃ p xs k j, o = .ref p ∧ i = .int k ∧ H p = some (.lst xs) ∧ ixN xs.length k = some j ∧ Q (upd H p (.lst (xs.set j v)))
theorem set_list : PSet X rSetL := by
  intro pins s σ H o i v ov iv u Q I ro ri rv h
  obtain ⟨p, xs, k, j, rfl, rfl, hp, hj, q⟩ := h
  cases ro
  obtain ⟨t, rfl⟩ := ri
  obtain ⟨its, n, r, ho, hz⟩ := I.lst hp
  obtain ⟨h1, h2, h3, h4⟩ := ixN_seq hj
  have hl := r.length
  have hn := line63
  have I' : Inv X pins σ (upd H p (.lst (xs.set j v))) { s with heap := s.heap.update p (Obj.mapSeq (·.setIfInBounds j u)) } :=
    I.lstUpd hp ho (mapSeq_set its n j u) (r.set rv j) (by rw [List.length_set]; exact hz) s.toks
  by_cases h0 : 0 ≤ k
  · have hk : k.toNat = j := by
      rw [seqIndex_of h0 h4] at h1
      exact Option.some.inj h1
    exact PySem.W.ki_setAt ho h0 (by omega) (by rw [List.size_toArray, ← hl]; exact h4) (by rw [hk]; exact ⟨_, I', q⟩)
  · have hk : (k + (its.toArray.size : Int)).toNat = j := by
      rw [seqIndex_neg (by omega) h3] at h1
      rw [List.size_toArray, ← hl]
      exact Option.some.inj h1
    exact PySem.W.ki_setBack ho (by omega) (by rw [List.size_toArray, ← hl]; exact h3) (by omega) (by rw [hk]; exact ⟨_, I', q⟩)
theorem slice_bounds (lo hi : Option Int) (n : Nat) : (sliceBounds lo hi none n).1 = ((HT.sIx n 0 lo : Nat) : Int) ∧ (sliceBounds lo hi none n).2.1 = ((HT.sIx n n hi : Nat) : Int) ∧ (sliceBounds lo hi none n).2.2 = 1 := by
  refine ⟨?_, ?_, rfl⟩
  · cases lo with
    | none => simp [sliceBounds, HT.sIx]
    | some i =>
      simp only [sliceBounds, HT.sIx, Option.getD_none, show (1 : Int) > 0 by decide, if_true]
      by_cases h : i < 0
      · simp only [h, if_true] <;> omega
      · simp only [h, if_false] <;> omega
  · cases hi with
    | none => simp [sliceBounds, HT.sIx]
    | some i =>
      simp only [sliceBounds, HT.sIx, Option.getD_none, show (1 : Int) > 0 by decide, if_true]
      by_cases h : i < 0
      · simp only [h, if_true] <;> omega
      · simp only [h, if_false] <;> omega
theorem slicePick_cut (its : List Value) (lo hi : Option Int) : slicePick its.toArray lo hi none = ((its.drop (HT.sIx its.length 0 lo)).take (HT.sIx its.length its.length hi - HT.sIx its.length 0 lo)).toArray := by
  obtain ⟨h1, h2, h3⟩ := slice_bounds lo hi its.toArray.size
  unfold slicePick
  rw [h1, h2, h3]
  simp only [sliceRange_one, pick_run, List.size_toArray] <;> rfl
def rSlL (K : PySem.W.Frag) : V → Option Int → Option Int → Hp → VK → Prop := fun x lo hi H Q => ∃ a xs, x = .ref a ∧ SqL K H a xs ∧ ∀ p, H p = none → Q (.ref p) (upd H p (.lst (cutV xs lo hi)))
theorem sl_list : SlR X (rSlL X.K) := by
  intro pins s σ H x v vl vu lo hi sl Q I rx hs pl pu h
  obtain ⟨a, xs, rfl, hx, q⟩ := h
  cases rx
  obtain ⟨its, r, ht, hz⟩ := I.list hx
  have hlen := r.length
  refine ⟨"list", _, slot_list_getitem.lookup, ht.isList.typeIs, ?_⟩
  refine wpAny_getItem_list_slice ht.isList hs pl pu .none (by simp) ?_ (by rw [List.size_toArray] <;> omega)
  rw [slicePick_cut, ← hlen]
  refine ⟨.ref s.heap.objs.size, _, I.laid (t' := s.toks) (o := .lst (cutV xs lo hi)) (fun b ob q => Heap.get?_push_of_some _ q) (Nat.le_refl _) ?_, rfl, q _ (I.hok.fresh (Nat.le_refl _))⟩
  exact ⟨Nat.le_trans (cutV_length xs lo hi) hz, _, 0, (r.drop (HT.sIx xs.length 0 lo)).take (HT.sIx xs.length xs.length hi - HT.sIx xs.length 0 lo), Heap.get?_push_size _ rfl⟩
def flatV : V → Bool
  | .non => true
  | .bl _ => true
  | .int _ => true
  | .str _ => true
  | _ => false
def eqV : V → V → Bool
  | .non, .non => true
  | .bl a, .bl b => a == b
  | .bl a, .int b => (if a then 1 else 0) == b
  | .int a, .bl b => a == (if b then 1 else 0)
  | .int a, .int b => a == b
  | .str a, .str b => a == b
  | _, _ => false
theorem eqAt_V {A : Around} {s : Shared} {y x : V} {u v : Value} (ry : RelV y u) (rx : RelV x v) (fy : flatV y = true) (fx : flatV x = true) : SeqAt.EqAt A s u v (eqV y x) := by
  cases y with
  | non =>
    cases ry
    cases x with
    | non => cases rx; exact SeqAt.EqAt.same _
    | bl b => cases rx; exact SeqAt.EqAt.none_bool b
    | int b => obtain ⟨t, rfl⟩ := rx; exact SeqAt.EqAt.none_int b t
    | str b => obtain ⟨t, rfl⟩ := rx; exact SeqAt.EqAt.none_str b t
    | _ => exact absurd (show false = true from fx) Bool.false_ne_true
  | bl a =>
    cases ry
    cases x with
    | non => cases rx; exact SeqAt.EqAt.bool_none a
    | bl b => cases rx; exact SeqAt.EqAt.bool_bool a b
    | int b => obtain ⟨t, rfl⟩ := rx; exact SeqAt.EqAt.bool_int a b t
    | str b => obtain ⟨t, rfl⟩ := rx; exact SeqAt.EqAt.bool_str a b t
    | _ => exact absurd (show false = true from fx) Bool.false_ne_true
  | int a =>
    obtain ⟨t', rfl⟩ := ry
    cases x with
    | non => cases rx; exact SeqAt.EqAt.int_none a t'
    | bl b => cases rx; exact SeqAt.EqAt.int_bool a t' b
    | int b => obtain ⟨t, rfl⟩ := rx; exact SeqAt.EqAt.int_int a t' b t
    | str b => obtain ⟨t, rfl⟩ := rx; exact SeqAt.EqAt.int_str a t' b t
    | _ => exact absurd (show false = true from fx) Bool.false_ne_true
  | str a =>
    obtain ⟨t', rfl⟩ := ry
    cases x with
    | non => cases rx; exact SeqAt.EqAt.str_none a t'
    | bl b => cases rx; exact SeqAt.EqAt.str_bool a t' b
    | int b => obtain ⟨t, rfl⟩ := rx; exact SeqAt.EqAt.str_int a t' b t
    | str b => obtain ⟨t, rfl⟩ := rx; exact SeqAt.EqAt.str_str a t' b t
    | _ => exact absurd (show false = true from fx) Bool.false_ne_true
  | _ => exact absurd (show false = true from fy) Bool.false_ne_true
def eqU (x : V) (u : Value) : Bool := match u with
  | .none => eqV .non x
  | .bool b => eqV (.bl b) x
  | .int i _ => eqV (.int i) x
  | .str z _ => eqV (.str z) x
  | _ => false
theorem eqU_of {x y : V} {u : Value} (r : RelV y u) (f : flatV y = true) : eqU x u = eqV y x := by
  cases y with
  | non => cases r; rfl
  | bl b => cases r; rfl
  | int i => obtain ⟨t, rfl⟩ := r; rfl
  | str z => obtain ⟨t, rfl⟩ := r; rfl
  | _ => exact absurd (show false = true from f) Bool.false_ne_true
theorem any_eqU {x : V} : ∀ {xs : List V} {us : List Value}, Vals xs us → xs.all flatV = true → us.any (eqU x) = xs.any fun y => eqV y x
  | _, _, .nil, _ => rfl
  | y :: xs, u :: us, .cons r t, f => by
    rw [List.all_cons, Bool.and_eq_true] at f
    rw [List.any_cons, List.any_cons, eqU_of r f.1, any_eqU t f.2]
theorem mem_eqAt {A : Around} {s : Shared} {x : V} {v : Value} (rx : RelV x v) (fx : flatV x = true) : ∀ {xs : List V} {us : List Value}, Vals xs us → xs.all flatV = true → ∀ u ∈ us, SeqAt.EqAt A s u v (eqU x u)
  | _, _, .nil, _ => fun u hu => by cases hu
  | y :: xs, u :: us, .cons r t, f => fun u' hu => by
    rw [List.all_cons, Bool.and_eq_true] at f
    rcases List.mem_cons.mp hu with rfl | hu
    · rw [eqU_of r f.1]; exact eqAt_V r rx f.1 fx
    · exact mem_eqAt rx fx t f.2 u' hu
def inV (x : V) (xs : List V) : Bool := xs.any fun y => eqV y x
def rIn (K : PySem.W.Frag) (neg : Bool) : R2 := fun x y H Q => ∃ p xs, y = .ref p ∧ (SqL K H p xs ∨ SqT K H p xs) ∧ flatV x = true ∧ xs.all flatV = true ∧ Q (.bl (if neg then !inV x xs else inV x xs)) H
theorem op_in_seq : OpR X (compareOp .In) (rIn X.K false) := by
  intro pins s σ H x y v u Q I rx ry h
  obtain ⟨p, xs, rfl, hq, fx, fs, q⟩ := h
  cases ry
  rcases hq with hq | hq
  · obtain ⟨its, r, pl, hz⟩ := I.list hq
    refine SeqAt.in_listAt (eqU x) pl.isList (fun w hw => mem_eqAt rx fx r fs w (by simpa using hw)) ⟨.bl _, H, I, rfl, ?_⟩
    rw [show its.toArray.any (eqU x) = its.any (eqU x) by simp, any_eqU r fs]
    exact q
  · obtain ⟨its, r, pl, hz⟩ := I.tuple hq
    refine SeqAt.in_tupleAt (eqU x) pl (fun w hw => mem_eqAt rx fx r fs w (by simpa using hw)) ⟨.bl _, H, I, rfl, ?_⟩
    rw [show its.toArray.any (eqU x) = its.any (eqU x) by simp, any_eqU r fs]
    exact q
theorem op_notIn_seq : OpR X (compareOp .NotIn) (rIn X.K true) := by
  intro pins s σ H x y v u Q I rx ry h
  obtain ⟨p, xs, rfl, hq, fx, fs, q⟩ := h
  cases ry
  rcases hq with hq | hq
  · obtain ⟨its, r, pl, hz⟩ := I.list hq
    refine SeqAt.notIn_listAt (eqU x) pl.isList (fun w hw => mem_eqAt rx fx r fs w (by simpa using hw)) ⟨.bl _, H, I, rfl, ?_⟩
    rw [show its.toArray.any (eqU x) = its.any (eqU x) by simp, any_eqU r fs]
    exact q
  · obtain ⟨its, r, pl, hz⟩ := I.tuple hq
    refine SeqAt.notIn_tupleAt (eqU x) pl (fun w hw => mem_eqAt rx fx r fs w (by simpa using hw)) ⟨.bl _, H, I, rfl, ?_⟩
    rw [show its.toArray.any (eqU x) = its.any (eqU x) by simp, any_eqU r fs]
    exact q
theorem call_len_seq : CallR X (.builtin "len") (fun xs H Q => ∃ p ys, xs = [.ref p] ∧ (SqL X.K H p ys ∨ SqT X.K H p ys) ∧ Q (.int ys.length) H) := by
  intro pins s σ H xs us Q I r h
  obtain ⟨p, ys, rfl, hq, q⟩ := h
  obtain ⟨u, rfl, rx⟩ := vals1 r
  cases rx
  have hn := line63
  rcases hq with hq | hq
  · obtain ⟨its, r', pl, hz⟩ := I.list hq
    have hlen := r'.length
    exact Calls.call_len_list pl.isList (by simp only [List.size_toArray] <;> omega) ⟨.int ys.length, H, I.tok _, ⟨s.toks + 1, by rw [List.size_toArray, hlen]⟩, q⟩
  · obtain ⟨its, r', pl, hz⟩ := I.tuple hq
    have hlen := r'.length
    exact len_tuple pl (by simp only [List.size_toArray] <;> omega) ⟨.int ys.length, H, I.tok _, ⟨s.toks + 1, by rw [List.size_toArray, hlen]⟩, q⟩
theorem call_len_str : CallR X (.builtin "len") (fun xs H Q => ∃ z, xs = [.str z] ∧ z.length ≤ sizeLine ∧ Q (.int z.length) H) := by
  intro pins s σ H xs us Q I r h
  obtain ⟨z, rfl, hz, q⟩ := h
  obtain ⟨u, rfl, t, rfl⟩ := vals1 r
  have hn := line63
  exact len_str (by omega) ⟨.int z.length, H, I.tok _, ⟨_, rfl⟩, q⟩
theorem CallR.or {f : Value} {r r' : List V → Hp → VK → Prop} (h : CallR X f r) (h' : CallR X f r') : CallR X f (fun xs H Q => r xs H Q ∨ r' xs H Q) := by
  intro pins s σ H xs us Q I rs q
  rcases q with q | q
  · exact h pins s σ H xs us Q I rs q
  · exact h' pins s σ H xs us Q I rs q
theorem call_list_of : CallR X (.type "list") (fun xs H Q => ∃ p ys, xs = [.ref p] ∧ (SqL X.K H p ys ∨ SqT X.K H p ys) ∧ ∀ l, H l = none → Q (.ref l) (upd H l (.lst ys))) := by
  intro pins s σ H xs us Q I r h
  obtain ⟨p, ys, rfl, hq, q⟩ := h
  obtain ⟨u, rfl, rx⟩ := vals1 r
  cases rx
  have fin : ∀ (its : List Value), Vals ys its → ys.length ≤ sizeLine → ∀ (h' : Heap) (c' : Nat), (∀ b o', s.heap.get? b = some o' → h'.get? b = some o') →
      h'.get? s.heap.objs.size = some { cls := .type "list", dict := none, data := .seq its.toArray c', slots := #[] } → EP X pins σ Q (.ref s.heap.objs.size) { s with heap := h' } := fun its r' hz h' c' kp e =>
    ⟨.ref s.heap.objs.size, _, I.laid (t' := s.toks) kp (Nat.le_refl _) (show ObjOk X.prog X.w _ h' _ (.lst ys) from ⟨hz, its, c', r', e⟩), rfl, q _ (I.hok.fresh (Nat.le_refl _))⟩
  rcases hq with hq | hq
  · obtain ⟨its, r', pl, hz⟩ := I.list hq
    have hlen := r'.length
    obtain ⟨o, ho, hc, n, hd⟩ := pl.isList
    exact call_list_seq p (.inl rfl) ho hc hd (fun h' c' kp e => fin its r' hz h' c' kp e) (by simp only [List.size_toArray] <;> omega)
  · obtain ⟨its, r', pl, hz⟩ := I.tuple hq
    have hlen := r'.length
    obtain ⟨o, ho, hc, n, hd⟩ := pl
    exact call_list_seq p (.inr rfl) ho hc hd (fun h' c' kp e => fin its r' hz h' c' kp e) (by simp only [List.size_toArray] <;> omega)
theorem call_tuple_of : CallR X (.type "tuple") (fun xs H Q => ∃ p ys, xs = [.ref p] ∧ ((SqL X.K H p ys ∧ ∀ l, H l = none → Q (.ref l) (upd H l (.tup ys))) ∨ (SqT X.K H p ys ∧ Q (.ref p) H))) := by
  intro pins s σ H xs us Q I r h
  obtain ⟨p, ys, rfl, h⟩ := h
  obtain ⟨u, rfl, rx⟩ := vals1 r
  cases rx
  rcases h with ⟨hq, q⟩ | ⟨hq, q⟩
  · obtain ⟨its, r', pl, hz⟩ := I.list hq
    have hlen := r'.length
    refine call_tuple_list pl.isList (fun h' kp => ?_) (by simp only [List.size_toArray] <;> omega)
    have I1 : Inv X pins σ H { s with heap := h' } := I.kept (t' := s.toks) kp
    have I2 : Inv X pins σ (upd H h'.objs.size (.tup ys)) { s with heap := h'.push { cls := .type "tuple", data := .seq its.toArray } } :=
      I1.laid (t' := s.toks) (fun b o e => Heap.get?_push_of_some _ e) (Nat.le_refl _) (show ObjOk X.prog X.w _ _ _ (.tup ys) from ⟨hz, its, r', IsTup.new _ _⟩)
    exact ⟨.ref h'.objs.size, _, I2, rfl, q _ (I1.hok.fresh (Nat.le_refl _))⟩
  · obtain ⟨its, r', pl, hz⟩ := I.tuple hq
    exact call_tuple_same pl ⟨.ref p, H, I, rfl, q⟩
def tyV (K : PySem.W.Frag) (T : String) (x : V) (H : Hp) : Prop := match x with
  | .str _ => T = "str"
  | .int _ => T = "int"
  | .ref p => (T = "list" ∧ ∃ xs, SqL K H p xs) ∨ (T = "tuple" ∧ ∃ o, K.lookup p = some o ∧ o.cls = .type "tuple" ∧ o.dict = none) ∨
      (T = "dict" ∧ ((∃ kvs, H p = some (.dK kvs)) ∨ ∃ kvs, H p = some (.dT kvs))) ∨ (T = "set" ∧ ∃ S n, H p = some (.set S n))
  | _ => False
theorem tyV_is {pins : List (Addr × Obj)} {σ : St} {H : Hp} {s : Shared} {T : String} {x : V} {v : Value} (I : Inv X pins σ H s) (r : RelV x v) (ty : tyV X.K T x H) :
    s.TypeIs v T ∧ ∀ a, v = .ref a → ∃ ob, s.heap.get? a = some ob ∧ ob.dict = none := by
  cases x with
  | str z =>
    obtain ⟨t, rfl⟩ := r
    cases (show T = "str" from ty)
    exact ⟨typeIs_str s z t, fun _ e => nomatch e⟩
  | int i =>
    obtain ⟨t, rfl⟩ := r
    cases (show T = "int" from ty)
    exact ⟨typeIs_int s i t, fun _ e => nomatch e⟩
  | ref p =>
    cases r
    rcases ty with ⟨rfl, xs, hq⟩ | ⟨rfl, o, hk, hc, hd⟩ | ⟨rfl, hk⟩ | ⟨rfl, S, n, hk⟩
    · obtain ⟨its, _, pl, _⟩ := I.list hq
      refine ⟨pl.isList.typeIs, fun a e => ?_⟩
      cases e
      obtain ⟨o, n, e, c, hd, _⟩ := pl
      exact ⟨o, e, hd⟩
    · refine ⟨⟨o, I.kIn p o hk, hc⟩, fun a e => ?_⟩
      cases e
      exact ⟨o, I.kIn _ o hk, hd⟩
    · have z : ∃ o, s.heap.get? p = some o ∧ o.ExactDict := by
        rcases hk with ⟨kvs, hk⟩ | ⟨kvs, hk⟩
        · obtain ⟨_, _, _, _, o, _, _, e, ex, _⟩ := I.hok p _ hk
          exact ⟨o, e, ex⟩
        · obtain ⟨_, _, _, _, o, _, _, e, ex, _⟩ := I.hok p _ hk
          exact ⟨o, e, ex⟩
      obtain ⟨o, e, ex⟩ := z
      refine ⟨⟨o, e, ex.1⟩, fun a e2 => ?_⟩
      cases e2
      exact ⟨o, e, ex.2.1⟩
    · obtain ⟨o, _, _, _, e, ex, _⟩ := I.hok p _ hk
      refine ⟨⟨o, e, ex.1⟩, fun a e2 => ?_⟩
      cases e2
      exact ⟨o, e, ex.2.1⟩
  | _ => exact False.elim ty
def tBM0 (K : PySem.W.Frag) (T : String) (r : V → List V → Hp → VK → Prop) (to : TE) : TE := fun σ H Q => to σ H fun x H1 => tyV K T x H1 ∧ r x [] H1 Q
def tBM (K : PySem.W.Frag) (T : String) (r : V → List V → Hp → VK → Prop) (to : TE) (t : TA) : TE := fun σ H Q => to σ H fun x H1 => tyV K T x H1 ∧ t σ H1 fun xs H2 => r x xs H2 Q
variable {o e : Expr} {es : List Expr} {to : TE} {t : TA} {name : Str} {apos cpos : Pos} {T id : String} {r : V → List V → Hp → VK → Prop}
theorem pe_bm0 (pa : PlainAttrs T) (slot : Slot T name id) (hty : typeOf (.builtin id) = pure (.type "method_descriptor")) (hm : MtR X id r) (ho : PE X o to)
    (hbase : attributeBase o name X.env (eval o X.env) = eval o X.env := by rfl) (hline : (apos.endLine == cpos.line) = true := by rfl) : PE X (.Call (.Attribute o name apos) [] [] cpos) (tBM0 X.K T r to) := by
  intro pins s σ H Q I h
  refine wpAny_Call_method0_late hbase hline (thn (ho pins s σ H _ I h) fun v s1 ⟨x, H1, I1, r1, ty, q1⟩ => ?_)
  obtain ⟨h1, h2⟩ := tyV_is I1 r1 ty
  exact ⟨T, id, pa, slot, hty, h1, h2, Calls.callWith_builtin rfl (PySem.evalArgs_none (hm pins s1 σ H1 x [] v [] Q I1 r1 .nil q1))⟩
theorem pe_bm (pa : PlainAttrs T) (slot : Slot T name id) (hty : typeOf (.builtin id) = pure (.type "method_descriptor")) (hm : MtR X id r) (ho : PE X o to) (ha : PA X (e :: es) t)
    (hbase : attributeBase o name X.env (eval o X.env) = eval o X.env := by rfl)
    (hfew : ((backTo cpos (starEach (e :: es) X.env)).all (fun x => !x.1) && (backToKw cpos (keywordEach [] X.env)).all (fun x => x.1.isSome)
      && decide ((e :: es).length + ([] : List Keyword).length + (if ([] : List Keyword).isEmpty then 0 else 1) < 30)) = true := by rfl)
    (hline : (apos.endLine == cpos.line) = true := by rfl) (hs : starEach (e :: es) X.env = (false, eval e X.env) :: starEach es X.env := by rfl) (hplain : (backTo cpos (starEach es X.env)).any (·.1) = false := by rfl) :
    PE X (.Call (.Attribute o name apos) (e :: es) [] cpos) (tBM X.K T r to t) := by
  intro pins s σ H Q I h
  refine wpAny_Call_method_late hbase hfew hline rfl (thn (ho pins s σ H _ I h) fun v s1 ⟨x, H1, I1, r1, ty, q1⟩ => ?_)
  obtain ⟨h1, h2⟩ := tyV_is I1 r1 ty
  refine ⟨T, id, pa, slot, hty, h1, h2, ?_⟩
  have hA := ha cpos pins s1 σ H1 _ I1 q1
  rw [hs] at hA ⊢
  refine Calls.callWith_builtin (by show (false || (backTo cpos (starEach es X.env)).any (·.1)) = false; rw [hplain] <;> rfl) (Calls.evalArgs_plain ?_)
  exact thn hA fun us s2 ⟨vs, H2, I2, r2, q2⟩ => hm pins s2 σ H2 x vs v us Q I2 r1 r2 q2
/- xs.append(e), list.index on a module's tuple .. are MtR facts of 06m -/
end
end L2
namespace L2
open PySem PySem.Spec PyProof.Rows
def MtM (X : Cx) (id : String) (r : V → List V → Hp → VK → Prop) : Prop :=
  ∀ (pins : List (Addr × Obj)) (s : Shared) (σ : St) (H : Hp) (x : V) (xs : List V) (v : Value) (us : List Value) (Q : VK), Inv X pins σ H s → RelV x v → Vals xs us → r x xs H Q →
    wpAny (model X.prog X.w) X.A (call (.builtin id) (v :: us)) (EP X pins σ Q) X.xe s
theorem Vals.one : ∀ {x : V} {us : List Value}, Vals [x] us → ∃ u, us = [u] ∧ RelV x u
  | _, _, .cons r .nil => ⟨_, rfl, r⟩
theorem Vals.two : ∀ {x y : V} {us : List Value}, Vals [x, y] us → ∃ u v, us = [u, v] ∧ RelV x u ∧ RelV y v
  | _, _, _, .cons r (.cons q .nil) => ⟨_, _, rfl, r, q⟩
theorem Vals.zero : ∀ {us : List Value}, Vals [] us → us = []
  | _, .nil => rfl
theorem Vals.eraseIdx : ∀ {xs : List V} {us : List Value} (i : Nat), Vals xs us → Vals (xs.eraseIdx i) (us.eraseIdx i)
  | _, _, _, .nil => .nil
  | _, _, 0, .cons _ t => t
  | _, _, i + 1, .cons r t => .cons r (Vals.eraseIdx i t)
section
variable {X : Cx} {pins : List (Addr × Obj)} {σ : St} {H : Hp} {s : Shared} {l b : Addr} {xs ys zs : List V}
theorem Inv.lset {its its' : List Value} {n : Nat} {f : Array Value → Array Value} {t' : Nat} (I : Inv X pins σ H s) (hH : H l = some (.lst xs))
    (e : s.heap.get? l = some { cls := .type "list", data := .seq its.toArray n }) (hf : f its.toArray = its'.toArray) (hv : Vals ys its') (hz : ys.length ≤ sizeLine) :
    Inv X pins σ (upd H l (.lst ys)) { s with heap := s.heap.update l (Obj.mapSeq f), toks := t' } := by
  have q := PySem.IsL.update e f
  rw [hf] at q
  refine I.write (x := l) (e := l) (by rw [hH]; exact trivial) (.inl rfl) (fun b' u hb hu => (Heap.get?_update_other s.heap (Obj.mapSeq f) (Ne.symm hb)).trans hu) ⟨_, q⟩ ?_
  exact ⟨hz, its', _, hv, q⟩
theorem Inv.lnew {its : List Value} {t' : Nat} (I : Inv X pins σ H s) (hv : Vals ys its) (hz : ys.length ≤ sizeLine) :
    Inv X pins σ (upd H s.heap.objs.size (.lst ys)) { s with heap := s.heap.push { cls := .type "list", data := .seq its.toArray }, toks := t' } :=
  I.laid (fun _ _ q => Heap.get?_push_of_some _ q) (Nat.le_refl _) ⟨hz, its, 0, hv, Heap.get?_push_size _ rfl⟩
theorem Inv.fresh (I : Inv X pins σ H s) : H s.heap.objs.size = none := I.hok.fresh (Nat.le_refl _)
theorem Inv.lstM (I : Inv X pins σ H s) (hH : H l = some (.lst xs)) : xs.length ≤ sizeLine ∧ ∃ (its : List Value) (n : Nat), Vals xs its ∧ xs.length = its.length ∧ s.heap.get? l = some { cls := .type "list", data := .seq its.toArray n } := by
  obtain ⟨z, its, n, r, e⟩ := I.hok l _ hH
  exact ⟨z, its, n, r, r.length, e⟩
end
section
variable {X : Cx}
def rAppend : V → List V → Hp → VK → Prop := fun x vs H Q => ∃ l xs y, x = .ref l ∧ vs = [y] ∧ H l = some (.lst xs) ∧ xs.length < sizeLine ∧ Q .non (upd H l (.lst (xs ++ [y])))
theorem mt_append : MtM X "list.append" rAppend := by
  intro pins s σ H x vs v us Q I rx rv h
  obtain ⟨l, xs, y, rfl, rfl, hH, hz, q⟩ := h
  cases rx
  obtain ⟨u, rfl, ru⟩ := rv.one
  obtain ⟨z, its, n, r, hl, e⟩ := I.lstM hH
  refine call_meets F.slot_list_append ⟨_, e, rfl⟩ F.entry_list_append (F.args_list_append_2 _ _) (PySem.list_append l its.toArray n u (by rw [List.size_toArray]; omega)) ⟨e, ?_⟩
  refine ⟨.non, _, I.lset (its' := its ++ [u]) hH e (by simp) (r.append (.cons ru .nil)) ?_, rfl, q⟩
  rw [List.length_append, List.length_singleton]
  omega
def rClear : V → List V → Hp → VK → Prop := fun x vs H Q => ∃ l xs, x = .ref l ∧ vs = [] ∧ H l = some (.lst xs) ∧ Q .non (upd H l (.lst []))
theorem mt_clear : MtM X "list.clear" rClear := by
  intro pins s σ H x vs v us Q I rx rv h
  obtain ⟨l, xs, rfl, rfl, hH, q⟩ := h
  cases rx
  have hus := rv.zero
  subst hus
  obtain ⟨z, its, n, r, hl, e⟩ := I.lstM hH
  refine call_meets F.slot_list_clear ⟨_, e, rfl⟩ F.entry_list_clear (F.args_list_clear_1 _) (AutoSeq1.list_clear_list_0 l its.toArray n (by rw [List.size_toArray]; omega)) ⟨e, ?_⟩
  exact ⟨.non, _, I.lset (its' := []) (ys := []) hH e rfl .nil (Nat.zero_le _), rfl, q⟩
def rCat : R2 := fun x y H Q => ∃ l b xs zs, x = .ref l ∧ y = .ref b ∧ H l = some (.lst xs) ∧ H b = some (.lst zs) ∧ xs.length + zs.length ≤ sizeLine ∧ ∀ p, H p = none → Q (.ref p) (upd H p (.lst (xs ++ zs)))
theorem op_cat : OpR X (binaryOp .Add) rCat := by
  intro pins s σ H x y v u Q I rx ry h
  obtain ⟨l, b, xs, zs, rfl, rfl, hH, hB, hz, q⟩ := h
  cases rx
  cases ry
  obtain ⟨z, its, n, r, hl, e⟩ := I.lstM hH
  obtain ⟨z2, its2, n2, r2, hl2, e2⟩ := I.lstM hB
  refine PySem.P.add_list e e2 ?_ (by rw [List.size_toArray, List.size_toArray]; omega)
  have ea : its.toArray ++ its2.toArray = (its ++ its2).toArray := by simp
  rw [ea]
  exact ⟨.ref _, _, I.lnew (t' := s.toks) (r.append r2) (by rw [List.length_append]; omega), rfl, q _ I.fresh⟩
end
section
variable {prog : Program} {w : World} {A : Around} {E : Value → Shared → Prop} {s : Shared}
end
section
variable {X : Cx}
end
end L2
namespace Att
open PySem PySem.W PySem.Calls PyProof.Rows
theorem ints_of_wellAll {P : Params} {h : Heap} : ∀ (ns : List Int) (vs : List Value), WellAll P h vs (ns.map WData.int) → IntsAre vs ns := by
  intro ns
  induction ns with
  | nil =>
    intro vs w
    rw [List.map_nil] at w
    cases w
    exact .nil
  | cons n ns ih =>
    intro vs w
    rw [List.map_cons] at w
    cases w with
    | cons a b =>
      cases a
      exact .cons _ _ (ih _ b)
theorem script_of {l : OpenLaw} {n : Nat} (hn : l.most = some n) {P : Params} {h : Heap} {args : List WData} {vals : List Value}
    (hpre : l.row.toRowW.claim.pre args = true) (hwl : WellAll P h vals args) :
    ∃ a vs ns, vals = [Value.ref a] ∧ args = [WData.list (ns.map WData.int)] ∧ h.get? a = some { cls := .type "list", data := .seq vs.toArray } ∧ IntsAre vs ns ∧ ns.length ≤ n := by
  have hsh : WShape.hasAll [] args [.list .int] = true := (pre_splitW hpre).1
  have hc : l.pre.holds [] { args := args } = true := (pre_splitW hpre).2
  obtain ⟨d, r, rfl, h1, h2⟩ := hasAllW_cons hsh
  obtain rfl := hasAllW_nil h2
  obtain ⟨xs, rfl, h3⟩ := hasW_list h1
  obtain ⟨ns, rfl⟩ := items_int h3
  have hlen : ns.length ≤ n := by
    unfold OpenLaw.pre at hc
    have h4 : (WTm.not (.lt (.lit (.int (n : Int))) (.len (.arg 0)))).holds [] { args := [.list (ns.map .int)] } = true := by
      have h4 := (holds_andW hc).1
      rw [hn] at h4
      exact h4
    have h5 := condW_of h4 (w_not (w_lt w_lit (w_len_list (w_arg rfl))))
    rw [List.length_map] at h5
    refine Nat.le_of_not_lt fun q => ?_
    have q' : (n : Int) < ((ns.length : Nat) : Int) := by omega
    first
      | (rw [decide_eq_true q'] at h5; exact absurd h5 (by decide))
      | (simp at h5; omega)
  cases hwl with
  | cons w1 w2 =>
    cases w2
    cases w1 with
    | list ho hall => exact ⟨_, _, ns, rfl, rfl, ho, ints_of_wellAll ns _ hall, hlen⟩
theorem post_true (l : OpenLaw) (args : List WData) : l.row.toRowW.claim.post args (.bool true) args = true :=
  postW_of (r := l.row.toRowW) (X := (true == true))
    (show WShape.has [] (.bool true) .bool = true by first | rfl | decide | simp [WShape.has, WShape.arms, WShape.armsAll])
    (show (WTm.eq .res (.lit (.bool true))).value [] { args := args, res := some (.bool true), after := args } = some (.bool (true == true)) from w_eq_bool (w_res rfl) w_lit) rfl
theorem attach_call {l : OpenLaw} {n : Nat} {q : Program} {loose : List Str} {XP : (Str → Option Value) → Heap → Prop} {YP : World → Heap → Prop} {d : DefRec}
    (hn : l.most = some n) (hdf : d.params.defaults = [])
    (call : ∀ (w : World) (s₀ s₁ : Shared) (mg mb : Str → Option Value) (fa : Addr) (o : Obj) (pm cd doc : Value) (a : Addr) (vs : List Value) (ns : List Int),
      Ground q loose [] XP w s₀ mg mb s₁.heap → YP w s₁.heap →
      s₁.heap.get? fa = some o → o.data = .func (docDef d.name d.params d.body d.scope pm cd doc) → s₁.heap.CodeRec cd d.name → mg d.name = some (.ref fa) →
      s₁.heap.get? a = some { cls := .type "list", data := .seq vs.toArray } → IntsAre vs ns → ns.length ≤ n → s₁.gens = #[] →
      codeAny (model l.prog w) callerA (.call (.ref fa) ⟨[.ref a], []⟩) (fun r s' => r = .ok (.ret (.bool true)) ∧ OldK s₁.heap s'.heap ∧ s'.os = s₁.os ∧ AllBare s'.gens) s₁) :
    WalkO q loose XP YP l.row.toRowW d [] (fun f vs => PySem.call f vs) := by
  intro w s₀ s₁ mg mb G Y fa o pm cd doc dV kV ho hd hcd hD hmg hg args vals as hpre hlay hrd hwl hlo
  obtain rfl : dV = .none := Dflts.none hD hdf
  obtain rfl : kV = .none := Dflts.noKw hD
  obtain ⟨a, vs, ns, rfl, rfl, hobj, hints, hlen⟩ := script_of hn hpre hwl
  refine enter_call (codeAny_mono (call w s₀ s₁ mg mb fa o pm cd doc a vs ns G Y ho (fd_plain hd) hcd hmg hobj hints hlen hg) fun r s' hq => ?_)
  obtain ⟨rfl, h2, h3, h4⟩ := hq
  exact ⟨.inl ⟨.bool true, .bool true, [], rfl, fun _ => rfl, .bool true, post_true l _, fun _ => ⟨List.Pairwise.nil, fun _ hm => (nomatch hm)⟩⟩, h2, h3, h4⟩
section
variable {prog : Program} {w : World} {A : Around} {E : Value → Shared → Prop} {s : Shared} {K : Frag}
end
end Att
namespace L2
open PySem PySem.Spec PyProof.Rows
theorem vals_ints : ∀ {vs : List Value} {ns : List Int}, IntsAre vs ns → Vals (ns.map V.int) vs
  | _, _, .nil => .nil
  | _, _, .cons n t h => .cons ⟨t, rfl⟩ (vals_ints h)
def Only (H : Hp) : Prop := ∀ b, H b = none ∨ ∃ o xs, H b = some (.frz o (.lst xs))
theorem law_call {P : Program} {w : World} {K : PySem.W.Frag} {mg mb : Str → Option Value} {CX : CXT} {k : Nat} {fa a : Addr} {fd : FuncData} {x : Str} {sp : Sp} {s₁ : Shared} {vs : List Value} {ns : List Int}
    (KX : K.In s₁.heap) (hns : s₁.heap.Ns mainGlobals mg) (hb : s₁.heap.Ns builtinsNs mb) (hbb : ∀ x : Str, x ≠ "__name__" → mb x = bootBuiltins x) (hlim : s₁.heap.NoLimit) (hg : s₁.gens = #[])
    (ha : s₁.heap.get? a = some { cls := .type "list", data := .seq vs.toArray }) (hi : IntsAre vs ns) (hl : ns.length ≤ sizeLine) (hr : Room k callerA)
    (F : ∀ base : Heap, K.In base → base.Ns mainGlobals mg → FnOk P w K mg base CX k fa fd [x] sp) (hbind : ∀ (s : Shared) (u : Value), BindsTo s fd ⟨[u], []⟩ [(x, u)])
    (hsp : ∀ H : Hp, Only H → SqL K H a (ns.map V.int) → sp [.ref a] H (fun v _ => v = .bl true) fun _ _ _ => False)
    (hCX : ∀ H e s', CX [] H s₁ (fun _ _ _ => False) e s' → False) :
    codeAny (model P w) callerA (.call (.ref fa) ⟨[.ref a], []⟩) (fun r s' => r = .ok (.ret (.bool true)) ∧ OldK s₁.heap s'.heap ∧ s'.os = s₁.os ∧ AllBare s'.gens) s₁ := by
  have rv := vals_ints hi
  have lenV := hi.length
  have core : ∀ H : Hp, Only H → SqL K H a (ns.map V.int) → HOk P w H s₁.heap → (∀ b, H b ≠ none → b = a) → (H a ≠ none → K.lookup a = none) →
      codeAny (model P w) callerA (.call (.ref fa) ⟨[.ref a], []⟩) (fun r s' => r = .ok (.ret (.bool true)) ∧ OldK s₁.heap s'.heap ∧ s'.os = s₁.os ∧ AllBare s'.gens) s₁ := by
    intro H hO hS hok hA hK
    have base_of : ∀ {b : Addr} {o : Obj}, s₁.heap.get? b = some o → H b = none → (hidT s₁.heap H).get? b = some o := fun e n => hidT_get e n
    have noA : ∀ {b : Addr} {o : Obj} {es : Array DictEntry} {ep : Nat}, s₁.heap.get? b = some o → o.data = .dict es ep → H b = none := fun {b o es ep} e d => by
      cases q : H b with
      | none => rfl
      | some u =>
        have e' : b = a := hA b (by rw [q]; simp)
        subst e'
        rw [ha] at e; cases e
        have d' : Data.seq vs.toArray _ = Data.dict es ep := d
        cases d'
    have nsK : ∀ {b : Addr} {m : Str → Option Value}, s₁.heap.Ns b m → (hidT s₁.heap H).Ns b m := fun {b m} ⟨o, es, ep, e, d, r⟩ => ⟨o, es, ep, base_of e (noA e d), d, r⟩
    have hKb : K.In (hidT s₁.heap H) := fun b o e => base_of (KX b o e) (by
      cases q : H b with
      | none => rfl
      | some u =>
        have e' : b = a := hA b (by rw [q]; simp)
        subst e'
        rw [hK (by rw [q]; simp)] at e; cases e)
    have hM : Mod K mg (hidT s₁.heap H) := ⟨hKb, nsK hns, ⟨mb, nsK hb, hbb⟩, let ⟨mc, h1, h2⟩ := hlim; ⟨mc, nsK h1, h2⟩⟩
    have e0 : Env0 P w K mg (hidT s₁.heap H) callerA [] s₁ H := ⟨rfl, hM, fun b o e => of_hidT e, Nat.le_of_eq (hidT_size _ _), trivial, fun b hb => absurd (show b ∈ ([] : List Addr) from hb) (by simp), hok, .of_eq hg⟩
    refine codeAny_mono ((F _ hKb (nsK hns)).run callerA [] s₁ H ⟨[.ref a], []⟩ [.ref a] [.ref a] _ _ hr e0 (hbind s₁ (.ref a)) (.cons rfl .nil) (hsp H hO hS)) fun r s' h => ?_
    cases r with
    | error e => exact (hCX H e s' h).elim
    | ok fl =>
      cases fl with
      | next => exact False.elim h
      | brk => exact False.elim h
      | cont => exact False.elim h
      | ret u =>
        obtain ⟨v, H', os, bare, un, hok', r', q⟩ := h
        have q' : v = .bl true := q
        subst q'
        obtain rfl : u = Value.bool true := r'
        refine ⟨rfl, OldK.of_keep fun b o e => ?_, os, bare⟩
        cases q : H b with
        | none => exact un.keep b o e q (by intro z; exact absurd (show b ∈ ([] : List Addr) from z) (by simp)) (by simp)
        | some u =>
          rcases hO b with z | ⟨ob, xs, z⟩
          · rw [q] at z; cases z
          · have z2 := un.frzs b ob _ z
            obtain ⟨e1, _⟩ := hok b _ z
            obtain ⟨e2, _⟩ := hok' b _ z2
            rw [e] at e1; cases e1
            exact e2
  cases hk : K.lookup a with
  | some o =>
    have e := KX a o hk
    rw [ha] at e
    cases e
    refine core (fun _ => none) (fun _ => .inl rfl) (.inr ⟨_, vs.toArray, _, hk, rfl, rfl, rfl, by rw [List.size_toArray, lenV]; exact hl, by simpa using rv⟩) (fun b u z => by have z' : (none : Option HO) = some u := z; cases z') (fun b z => absurd rfl z) fun z => absurd rfl z
  | none =>
    refine core (fun b => if b = a then some (.frz { cls := .type "list", data := .seq vs.toArray } (.lst (ns.map V.int))) else none) (fun b => ?_) (.inl (.inr ⟨{ cls := .type "list", data := .seq vs.toArray }, if_pos rfl⟩)) (fun b u z => ?_) (fun b z => ?_) fun _ => hk
    · by_cases hb : b = a
      · exact .inr ⟨_, _, if_pos hb⟩
      · exact .inl (if_neg hb)
    · by_cases hb : b = a
      · have z' := (if_pos hb).symm.trans z
        cases z'
        subst hb
        exact ⟨ha, by rw [List.length_map]; exact hl, vs, _, rv, ha⟩
      · have z' := (if_neg hb).symm.trans z
        cases z'
    · by_cases hb : b = a
      · exact hb
      · exact absurd (if_neg hb) z
end L2
namespace L2
open PySem PySem.Spec PyProof.Rows
abbrev KOf {K : PySem.W.Frag} {h : Heap} (_ : K.In h) : PySem.W.Frag := K
theorem walk_of {l : PySem.W.OpenLaw} {n k : Nat} {q : Program} {loose : List Str} {XP : (Str → Option Value) → Heap → Prop} {YP : World → Heap → Prop} {d : DefRec} {K : Params → PySem.W.Frag} {CX : World → CXT} {sp : World → Sp} {x : Str}
    (hn : l.most = some n) (hn2 : n ≤ sizeLine) (hdf : d.params.defaults = []) (hr : Room k callerA)
    (hY : ∀ (w : World) (h : Heap), YP w h → (K w.params).In h)
    (F : ∀ (w : World) (mg : Str → Option Value) (fa : Addr) (h : Heap), (K w.params).In h → h.Ns mainGlobals mg → mg d.name = some (.ref fa) →
      ∃ fd : FuncData, (∀ (s : Shared) (u : Value), BindsTo s fd ⟨[u], []⟩ [(x, u)]) ∧
        ∀ base : Heap, (K w.params).In base → base.Ns mainGlobals mg → FnOk l.prog w (K w.params) mg base (CX w) k fa fd [x] (sp w))
    (hsp : ∀ (w : World) (H : Hp) (a : Addr) (ns : List Int), ns.length ≤ n → Only H → SqL (K w.params) H a (ns.map V.int) → sp w [.ref a] H (fun v _ => v = .bl true) fun _ _ _ => False)
    (hCX : ∀ (w : World) (H : Hp) (s : Shared) (e : Value) (s' : Shared), CX w [] H s (fun _ _ _ => False) e s' → False) :
    PySem.W.WalkO q loose XP YP l.row.toRowW d [] (fun f vs => PySem.call f vs) := by
  refine Att.attach_call hn hdf fun w s₀ s₁ mg mb fa o pm cd doc a vs ns G Y ho hd hcd hmg hobj hints hlen hg => ?_
  have KX := hY w _ Y
  obtain ⟨fd, hb, hF⟩ := F w mg fa _ KX G.T.g hmg
  exact law_call KX G.T.g G.T.b G.T.builtins G.T.nolimit hg hobj hints (Nat.le_trans hlen hn2) hr hF hb (fun H hO hS => hsp w H a ns hlen hO hS) fun H e s' => hCX w H s₁ e s'
end L2
/- THE LAST THEOREM (shape; LID, My.* are yours):
   My.Adr: a structure of the addresses that your layer names (classes, functions); My.Txt K t: a structure (Prop) of the equations over K;
   My.txt_mk : {K} {implicit addresses ..} (e1 : nsIn K mainGlobals "law" = some (some (.ref f))) (e2 : K.lookup f = some ⟨oc, od, .func (fnOf "law" "law" params body scope dV kV doc pm an cdv ct), sl⟩) (e3 : codeIn K cdv "law" = true) .. : ∃ t, My.Txt K t
set_option maxRecDepth 100000 in
set_option maxHeartbeats 0 in
theorem PySem.Challenge.cw_LID_holds : PySem.Challenge.rw_LID.Holds := by
  w_on; o_law; k_head; (case hw => w_witness2)
  k_fill
  refine L2.walk_of (l := PySem.Challenge.rw_LID) (n := 63) (k := 40) (x := "script") (CX := fun w => ..) (sp := fun _ => My.sp_law) rfl (by decide) rfl ⟨rfl, by decide, by decide⟩ (fun w h Y => PySem.W.kIn_of Y) ?F ?S ?C
  case F =>
    intro w mg fa h KX G hmg
    have T : ∃ t, My.Txt (L2.KOf KX) t := by
      dsimp only [L2.KOf]                          -- K must stand as «<heap const> w.params» for k_is
      refine' My.txt_mk ?e1 ?e2 ?e3 ..
      (case e1 => PySem.W.k_is)                    -- in the order: a name -> its address -> its object -> its parts
      (case e2 => PySem.W.k_is)
      ..
    obtain ⟨t, T⟩ := T
    have e0 := hmg.symm.trans (PySem.W.mg_of KX G T.law)
    cases e0                                       -- fa is the law's own address
    exact ⟨_, fun s u => .of_eq rfl, fun base kb nb => My.law_fn T kb nb⟩     -- if «.of_eq rfl» comes too early: refine' ⟨_, ?b, fun base kb nb => My.law_fn T kb nb⟩; exact fun s u => .of_eq rfl
  case S => exact fun w H a ns hl hO hS => ..
  case C => exact ..
(the tactic k_is has no namespace: write k_is) -/
namespace L2
open PySem PySem.Spec PyProof.Rows
def inClass (s : Stmt) (j : Nat) : Stmt := match s with
  | .ClassDef _ _ _ body _ _ _ _ _ _ _ => body.getD j (.Pass ⟨0, 0, 0, 0⟩)
  | _ => .Pass ⟨0, 0, 0, 0⟩
def defArgs (s : Stmt) : Arguments := match s with
  | .FunctionDef _ a _ _ _ _ _ _ _ _ => a
  | _ => { posonlyargs := [], args := [], vararg := none, kwonlyargs := [], kw_defaults := [], kwarg := none, defaults := [] }
def defBody (s : Stmt) : List Stmt := match s with
  | .FunctionDef _ _ b _ _ _ _ _ _ _ => b
  | _ => []
def defScope (s : Stmt) : Scope := match s with
  | .FunctionDef _ _ _ _ _ _ sc _ _ _ => sc
  | _ => { kind := .function, names := [], isGenerator := false, isCoroutine := false }
abbrev CX0 : CXT := fun _ _ _ _ _ _ => False
abbrev E0 : XK := fun _ _ _ => False
theorem pass0 {X : Cx} : Passes CX0 X E0 := fun _ _ _ _ _ _ _ h => h.elim
structure Fun (K : PySem.W.Frag) (x qual : Str) (st : Stmt) (f : Addr) (fd : FuncData) : Prop where
  ex : ∃ (oc : Value) (od : Option Addr) (kV doc pm : Value) (an : Option Addr) (cdv ct : Value) (osl : Array (Option Value)),
    fd = PySem.W.fnOf x qual (defArgs st) (defBody st) (defScope st) .none kV doc pm an cdv ct ∧ K.lookup f = some ⟨oc, od, .func fd, osl⟩ ∧ PySem.W.codeIn K cdv qual = true
  kp : PySem.W.keepIn K (.ref f) = true
section
variable {P : Program} {w : World} {K : PySem.W.Frag} {mg : Str → Option Value} {base : Heap}
theorem Fun.ok {x qual : Str} {st : Stmt} {f : Addr} {fd : FuncData} {N ps : List Str} {k : Nat} {sp : Sp} (F : Fun K x qual st f fd) (S : FnScope N ps (defScope st)) (len : ∀ vs H Q E, sp vs H Q E → vs.length = ps.length)
    (hbody : ∀ (cdv : Value) (A : Around) (outer : List Env) (s : Shared) (H : Hp) (vs : List V) (Q : VK) (E : XK), Room k (A.deeper (envOfC qual (defScope st) s.heap.objs.size f cdv)) → sp vs H Q E →
      ∃ t, PSs (cxOf CX0 P w K mg base N qual (defScope st) f cdv A outer s H E).nox (defBody st) t ∧ t { nx := fun _ H' => Q .non H', rt := Q } (start N vs) H) : FnOk P w K mg base CX0 (k + 1) f fd ps sp := by
  obtain ⟨oc, od, kV, doc, pm, an, cdv, ct, osl, rfl, lk, hcd⟩ := F.ex
  refine fn_of lk hcd S len fun A outer s H vs Q E hr hsp => ?_
  obtain ⟨t, h, q⟩ := hbody cdv A outer s H vs Q E hr hsp
  exact ⟨t, h.nox, q⟩
theorem Fun.binds {x qual : Str} {st : Stmt} {f : Addr} {fd : FuncData} {ps : List Str} (F : Fun K x qual st f fd)
    (h : ∀ (kV doc pm : Value) (an : Option Addr) (cdv ct : Value) (us : List Value), us.length = ps.length → bindArgs (PySem.W.fnOf x qual (defArgs st) (defBody st) (defScope st) .none kV doc pm an cdv ct) ⟨us, []⟩ = pure (ps.zip us)) : Binds K fd ps [] := by
  obtain ⟨oc, od, kV, doc, pm, an, cdv, ct, osl, rfl, lk, hcd⟩ := F.ex
  exact .all (h kV doc pm an cdv ct)
theorem fun_mk {x qual : Str} {st : Stmt} {f : Addr} {oc : Value} {od an : Option Addr} {osl : Array (Option Value)} {kV doc pm cdv ct : Value} (l : K.lookup f = some ⟨oc, od, .func (PySem.W.fnOf x qual (defArgs st) (defBody st) (defScope st) .none kV doc pm an cdv ct), osl⟩)
    (c : PySem.W.codeIn K cdv qual = true) (k : PySem.W.keepIn K (.ref f) = true) : Fun K x qual st f (PySem.W.fnOf x qual (defArgs st) (defBody st) (defScope st) .none kV doc pm an cdv ct) := ⟨⟨oc, od, kV, doc, pm, an, cdv, ct, osl, rfl, l, c⟩, k⟩
end
theorem small1000 {n : Nat} (h : n ≤ 1000) : n < sizeLine := Nat.lt_of_le_of_lt h (by decide)
section
variable {X : Cx}
theorem pv (i : Nat) {x : Str} {pos : Pos} (hN : X.N[i]? = some x := by rfl) (hv : Vis X.env.scope x := by first | exact Or.inl rfl | exact Or.inr (Or.inl rfl) | exact Or.inr (Or.inr rfl)) (hd : (x == ("__debug__" : Str)) = false := by decide)
    (hcd : (x == ("__classdict__" : Str)) = false := by decide) : PE X (.Name x pos) (tVar i) := pe_var hN hv hd hcd
end
theorem iteF {A B : Prop} (h : B) : if false = true then A else B := by
  rw [if_neg Bool.false_ne_true]
  exact h
theorem iteT {A B : Prop} (h : A) : if true = true then A else B := by
  rw [if_pos rfl]
  exact h
theorem ite2 {c A B : Prop} [Decidable c] (h1 : c → A) (h2 : ¬ c → B) : if c then A else B := by
  by_cases h : c
  · rw [if_pos h]
    exact h1 h
  · rw [if_neg h]
    exact h2 h
def Same (H H' : Hp) : Prop := ∀ b o, H b = some o → H' b = some o
theorem Same.refl (H : Hp) : Same H H := fun _ _ h => h
theorem Same.trans {H H1 H2 : Hp} (a : Same H H1) (b : Same H1 H2) : Same H H2 := fun c o h => b c o (a c o h)
theorem Same.free {H H' : Hp} (e : Same H H') {l : Addr} (h : H' l = Option.none) : H l = Option.none := by
  cases q : H l with
  | none => rfl
  | some o =>
    rw [e l o q] at h
    cases h
theorem Same.seq {K : PySem.W.Frag} {H H' : Hp} {a : Addr} {xs : List V} (e : Same H H') (h : SqL K H a xs) : SqL K H' a xs := by
  rcases h with (h | ⟨o, h⟩) | h
  · exact .inl (.inl (e _ _ h))
  · exact .inl (.inr ⟨o, e _ _ h⟩)
  · exact .inr h
end L2
namespace L2
open PySem PySem.Spec PyProof.Rows
def clGo (cells : List (Str × Addr)) : List (Str × NameKind) → List (Str × Addr) → List (Str × Addr)
  | [], cs => cs
  | (n, k) :: r, cs => clGo cells r (if k == .free then (match cells.lookup n with | some c => (n, c) :: cs | none => cs) else cs)
def clOf (sc : Scope) (cells : List (Str × Addr)) : List (Str × Addr) := clGo cells sc.names []
theorem closure_of {sc : Scope} {env : Env} (h : ∀ y ∈ sc.names, y.2 = .free → ∃ c, env.cells.lookup y.1 = some c) : closureFor sc env = pure (clOf sc env.cells) := by
  have go : ∀ (l : List (Str × NameKind)) (cs : List (Str × Addr)), (∀ y ∈ l, y.2 = .free → ∃ c, env.cells.lookup y.1 = some c) →
      (forIn l cs (fun (x : Str × NameKind) (r : List (Str × Addr)) => (match x with | (name, kind) => if kind == NameKind.free then (do let c ← cellOf env name; pure (ForInStep.yield ((name, c) :: r))) else pure (ForInStep.yield r) : Sem (ForInStep (List (Str × Addr)))))) = pure (clGo env.cells l cs) := by
    intro l
    induction l with
    | nil => intro cs _; rfl
    | cons y r ih =>
      intro cs h
      obtain ⟨n, k⟩ := y
      have hr : ∀ y ∈ r, y.2 = .free → ∃ c, env.cells.lookup y.1 = some c := fun y hy => h y (List.mem_cons_of_mem _ hy)
      rw [List.forIn_cons]
      by_cases hk : k = .free
      · subst hk
        obtain ⟨c, e⟩ := h (n, .free) List.mem_cons_self rfl
        have e' : env.cells.lookup n = some c := e
        simp only [beq_self_eq_true, if_true, cellOf, e', pure_bind, clGo]
        exact ih _ hr
      · have hb : (k == NameKind.free) = false := by simpa using hk
        simp only [hb, Bool.false_eq_true, if_false, pure_bind, clGo]
        exact ih _ hr
  unfold closureFor clOf
  refine Eq.trans (bind_pure _) ?_
  exact go sc.names [] h
theorem clGo_sub {cells : List (Str × Addr)} : ∀ (l : List (Str × NameKind)) (cs : List (Str × Addr)), (∀ x c, cs.lookup x = some c → cells.lookup x = some c) → ∀ x c, (clGo cells l cs).lookup x = some c → cells.lookup x = some c
  | [], _, h, x, c, e => h x c e
  | (n, k) :: r, cs, h, x, c, e => by
    refine clGo_sub r _ (fun y d z => ?_) x c e
    by_cases hk : (k == NameKind.free) = true
    · rw [if_pos hk] at z
      cases q : cells.lookup n with
      | none => rw [q] at z; exact h y d z
      | some a =>
        rw [q] at z
        have z' : List.lookup y ((n, a) :: cs) = some d := z
        rw [List.lookup_cons] at z'
        cases hy : y == n with
        | true =>
          rw [hy] at z'
          have ey : y = n := by simpa using hy
          rw [ey, q]
          exact z'
        | false =>
          rw [hy] at z'
          exact h y d z'
    · rw [if_neg hk] at z
      exact h y d z
theorem clGo_has {cells : List (Str × Addr)} : ∀ (l : List (Str × NameKind)) (cs : List (Str × Addr)) (x : Str), ((x, NameKind.free) ∈ l ∧ (∃ c, cells.lookup x = some c)) ∨ (∃ c, cs.lookup x = some c) → ∃ c, (clGo cells l cs).lookup x = some c
  | [], cs, x, h => by
    rcases h with ⟨h, _⟩ | h
    · cases h
    · exact h
  | (n, k) :: r, cs, x, h => by
    refine clGo_has r _ x ?_
    have put : (∃ c, cs.lookup x = some c) → ∃ c, (if (k == NameKind.free) = true then (match cells.lookup n with | some c => (n, c) :: cs | none => cs) else cs).lookup x = some c := fun ⟨c, e⟩ => by
      by_cases hk : (k == NameKind.free) = true
      · rw [if_pos hk]
        cases q : cells.lookup n with
        | none => exact ⟨c, e⟩
        | some a =>
          show ∃ c, List.lookup x ((n, a) :: cs) = some c
          rw [List.lookup_cons]
          cases hy : x == n with
          | true => exact ⟨a, rfl⟩
          | false => exact ⟨c, e⟩
      · rw [if_neg hk]; exact ⟨c, e⟩
    rcases h with ⟨h, c, e⟩ | h
    · rcases List.mem_cons.mp h with z | z
      · injection z with z1 z2
        subst z1; subst z2
        refine .inr ⟨c, ?_⟩
        show List.lookup x (match cells.lookup x with | some c => (x, c) :: cs | none => cs) = some c
        rw [e]
        show List.lookup x ((x, c) :: cs) = some c
        rw [List.lookup_cons, beq_self_eq_true]
      · exact .inl ⟨z, c, e⟩
    · exact .inr (put h)
theorem relabel_free {env : Env} : ∀ {l : List (Str × NameKind)} {x : Str}, (∀ y ∈ l, y.2 ≠ NameKind.cell) →
    ((l.map fun (n, k) => if (k == NameKind.free && env.scope.kind == .function && env.kindOf n == some .cell) then (n, NameKind.cell) else (n, k)).lookup x = some .cell ∨
     (l.map fun (n, k) => if (k == NameKind.free && env.scope.kind == .function && env.kindOf n == some .cell) then (n, NameKind.cell) else (n, k)).lookup x = some .free) → (x, NameKind.free) ∈ l
  | [], x, _, h => by rcases h with h | h <;> simp at h
  | (n, k) :: r, x, hc, h => by
    rw [List.map_cons] at h
    have nk : k ≠ NameKind.cell := hc (n, k) List.mem_cons_self
    by_cases hx : x = n
    · subst hx
      have kf : k = .free := by
        by_cases q : (k == NameKind.free && env.scope.kind == .function && env.kindOf x == some .cell) = true
        · rw [Bool.and_eq_true, Bool.and_eq_true] at q
          simpa using q.1.1
        · have e : (match (x, k) with | (n, k) => if (k == NameKind.free && env.scope.kind == .function && env.kindOf n == some .cell) = true then (n, NameKind.cell) else (n, k)) = (x, k) := if_neg q
          rw [e, List.lookup_cons, beq_self_eq_true] at h
          rcases h with h | h
          · exact absurd (Option.some.inj h) nk
          · exact Option.some.inj h
      subst kf
      exact List.mem_cons_self
    · refine List.mem_cons_of_mem _ (relabel_free (env := env) (fun y hy => hc y (List.mem_cons_of_mem _ hy)) ?_)
      have hb : (x == n) = false := by simpa using hx
      by_cases q : (k == NameKind.free && env.scope.kind == .function && env.kindOf n == some .cell) = true
      · have e : (match (n, k) with | (n, k) => if (k == NameKind.free && env.scope.kind == .function && env.kindOf n == some .cell) = true then (n, NameKind.cell) else (n, k)) = (n, NameKind.cell) := if_pos q
        rw [e, List.lookup_cons, hb] at h
        exact h
      · have e : (match (n, k) with | (n, k) => if (k == NameKind.free && env.scope.kind == .function && env.kindOf n == some .cell) = true then (n, NameKind.cell) else (n, k)) = (n, k) := if_neg q
        rw [e, List.lookup_cons, hb] at h
        exact h
def blk (X : Cx) (N' : List Str) (sc : Scope) (fp : List Addr) (s : Shared) (H : Hp) (C : Addr) : Cx where
  prog := X.prog
  w := X.w
  K := X.K
  mg := X.mg
  base := X.base
  A := X.A
  N := N'
  s₀ := s
  H₀ := H
  env := compEnvC sc (clOf sc X.env.cells) C X.env
  outer := X.stack
  stack := X.stack
  ex := fp
  fn := fun _ => false
  calm := X.calm
  pn := []
  xe := fun _ _ => False
inductive Caps (X : Cx) (sc : Scope) : List Str → List Nat → Prop where
  | nil : Caps X sc [] []
  | cons {x : Str} {j : Nat} {cap : List Str} {js : List Nat} (hj : X.N[j]? = some x) (hk : X.env.kindOf x = some .cell ∨ X.env.kindOf x = some .free)
      (hr : (relabel sc X.env).names.lookup x = some .cell ∨ (relabel sc X.env).names.lookup x = some .free) : Caps X sc cap js → Caps X sc (x :: cap) (j :: js)
structure BlkScope (X : Cx) (sc : Scope) : Prop where
  kind : sc.kind = .function
  cell : ∀ y ∈ sc.names, y.2 ≠ .cell
  names : ∀ y ∈ sc.names, y.2 = .local → sc.names.lookup y.1 = some .local
  free : ∀ y ∈ sc.names, y.2 = .free → X.env.kindOf y.1 = some .cell ∨ X.env.kindOf y.1 = some .free
def blkChk (sc : Scope) (nm : List (Str × NameKind)) : Bool := sc.names.all fun y => y.2 != .cell && (y.2 != .local || sc.names.lookup y.1 == some .local) && (y.2 != .free || (nm.lookup y.1 == some .cell || nm.lookup y.1 == some .free))
theorem BlkScope.chk {X : Cx} {sc : Scope} (hk : sc.kind = .function) (h : blkChk sc X.env.scope.names = true) : BlkScope X sc := by
  have a := List.all_eq_true.mp h
  refine ⟨hk, fun y hy e => ?_, fun y hy e => ?_, fun y hy e => ?_⟩
  · have q := a y hy
    rw [e] at q
    simp at q
  · have q := a y hy
    rw [e] at q
    simpa using q
  · have q := a y hy
    rw [e] at q
    have q' : X.env.scope.names.lookup y.1 = some .cell ∨ X.env.scope.names.lookup y.1 = some .free := by simpa using q
    exact q'
def blkSt (n : Nat) (js : List Nat) (σ : St) : St := List.replicate n none ++ js.map fun j => (σ[j]?).join
theorem Caps.len {X : Cx} {sc : Scope} : ∀ {cap : List Str} {js : List Nat}, Caps X sc cap js → cap.length = js.length
  | _, _, .nil => rfl
  | _, _, .cons _ _ _ c => by rw [List.length_cons, List.length_cons, c.len]
theorem Caps.get {X : Cx} {sc : Scope} : ∀ {cap : List Str} {js : List Nat}, Caps X sc cap js → ∀ {i : Nat} {x : Str}, cap[i]? = some x →
    ∃ j, js[i]? = some j ∧ X.N[j]? = some x ∧ (X.env.kindOf x = some .cell ∨ X.env.kindOf x = some .free) ∧ ((relabel sc X.env).names.lookup x = some .cell ∨ (relabel sc X.env).names.lookup x = some .free)
  | _, _, .nil, i, x, e => by simp at e
  | _, _, .cons hj hk hr c, 0, x, e => by
    rw [List.getElem?_cons_zero] at e
    cases e
    exact ⟨_, rfl, hj, hk, hr⟩
  | _, _, .cons hj hk hr c, i + 1, x, e => by
    rw [List.getElem?_cons_succ] at e
    obtain ⟨j, h1, h2⟩ := c.get e
    exact ⟨j, by rw [List.getElem?_cons_succ]; exact h1, h2⟩
theorem blkSt_len {X : Cx} {sc : Scope} {own cap : List Str} {js : List Nat} {σ : St} (C : Caps X sc cap js) : (blkSt own.length js σ).length = (own ++ cap).length := by
  unfold blkSt
  rw [List.length_append, List.length_replicate, List.length_map, List.length_append, C.len]
theorem blkSt_get {n : Nat} {js : List Nat} {σ : St} {i : Nat} {v : V} (e : (blkSt n js σ)[i]? = some (some v)) : n ≤ i ∧ ∃ j, js[i - n]? = some j ∧ σ[j]? = some (some v) := by
  unfold blkSt at e
  by_cases h : i < n
  · rw [List.getElem?_append_left (by simpa using h), List.getElem?_replicate, if_pos h] at e
    cases e
  · refine ⟨by omega, ?_⟩
    rw [List.getElem?_append_right (by rw [List.length_replicate]; omega), List.length_replicate, List.getElem?_map] at e
    cases q : js[i - n]? with
    | none => rw [q] at e; cases e
    | some j =>
      rw [q] at e
      have e' : (σ[j]?).join = some v := Option.some.inj e
      refine ⟨j, rfl, ?_⟩
      cases z : σ[j]? with
      | none => rw [z] at e'; cases e'
      | some o =>
        rw [z] at e'
        have e2 : o = some v := e'
        rw [e2]
theorem blkSt_weak {n : Nat} {js : List Nat} {σ σ2 : St} (hd : σ2.drop n = (blkSt n js σ).drop n) {i : Nat} {v : V} (e : (blkSt n js σ)[i]? = some (some v)) : σ2[i]? = some (some v) := by
  have h := (blkSt_get e).1
  have q : (σ2.drop n)[i - n]? = ((blkSt n js σ).drop n)[i - n]? := by rw [hd]
  rw [List.getElem?_drop, List.getElem?_drop, show n + (i - n) = i by omega] at q
  rw [q]; exact e
def PTs (X : Cx) (ifs : List Expr) (t : TT) : Prop :=
  ∀ (pins : List (Addr × Obj)) (s : Shared) (σ : St) (H : Hp) (Q : Bool → Hp → Prop), Inv X pins σ H s → t σ H Q →
    wpAny (model X.prog X.w) X.A (forIn ifs true fun c r => if r = true then do let ok ← isTrue c X.env (eval c X.env); pure (ForInStep.yield ok) else pure (ForInStep.yield r)) (TP X pins σ Q) X.xe s
def tTrue : TT := fun _ H Q => Q true H
theorem pts_nil {X : Cx} : PTs X [] tTrue := fun _ _ _ H _ I h => wpAny_tests_nil ⟨H, I, h⟩
theorem pts_one {X : Cx} {c : Expr} {t : TT} (hc : PT X c t) : PTs X [c] t := fun pins s σ H Q I h => wpAny_tests_one (hc pins s σ H Q I h)
theorem compLoop_any {prog : Program} {w : World} {A : Around} {R : Result → Shared → Prop} {s : Shared} {elt tg iter : Expr} {ifs : List Expr} {scope : Scope} {pos : Pos} {it acc : Value} {env : Env} (I : Nat → Shared → Prop)
    (turn : ∀ n s, I n s → wpAny (model prog w) A (pyNext it) (fun r s₁ => match r with
      | none => R (.ok .next) s₁
      | some v => wpAny (model prog w) A (letOwnedTupleGo tg it v) (fun _ s₀ => wpAny (model prog w) A (assign tg env v) (fun _ s₂ =>
          wpAny (model prog w) A (forIn ifs true fun c r => if r = true then do let ok ← isTrue c env (eval c env); pure (ForInStep.yield ok) else pure (ForInStep.yield r)) (fun ok s₃ =>
            if ok = true then wpAny (model prog w) A (eval elt env) (fun x s₄ =>
              wpAny (model prog w) A (call (.builtin "list.append") [acc, x]) (fun _ s₅ => ∃ m, m < n ∧ I m s₅) (notedBy (model prog w) A env fun e s' => R (.error e) s') s₄) (notedBy (model prog w) A env fun e s' => R (.error e) s') s₃
            else ∃ m, m < n ∧ I m s₃) (notedBy (model prog w) A env fun e s' => R (.error e) s') s₂) (notedBy (model prog w) A env fun e s' => R (.error e) s') s₀) (notedBy (model prog w) A env fun e s' => R (.error e) s') s₁)
        (notedBy (model prog w) A env fun e s' => R (.error e) s') s)
    (n : Nat) (h : I n s) :
    codeAny (model prog w) A (.compLoop (.ListComp elt [⟨tg, iter, ifs, 0⟩] scope pos) 0 it acc env) R s := by
  refine codeAny_loop rfl I (fun n s hI => ?_) n h
  show wpAny _ A ((compTurn (.ListComp elt [⟨tg, iter, ifs, 0⟩] scope pos) 0 it acc env).onRaise (fun x => do noteFrame x env; theTreesLotGoes x)) _ _ s
  refine wpAny_noted ?_
  rw [compTurn_list]
  refine wpAny_bind (wpAny_standAt (wpAny_bind (wpAny_mono (turn n s hI) (fun r s₁ h₁ => ?_) fun _ _ h' => h')))
  cases r with
  | none => exact wpAny_pure h₁
  | some v =>
    refine wpAny_bind (wpAny_mono h₁ (fun _ s₀ h₀ => ?_) fun _ _ h' => h')
    refine wpAny_bind (wpAny_mono h₀ (fun _ s₂ h₂ => wpAny_bind (wpAny_mono h₂ (fun ok s₃ h₃ => ?_) fun _ _ h' => h')) fun _ _ h' => h')
    cases ok with
    | false => exact wpAny_pure ⟨rfl, h₃⟩
    | true =>
      exact wpAny_bind (wpAny_bind (wpAny_mono h₃ (fun x s₄ h₄ => wpAny_bind (wpAny_mono h₄ (fun _ s₅ h₅ => wpAny_pure (wpAny_pure ⟨rfl, h₅⟩)) fun _ _ h' => h')) fun _ _ h' => h'))
def CompW (J : It) (H1 : Hp) (g : TG) (tt : TT) (te : TE) (n : Nat) (js : List Nat) (σ : St) (Q : VK) : Prop := ∃ W : Nat → Nat → List V → Hp → Prop, (∃ m, W 0 m [] H1) ∧ ∀ i m ys H, W i m ys H →
  (J.stop i H ∧ ys.length ≤ sizeLine ∧ ∀ p, H p = none → Q (.ref p) (upd H p (.lst ys))) ∨
  (J.go i H ∧ ys.length ≤ sizeLine ∧ ∃ N : List V → Hp → Prop, (∀ ys' H', N ys' H' → ∃ m', m' < m ∧ W (i + 1) m' ys' H') ∧ ∀ x H', J.yld i H x H' → g x (blkSt n js σ) H' fun σ2 H2 => σ2.drop n = (blkSt n js σ).drop n ∧ tt σ2 H2 fun b H3 =>
    if b = true then te σ2 H3 fun y H4 => N (ys ++ [y]) H4 else N ys H3)
def tComp (wi : TI) (g : TG) (tt : TT) (te : TE) (n : Nat) (js : List Nat) : TE := fun σ H Q => wi σ H fun J H1 => CompW J H1 g tt te n js σ Q
section
variable {X : Cx}
theorem Vals.snoc {xs : List V} {us : List Value} {x : V} {u : Value} (r : Vals xs us) (q : RelV x u) : Vals (xs ++ [x]) (us ++ [u]) := r.append (.cons q .nil)
theorem blk_start {pins : List (Addr × Obj)} {σ : St} {H : Hp} {s s3 : Shared} {sc : Scope} {own cap : List Str} {js : List Nat} {fp : List Addr} {C : Addr} {tn : Nat → Heap → Prop} {h₁ : Heap} {tk : Nat} {m : Str → Option Value} (I : Inv X pins σ H s) (S : BlkScope X sc) (cp : Caps X sc cap js)
    (hob : ∀ b ∈ fp, ∃ o, s.heap.get? b = some o ∧ ∀ v, o.data ≠ .cell v) (hf : ∀ b ∈ fp, FpOk X pins H b) (hC : s.heap.objs.size ≤ C) (hn : h₁.Ns C m) (old : ∀ b o, s.heap.get? b = some o → h₁.get? b = some o) :
    Inv (blk X (own ++ cap) sc fp s H C) [] (blkSt own.length js σ) H { s with heap := h₁, toks := tk } := by
  have sub : ∀ x c, (clOf sc X.env.cells).lookup x = some c → X.env.cells.lookup x = some c := clGo_sub sc.names [] (fun x c e => by simp at e)
  have has : ∀ x, ((relabel sc X.env).names.lookup x = some .cell ∨ (relabel sc X.env).names.lookup x = some .free) → ∃ c, (clOf sc X.env.cells).lookup x = some c := fun x hx => by
    have hm := relabel_free (env := X.env) (l := sc.names) (x := x) S.cell hx
    exact clGo_has sc.names [] x (.inl ⟨hm, I.ok.has x (S.free _ hm rfl)⟩)
  refine ⟨⟨I.ok.mod, S.kind, I.ok.glob, I.ok.blt, hC, fun x y c e1 e2 => I.ok.inj x y c (sub x c e1) (sub y c e2), has, (fun x c e => by cases e), I.ok.hd, I.ok.frames, .inl rfl, fun b hb => ?_, I.bs, Nat.le_trans I.ok.bsz I.sz, fun b o e hb => ?_, fun b hb z => ?_, I.stack, I.stkFree⟩,
    rfl, I.bare, Un.kept old, ⟨m, hn, fun i x v h1 h2 h3 => ?_⟩, fun x c e => ?_, I.hok.fresh hC, fun x c e => I.freeC x c (sub x c e), fun p hp => absurd (show p ∈ ([] : List (Addr × Obj)) from hp) (by simp), I.hok.kept old, blkSt_len cp⟩
  · obtain ⟨o, e, _⟩ := hob b hb
    refine ⟨Nat.ne_of_lt (Nat.lt_of_lt_of_le (Heap.lt_size e) hC), fun x c e => ?_⟩
    exact (hf b hb).2.2.2.2.1 x c (sub x c e)
  · obtain ⟨_, _, _, h4, _, _⟩ := hf b hb
    rcases h4 with z | z
    · exact I.ok.noex b o e z
    · exact absurd (Nat.lt_of_lt_of_le (Heap.lt_size e) (Nat.le_trans I.ok.bsz z)) (Nat.lt_irrefl _)
  · obtain ⟨_, h2, h3, _⟩ := hf b hb
    rcases List.mem_cons.mp (I.stkSub b z) with q | q
    · exact h2 q
    · exact h3 q
  · obtain ⟨hni, j, hj, hv⟩ := blkSt_get h2
    have h1' : (own ++ cap)[i]? = some x := h1
    rw [List.getElem?_append_right hni] at h1'
    obtain ⟨j', e1, e2, e3, e4⟩ := cp.get h1'
    rw [hj] at e1
    cases e1
    obtain ⟨m0, hn0, hl0⟩ := I.loc
    have vis : Vis X.env.scope x := .inr e3
    obtain ⟨u, ru, lk⟩ := hl0 j x v e2 hv vis
    refine ⟨u, ru, ?_⟩
    rcases lk with ⟨k, _⟩ | ⟨k, c, ec, hc⟩
    · exfalso
      rcases e3 with q | q
      · rw [q] at k; cases k
      · rw [q] at k; cases k
    · obtain ⟨c', ec'⟩ := has x e4
      have q := sub x c' ec'
      rw [ec] at q
      cases q
      exact .inr ⟨e4, c, ec', hc.keeps old⟩
  · obtain ⟨v, z⟩ := I.cell x c (sub x c e)
    exact ⟨v, z.keeps old⟩
theorem blk_end {pins pn : List (Addr × Obj)} {σ σ' : St} {H H' : Hp} {s s' : Shared} {sc : Scope} {N' : List Str} {fp : List Addr} {C D : Addr} {h' : Heap} {ys : List V} {its : List Value} {nn : Nat} (I : Inv X pins σ H s) (J : Inv (blk X N' sc fp s H C) pn σ' H' s')
    (hf : ∀ b ∈ fp, FpOk X pins H b) (hC : s.heap.objs.size ≤ C) (hD : s.heap.objs.size ≤ D) (hDC : D ≠ C) (hn : H' D = none) (ho : s'.heap.get? D = some { cls := .type "list", data := .seq its.toArray nn }) (hz : ys.length ≤ sizeLine) (rv : Vals ys its)
    (hs : Heap.SameBut C s'.heap h') : Inv X pins σ (upd H' D (.lst ys)) { s' with heap := h' } := by
  have u : Un (frs X.stack) fp H H' s.heap s'.heap := J.base
  have low : ∀ b o, s.heap.get? b = some o → b ≠ C ∧ b ≠ D := fun b o e => ⟨Nat.ne_of_lt (Nat.lt_of_lt_of_le (Heap.lt_size e) hC), Nat.ne_of_lt (Nat.lt_of_lt_of_le (Heap.lt_size e) hD)⟩
  have kp : ∀ b o, b ≠ C → s'.heap.get? b = some o → h'.get? b = some o := fun b o hb e => (hs.2 b hb).trans e
  have u2 : Un (frs X.stack) fp H (upd H' D (.lst ys)) s.heap h' := by
    refine ⟨fun b o e n hb hx => kp b o (low b o e).1 (u.keep b o e n hb hx), fun b o e n hb hx => ?_, fun b o e n hx => ?_, fun b o e hx => ?_, fun b xs e => ?_, fun b o xs e => ?_, fun b ps e => ?_⟩
    · obtain ⟨sl, q⟩ := u.slot b o e n hb hx
      exact ⟨sl, kp b _ (low b o e).1 q⟩
    · rw [upd_ne (low b o e).2]; exact u.free b o e n hx
    · obtain ⟨o', q⟩ := u.there b o e hx
      exact ⟨o', kp b _ (low b o e).1 q⟩
    · have q := u.tups b xs e
      rw [upd_ne (ne_of_none q hn)]; exact q
    · have q := u.frzs b o xs e
      rw [upd_ne (ne_of_none q hn)]; exact q
    · obtain ⟨more, q⟩ := u.tbls b ps e
      exact ⟨more, by rw [upd_ne (ne_of_none q hn)]; exact q⟩
  have nC : H' C = none := J.free
  have hok : HOk X.prog X.w (upd H' D (.lst ys)) h' := fun b o e => by
    by_cases hb : b = D
    · subst hb
      rw [upd_same] at e
      cases e
      exact ⟨hz, its, nn, rv, kp b _ hDC ho⟩
    · rw [upd_ne hb] at e
      refine (J.hok b o e).stay (fun c v hc q => kp c v ?_ q) (fun c q => ?_) fun c xs q => ?_
      · rintro rfl
        rcases hc with z | z
        · rw [← z, nC] at e; cases e
        · rw [nC] at z; cases z
      · rw [upd_ne (ne_of_none q hn)]; exact q
      · rw [upd_ne (ne_of_none q hn)]; exact q
  have os := J.os
  have bare := J.bare
  obtain ⟨hh, g, d, t, os'⟩ := s'
  obtain rfl : os' = s.os := os
  have z := I.call (h' := h') (g' := g) (d' := d) (t' := t) (ch := fp) u2 hok bare fun b hb => ⟨(hf b hb).2.2.2.1, (hf b hb).2.1, (hf b hb).2.2.2.2.1, (hf b hb).2.2.2.2.2⟩
  exact z
theorem blk_run {elt iter tg : Expr} {ifs : List Expr} {sc : Scope} {pos : Pos} {own cap : List Str} {js : List Nat} {g : TG} {tt : TT} {te : TE} {Qf : List V → Hp → Prop} {RR : Value → Addr → Result → Shared → Prop} {E : Value → Shared → Prop}
    {pins : List (Addr × Obj)} {σ : St} {H2 : Hp} {s2 : Shared} {it : Addr} {fp : List Addr} {tn : Nat → Heap → Prop} {J : It} {W : Nat → Nat → List V → Hp → Prop} {m0 : Nat}
    (hc : X.calm = true) (S : BlkScope X sc) (cp : Caps X sc cap js)
    (hg : ∀ fp s H C, PG (blk X (own ++ cap) sc fp s H C) tg g) (ht : ∀ fp s H C, PTs (blk X (own ++ cap) sc fp s H C) ifs tt) (he : ∀ fp s H C, PE (blk X (own ++ cap) sc fp s H C) elt te)
    (I2 : Inv X pins σ H2 s2) (T : Turn X.prog X.w X.K tg J fp it tn) (st2 : tn 0 s2.heap) (f2 : ∀ b ∈ fp, FpOk X pins H2 b) (w0 : W 0 m0 [] H2)
    (turn : ∀ i m ys H, W i m ys H → (J.stop i H ∧ ys.length ≤ sizeLine ∧ Qf ys H) ∨
      (J.go i H ∧ ys.length ≤ sizeLine ∧ ∃ N : List V → Hp → Prop, (∀ ys' H', N ys' H' → ∃ m', m' < m ∧ W (i + 1) m' ys' H') ∧ ∀ x H', J.yld i H x H' → g x (blkSt own.length js σ) H' fun σ2 H2 => σ2.drop own.length = (blkSt own.length js σ).drop own.length ∧ tt σ2 H2 fun b H3 =>
        if b = true then te σ2 H3 fun y H4 => N (ys ++ [y]) H4 else N ys H3))
    (hRR : ∀ D C H4 s4 pn ys its nn, s2.heap.objs.size ≤ D → s2.heap.objs.size ≤ C → D ≠ C → Inv (blk X (own ++ cap) sc fp s2 H2 C) pn (blkSt own.length js σ) H4 s4 → H4 D = none → s4.heap.get? D = some { cls := .type "list", data := .seq its.toArray nn } →
      ys.length ≤ sizeLine → Vals ys its → Qf ys H4 → RR (.ref D) C (.ok .next) s4) :
    wpAny (model X.prog X.w) X.A (newList []) (fun acc s₃ => wpAny (model X.prog X.w) X.A (newFunctionEnv sc X.env.globals (clOf sc X.env.cells) [] X.env.qual none .none (some X.env)) (fun cenv s₄ =>
      codeAny (model X.prog X.w) X.A (.compStart (.ListComp elt [⟨tg, iter, ifs, 0⟩] sc pos) 0 (.ref it) acc { cenv with scope := relabel sc X.env }) (RR acc cenv.locals) s₄) E s₃) E s2 := by
  refine wpAny_newObj_type (wpAny_newFunctionEnv S.cell (by intro y hy; simp at hy) (fun h₁ hns₁ hsb₁ => ?_) S.kind)
  dsimp only at hns₁ hsb₁ ⊢
  generalize hH2 : s2.heap.push { cls := .type "list", dict := none, data := .seq ([] : List Value).toArray } = HH at hns₁ hsb₁ ⊢
  generalize hDd : s2.heap.objs.size = D at hns₁ hsb₁ ⊢
  generalize hCc : HH.objs.size = C at hns₁ hsb₁ ⊢
  have hC : C = D + 1 := by rw [← hCc, ← hH2, Heap.size_push, hDd]
  have hDC : D ≠ C := by rw [hC]; exact Nat.ne_of_lt (Nat.lt_succ_self _)
  have hCle : s2.heap.objs.size ≤ C := by rw [hDd, hC]; exact Nat.le_succ _
  have hDle : s2.heap.objs.size ≤ D := Nat.le_of_eq hDd
  have below : ∀ b, b < s2.heap.objs.size → b ≠ C ∧ b ≠ D := fun b hb => ⟨Nat.ne_of_lt (Nat.lt_of_lt_of_le hb hCle), Nat.ne_of_lt (Nat.lt_of_lt_of_le hb hDle)⟩
  have old : ∀ b o, s2.heap.get? b = some o → h₁.get? b = some o := fun b o e => hsb₁.extBut b o (below b (Heap.lt_size e)).1 (Heap.get?_push_of_some _ (hH2 ▸ Heap.get?_push_of_some _ e))
  have q0 : HH.get? D = some { cls := .type "list", data := .seq ([] : List Value).toArray 0 } := by
    rw [← hH2, ← hDd]
    exact Heap.get?_push_size _ rfl
  have hacc : h₁.get? D = some { cls := .type "list", data := .seq ([] : List Value).toArray 0 } := hsb₁.extBut _ _ hDC (Heap.get?_push_of_some _ q0)
  have fpo := T.obj 0 _ st2
  have fplt : ∀ b ∈ fp, b < s2.heap.objs.size := fun b hb => by obtain ⟨o, e, _⟩ := fpo b hb; exact Heap.lt_size e
  have st3 : tn 0 h₁ := T.keep 0 _ _ st2 fun b hb o e => old b o e
  have I3 : ∀ tk, Inv (blk X (own ++ cap) sc fp s2 H2 C) [] (blkSt own.length js σ) H2 { s2 with heap := h₁, toks := tk } := fun tk => blk_start (s3 := s2) (tn := tn) I2 S cp fpo f2 hCle hns₁ old
  have stkD : ∀ b, s2.heap.objs.size ≤ b → b ∉ frs X.stack := fun b hb hm => by
    obtain ⟨_, o, e, _⟩ := I2.stack.mem hm
    exact absurd (Nat.lt_of_lt_of_le (Heap.lt_size e) hb) (Nat.lt_irrefl _)
  have nD : H2 D = none := I2.hok.fresh hDle
  have stat : ∀ {pn : List (Addr × Obj)} {H' : Hp}, (∀ p ∈ pn, p.1 = D) → (∀ b ∈ fp, H' b = none) → ∀ b ∈ fp, FpOk (blk X (own ++ cap) sc fp s2 H2 C) pn H' b := fun {pn H'} hp hn b hb => by
    refine ⟨hn b hb, (below b (fplt b hb)).1, fun z => ?_, .inl hb, fun x c e => ?_, fun p hp' z => ?_⟩
    · obtain ⟨_, h2, h3, _⟩ := f2 b hb
      rcases List.mem_cons.mp (I2.stkSub b z) with q | q
      · exact h2 q
      · exact h3 q
    · exact (f2 b hb).2.2.2.2.1 x c (clGo_sub sc.names [] (fun x c e => by simp at e) x c e)
    · have e := hp p (by simpa [blk] using hp')
      rw [e] at z
      exact (below b (fplt b hb)).2 z.symm
  have pinD : ∀ {H' : Hp} {s' : Shared} {o : Obj}, Inv (blk X (own ++ cap) sc fp s2 H2 C) [] (blkSt own.length js σ) H' s' → H' D = none → s'.heap.get? D = some o → (∀ v, o.data ≠ .cell v) → Inv (blk X (own ++ cap) sc fp s2 H2 C) [(D, o)] (blkSt own.length js σ) H' s' := fun {H' s' o} I' n e d =>
    I'.pins_of fun p hp => by
      have q : p = (D, o) := by simpa using hp
      subst q
      exact ⟨e, n, hDC, stkD D hDle, d⟩
  have loop : ∀ s₃ : Shared, s₃ = { s2 with heap := h₁, toks := s2.toks + ([] : List (Str × Value)).length } →
      codeAny (model X.prog X.w) X.A (.compLoop (.ListComp elt [⟨tg, iter, ifs, 0⟩] sc pos) 0 (.ref it) (.ref D) (compEnvC sc (clOf sc X.env.cells) C X.env)) (RR (.ref D) C) s₃ := by
    rintro s₃ rfl
    refine compLoop_any (fun k s' => ∃ i ys its nn H', Inv (blk X (own ++ cap) sc fp s2 H2 C) [] (blkSt own.length js σ) H' s' ∧ tn i s'.heap ∧ (∀ b ∈ fp, H' b = none) ∧ H' D = none ∧
      s'.heap.get? D = some { cls := .type "list", data := .seq its.toArray nn } ∧ Vals ys its ∧ W i k ys H') ?_ m0 ⟨0, [], [], 0, H2, I3 _, st3, fun b hb => (f2 b hb).1, nD, hacc, .nil, w0⟩
    rintro k s3 ⟨i, ys, its, nn, H3, I3, st3, fr3, d3, o3, rv3, w3⟩
    have I3' := pinD I3 d3 o3 (fun v z => by cases z)
    have only : ∀ p ∈ [(D, ({ cls := .type "list", data := .seq its.toArray nn } : Obj))], p.1 = D := fun p hp => by
      rw [List.mem_singleton.mp hp]
    rcases turn i k ys H3 w3 with ⟨stop, hz, qn⟩ | ⟨go, hz, N, hN, step⟩
    · refine wpAny_mono (T.done (blk X (own ++ cap) sc fp s2 H2 C) rfl rfl rfl hc i _ s3 _ H3 (fun _ _ => False) I3' (stat only fr3) st3 stop) (fun r s4 ⟨hr, I4⟩ => ?_) fun _ _ z => z.elim
      subst hr
      have o4 := (I4.pin (D, _) (List.mem_append_right _ (List.mem_singleton.mpr rfl))).1
      exact hRR D C H3 s4 _ ys its nn hDle hCle hDC I4 d3 o4 hz rv3 qn
    · refine wpAny_mono (T.item (blk X (own ++ cap) sc fp s2 H2 C) rfl rfl rfl hc i _ s3 _ H3 (fun _ _ => False) I3' (stat only fr3) st3 go) (fun r s4 ⟨u, hr, h4⟩ => ?_) fun _ _ z => z.elim
      subst hr
      refine wpAny_mono h4 (fun _ s5 ⟨x, H5, I5, r5, y5, st5, fr5⟩ => ?_) fun _ _ z => z.elim
      have I5' := I5.pinned (stat only fr5) (T.obj _ _ st5)
      refine wpAny_mono (hg fp s2 H2 C _ s5 _ H5 x u _ I5' r5 (step x H5 y5)) (fun _ s6 ⟨σ6, H6, I6, d6, q6⟩ => ?_) fun _ _ z => z.elim
      refine wpAny_mono (ht fp s2 H2 C _ s6 σ6 H6 _ I6 q6) (fun ok s7 ⟨H7, I7, q7⟩ => ?_) fun _ _ z => z.elim
      have memD : ∀ {o : Obj}, (D, o) ∈ (blk X (own ++ cap) sc fp s2 H2 C).pn ++ ([(D, o)] ++ pinsAt fp s5.heap) := List.mem_append_right _ (List.mem_append_left _ (List.mem_singleton.mpr rfl))
      have memF : ∀ {b : Addr} {o o' : Obj}, b ∈ fp → s5.heap.get? b = some o → (b, o) ∈ (blk X (own ++ cap) sc fp s2 H2 C).pn ++ ([(D, o')] ++ pinsAt fp s5.heap) := fun hb e => List.mem_append_right _ (List.mem_append_right _ (mem_pinsAt hb e))
      have σlen : (blkSt own.length js σ).length = σ6.length := by
        have a := I6.len
        have b := I5.len
        exact b.trans a.symm
      cases ok with
      | false =>
        have q7' : N ys H7 := q7
        obtain ⟨m', hm, w7⟩ := hN _ _ q7'
        refine ⟨m', hm, i + 1, ys, its, nn, H7, (I7.pins_of fun p hp => absurd hp (by simp)).weak σlen (fun j v e => blkSt_weak d6 e), T.keep _ _ _ st5 fun b hb o e => (I7.pin (b, o) (memF hb e)).1, fun b hb => ?_, (I7.pin (D, _) memD).2.1, (I7.pin (D, _) memD).1, rv3, w7⟩
        obtain ⟨o, e, _⟩ := T.obj _ _ st5 b hb
        exact (I7.pin (b, o) (memF hb e)).2.1
      | true =>
        have q7' : te σ6 H7 fun y H4 => N (ys ++ [y]) H4 := q7
        refine wpAny_mono (he fp s2 H2 C _ s7 σ6 H7 _ I7 q7') (fun yv s8 ⟨y, H8, I8, r8, n8'⟩ => ?_) fun _ _ z => z.elim
        obtain ⟨m', hm, w8⟩ := hN _ _ n8'
        have o8 := (I8.pin (D, _) memD).1
        have n8 := (I8.pin (D, _) memD).2.1
        refine append_at (hsz := by rw [List.size_toArray, ← rv3.length]; exact hz) o8 fun h9 hs9 hD9 => ?_
        have I8' := (I8.pins_of (pins' := []) fun p hp => absurd hp (by simp)).weak σlen (fun j v e => blkSt_weak d6 e)
        have I9 := I8'.turned (h' := h9) (t' := s8.toks) (it := D) (fun b o hb e => (hs9.2 b hb).trans e) n8 hDC (.inr hDle) (fun x c e z => by
          obtain ⟨v, q⟩ := I2.cell x c (clGo_sub sc.names [] (fun x c e => by simp at e) x c e)
          exact absurd (Nat.lt_of_lt_of_le q.lt (by rw [z]; exact hDle)) (Nat.lt_irrefl _)) (fun p hp => absurd (show p ∈ ([] : List (Addr × Obj)) from hp) (by simp))
        refine ⟨m', hm, i + 1, ys ++ [y], its ++ [yv], nn + 1, H8, I9, T.keep _ _ _ st5 fun b hb o e => (hs9.2 b (below b (fplt b hb)).2).trans (I8.pin (b, o) (memF hb e)).1, fun b hb => ?_, n8, ?_, rv3.snoc r8, w8⟩
        · obtain ⟨o, e, _⟩ := T.obj _ _ st5 b hb
          exact (I8.pin (b, o) (memF hb e)).2.1
        · rw [hD9, List.push_toArray]
  exact codeAny_compStart_list (loop _ rfl) (T.self X.A 0 _ _ _ st3 (loop _ rfl))
theorem pe_comp {elt iter tg : Expr} {ifs : List Expr} {sc : Scope} {pos : Pos} {own cap : List Str} {js : List Nat} {wi : TI} {g : TG} {tt : TT} {te : TE} (hc : X.calm = true) (S : BlkScope X sc) (cp : Caps X sc cap js) (hi : PI X tg iter wi)
    (hg : ∀ fp s H C, PG (blk X (own ++ cap) sc fp s H C) tg g) (ht : ∀ fp s H C, PTs (blk X (own ++ cap) sc fp s H C) ifs tt) (he : ∀ fp s H C, PE (blk X (own ++ cap) sc fp s H C) elt te)
    (hs : ∀ x, foldedSetIterable iter X.env x = pure x := by intro _; rfl) : PE X (.ListComp elt [⟨tg, iter, ifs, 0⟩] sc pos) (tComp wi g tt te own.length js) := by
  intro pins s σ H Q I h
  rw [eval_ListComp]
  refine wpAny_comprehension_free (use := none) rfl hs (closure_of fun y hy hf => I.ok.has y.1 (S.free y hy hf)) S.kind S.names (thn (hi pins s σ H _ I h) fun v s1 h1 => thn h1 fun itv s2 h2 => ?_)
  obtain ⟨it, fp, tn, J, H2, e, I2, T, st2, f2, W, ⟨m0, w0⟩, turn⟩ := h2
  subst e
  refine blk_run (RR := fun acc C => compPost (model X.prog X.w) X.A X.xe none (EP X pins σ Q) acc C) (Qf := fun ys H => ∀ p, H p = none → Q (.ref p) (upd H p (.lst ys))) hc S cp hg ht he I2 T st2 f2 w0 turn ?_
  intro D C H4 s4 pn ys its nn hD hC hDC I4 n4 o4 hz rv q
  obtain ⟨m, hn, _⟩ := I4.loc
  exact ⟨m, hn, fun h' hs' => ⟨.ref D, upd H4 D (.lst ys), blk_end I2 I4 f2 hC hD hDC n4 o4 hz rv hs', rfl, q D n4⟩⟩
end
def Its (x : Str) : It := ⟨fun i _ => i < x.cps.size, fun i H v H' => H' = H ∧ ∃ c, x.cps[i]? = some c ∧ v = .str ⟨#[c]⟩, fun i _ => i = x.cps.size⟩
section
variable {X : Cx} {tg : Expr}
def iStr (tl : TE) : TI := fun σ H R => tl σ H fun v H1 => ∃ x, v = .str x ∧ R (Its x) H1
theorem turn_str_of {P : Program} {w : World} {K : PySem.W.Frag} {tg : Expr} {ty : String} (x : Str) (t : Tok) (it : Addr) (hty : ["enumerate", "zip", "dict_itemiterator", "dict_reverseitemiterator", "odict_iterator", "itertools.zip_longest", "itertools.pairwise"].contains ty = false)
    (W : ∀ A : Around, A.handled = none → Walks P w A it [it] [it] x.cps.size (SignAt x) (fun i h => h.IsStrIter it ty x t i))
    (hself : ∀ (A : Around) (i : Nat) (s : Shared) (Q : Value → Shared → Prop) (E : Value → Shared → Prop), s.heap.IsStrIter it ty x t i → Q (.ref it) s → wpAny (model P w) A (pyIter (.ref it)) Q E s) :
    Turn P w K tg (Its x) [it] it (fun i h => h.IsStrIter it ty x t i) where
  mem := by simp
  obj := fun i h st b hb => by
    have e : b = it := by simpa using hb
    subst e
    obtain ⟨o, e, c, d⟩ := st
    exact ⟨o, e, fun v z => by rw [d] at z; cases z⟩
  keep := fun i h h' st k => by
    obtain ⟨o, e, r⟩ := st
    exact ⟨o, k it (by simp) o e, r⟩
  item := by
    intro X hP hw hK hc i pins s σ H E I hf st hg
    subst hP hw hK
    obtain ⟨f0, f1, f2, f3, f4, f5⟩ := hf it (by simp)
    refine (W X.A (I.ok.hd hc)).item i s _ _ hg st fun v h' tk hv st' kk => ?_
    obtain ⟨c, u, hcx, rfl⟩ := hv
    have I1 : Inv X pins σ H { s with heap := h', toks := tk } := I.turned (fun b o hb e => kk b o (by simpa using hb) e) f0 f1 f3 f4 f5
    obtain ⟨o, e, c', d⟩ := id st'
    exact ⟨_, rfl, go_of (s := { s with heap := h', toks := tk }) e c' d hty ⟨.str ⟨#[c]⟩, H, I1, ⟨u, rfl⟩, ⟨rfl, c, hcx, rfl⟩, st', fun b hb => (hf b hb).1⟩⟩
  done := by
    intro X hP hw hK hc i pins s σ H E I hf st hg
    subst hP hw hK
    obtain ⟨f0, f1, f2, f3, f4, f5⟩ := hf it (by simp)
    have le : i = x.cps.size := hg
    subst le
    exact (W X.A (I.ok.hd hc)).done s _ _ st fun h' tk kk => ⟨rfl, I.turned (fun b o hb e => kk b o (by simpa using hb) e) f0 f1 f3 f4 f5⟩
  self := hself
theorem pi_str {l : Expr} {tl : TE} (hl : PE X l tl) : PI X tg l (iStr tl) := by
  intro pins s σ H R I h
  refine thn (hl pins s σ H _ I h) fun v s1 ⟨y, H1, I1, r1, q1⟩ => ?_
  obtain ⟨x, e, q⟩ := q1
  subst e
  obtain ⟨t, rfl⟩ := r1
  have fp : ∀ b ∈ [s1.heap.objs.size], FpOk X pins H1 b := fun b hb => by
    have e : b = s1.heap.objs.size := by simpa using hb
    subst e
    exact I1.fpOk (Nat.le_refl _) (I1.hok.fresh (Nat.le_refl _))
  cases ha : x.cps.all (· < 128)
  · refine wpAny_pyIter_wide ha ?_
    exact ⟨s1.heap.objs.size, [s1.heap.objs.size], _, Its x, H1, rfl, I1.kept (t' := s1.toks) fun b o e => Heap.get?_push_of_some _ e, turn_str_of x t _ (by decide) (fun A hA => Walks.strWide hA _ x t) (fun A i s Q E st h => wpAny_pyIter_striter_wide st h), ⟨_, Heap.get?_push_size _ rfl, rfl, rfl⟩, fp, q⟩
  · refine wpAny_pyIter_ascii ha ?_
    exact ⟨s1.heap.objs.size, [s1.heap.objs.size], _, Its x, H1, rfl, I1.kept (t' := s1.toks) fun b o e => Heap.get?_push_of_some _ e, turn_str_of x t _ (by decide) (fun A hA => Walks.strAscii hA _ x t) (fun A i s Q E st h => wpAny_pyIter_striter_ascii st h), ⟨_, Heap.get?_push_size _ rfl, rfl, rfl⟩, fp, q⟩
end
theorem comp_of {J : It} {len : Nat} {x : Nat → V} {H1 : Hp} {g : TG} {tt : TT} {te : TE} {n : Nat} {js : List Nat} {σ : St} {Q : VK} (Pv : Nat → List V → Hp → Prop) (hgo : ∀ i ys H, Pv i ys H → i < len → J.go i H) (hst : ∀ ys H, Pv len ys H → J.stop len H)
    (hy : ∀ i ys H v H', Pv i ys H → i < len → J.yld i H v H' → H' = H ∧ v = x i) (h0 : Pv 0 [] H1) (hz : ∀ i ys H, Pv i ys H → ys.length ≤ sizeLine)
    (hs : ∀ i ys H, i < len → Pv i ys H → g (x i) (blkSt n js σ) H fun σ2 H2 => σ2.drop n = (blkSt n js σ).drop n ∧ tt σ2 H2 fun b H3 => if b = true then te σ2 H3 fun y H4 => Pv (i + 1) (ys ++ [y]) H4 else Pv (i + 1) ys H3)
    (hd : ∀ ys H, Pv len ys H → ∀ p, H p = none → Q (.ref p) (upd H p (.lst ys))) : CompW J H1 g tt te n js σ Q := by
  refine ⟨fun i m ys H => m = len - i ∧ i ≤ len ∧ Pv i ys H, ⟨len, by simp, Nat.zero_le _, h0⟩, ?_⟩
  rintro i m ys H ⟨rfl, hi, p⟩
  by_cases hlt : i < len
  · refine .inr ⟨hgo i ys H p hlt, hz i ys H p, Pv (i + 1), fun ys' H' p' => ⟨len - (i + 1), by omega, rfl, hlt, p'⟩, fun v H' y => ?_⟩
    obtain ⟨e, ev⟩ := hy i ys H v H' p hlt y
    subst e ev
    exact hs i ys _ hlt p
  · have e : i = len := by omega
    subst e
    exact .inl ⟨hst ys H p, hz _ ys H p, hd ys H p⟩
theorem comp_str {t : Str} {H1 : Hp} {g : TG} {tt : TT} {te : TE} {n : Nat} {js : List Nat} {σ : St} {Q : VK} (Pv : Nat → List V → Hp → Prop) (h0 : Pv 0 [] H1) (hz : ∀ i ys H, Pv i ys H → ys.length ≤ sizeLine)
    (hs : ∀ i c ys H, t.cps[i]? = some c → Pv i ys H → g (.str ⟨#[c]⟩) (blkSt n js σ) H fun σ2 H2 => σ2.drop n = (blkSt n js σ).drop n ∧ tt σ2 H2 fun b H3 => if b = true then te σ2 H3 fun y H4 => Pv (i + 1) (ys ++ [y]) H4 else Pv (i + 1) ys H3)
    (hd : ∀ ys H, Pv t.cps.size ys H → ∀ p, H p = none → Q (.ref p) (upd H p (.lst ys))) : CompW (Its t) H1 g tt te n js σ Q := by
  refine comp_of (len := t.cps.size) (x := fun i => .str ⟨#[t.cps.getD i 0]⟩) Pv (fun i ys H _ h => h) (fun ys H _ => rfl) (fun i ys H v H' _ hlt y => ?_) h0 hz (fun i ys H hlt p => ?_) hd
  · obtain ⟨e, c, hc, ev⟩ := y
    refine ⟨e, ?_⟩
    rw [ev, Array.getD_eq_getD_getElem?, hc]
    rfl
  · have hc : t.cps[i]? = some (t.cps.getD i 0) := by
      rw [Array.getD_eq_getD_getElem?, Array.getElem?_eq_getElem hlt]
      rfl
    exact hs i _ ys H hc p
theorem comp_list {K : PySem.W.Frag} {a : Addr} {xs : List V} {H1 : Hp} {g : TG} {tt : TT} {te : TE} {n : Nat} {js : List Nat} {σ : St} {Q : VK} (Pv : Nat → List V → Hp → Prop) (hl : ∀ i ys H, Pv i ys H → SqL K H a xs) (h0 : Pv 0 [] H1) (hz : ∀ i ys H, Pv i ys H → ys.length ≤ sizeLine)
    (hs : ∀ i x ys H, xs[i]? = some x → Pv i ys H → g x (blkSt n js σ) H fun σ2 H2 => σ2.drop n = (blkSt n js σ).drop n ∧ tt σ2 H2 fun b H3 => if b = true then te σ2 H3 fun y H4 => Pv (i + 1) (ys ++ [y]) H4 else Pv (i + 1) ys H3)
    (hd : ∀ ys H, Pv xs.length ys H → ∀ p, H p = none → Q (.ref p) (upd H p (.lst ys))) : CompW (Itl K a) H1 g tt te n js σ Q := by
  refine comp_of (len := xs.length) (x := fun i => xs.getD i .non) Pv (fun i ys H p hlt => ⟨xs, xs[i], hl i ys H p, by simp [hlt]⟩) (fun ys H p => ⟨xs, hl _ ys H p, Nat.le_refl _⟩) (fun i ys H v H' p hlt y => ?_) h0 hz (fun i ys H hlt p => ?_) hd
  · obtain ⟨e, y⟩ := y
    refine ⟨e, ?_⟩
    rw [List.getD_eq_getElem?_getD, y xs (hl i ys H p)]
    rfl
  · refine hs i _ ys H ?_ p
    rw [List.getD_eq_getElem?_getD, List.getElem?_eq_getElem hlt]
    rfl
theorem comp_range {lo : Int} {len : Nat} {H1 : Hp} {g : TG} {tt : TT} {te : TE} {n : Nat} {js : List Nat} {σ : St} {Q : VK} (Pv : Nat → List V → Hp → Prop) (h0 : Pv 0 [] H1) (hz : ∀ i ys H, Pv i ys H → ys.length ≤ sizeLine)
    (hs : ∀ i ys H, i < len → Pv i ys H → g (.int (lo + i)) (blkSt n js σ) H fun σ2 H2 => σ2.drop n = (blkSt n js σ).drop n ∧ tt σ2 H2 fun b H3 => if b = true then te σ2 H3 fun y H4 => Pv (i + 1) (ys ++ [y]) H4 else Pv (i + 1) ys H3)
    (hd : ∀ ys H, Pv len ys H → ∀ p, H p = none → Q (.ref p) (upd H p (.lst ys))) : CompW (Itr lo len) H1 g tt te n js σ Q :=
  comp_of (len := len) (x := fun i => .int (lo + i)) Pv (fun i ys H _ h => h) (fun ys H _ => Nat.le_refl _) (fun i ys H v H' _ hlt y => y) h0 hz (fun i ys H hlt p => hs i ys H hlt p) hd
section
variable {X : Cx}
def rSlS : V → Option Int → Option Int → Hp → VK → Prop := fun x lo hi H Q => ∃ t, x = .str t ∧ t.length ≤ sizeLine ∧ ∀ t', t' = Txt.slice t lo hi → t'.length ≤ t.length → Q (.str t') H
theorem sl_str : SlR X rSlS := by
  intro pins s σ H x v vl vu lo hi sl Q I rx hs pl pu h
  obtain ⟨t, rfl, hz, q⟩ := h
  obtain ⟨tk, rfl⟩ := rx
  have fin : ∀ {l u : Option (Int × Tok)}, l.map (·.1) = lo → u.map (·.1) = hi → (∀ k t', EP X pins σ Q (.str (Txt.slice t (l.map (·.1)) (u.map (·.1))) t') { s with toks := k }) := fun {l u} e1 e2 k t' =>
    ⟨.str _, H, I.tok k, ⟨t', rfl⟩, by rw [e1, e2]; exact q _ rfl (PyProof.Txt.length_slice_le t _ _)⟩
  refine ⟨"str", _, F.slot_str_getitem.lookup, typeIs_str _ _ _, ?_⟩
  cases pl with
  | none =>
    cases pu with
    | none => exact wpAny_getItem_str_slice (l := none) (u := none) (st := none) hs rfl (post_val_or_str ⟨Nat.le_trans (Txt.slice_le t _ _) hz, fun t' k => fin (l := none) (u := none) rfl rfl k t'⟩)
    | int j tj => exact wpAny_getItem_str_slice (l := none) (u := some (j, tj)) (st := none) hs rfl (post_val_or_str ⟨Nat.le_trans (Txt.slice_le t _ _) hz, fun t' k => fin (l := none) (u := some (j, tj)) rfl rfl k t'⟩)
  | int i ti =>
    cases pu with
    | none => exact wpAny_getItem_str_slice (l := some (i, ti)) (u := none) (st := none) hs rfl (post_val_or_str ⟨Nat.le_trans (Txt.slice_le t _ _) hz, fun t' k => fin (l := some (i, ti)) (u := none) rfl rfl k t'⟩)
    | int j tj => exact wpAny_getItem_str_slice (l := some (i, ti)) (u := some (j, tj)) (st := none) hs rfl (post_val_or_str ⟨Nat.le_trans (Txt.slice_le t _ _) hz, fun t' k => fin (l := some (i, ti)) (u := some (j, tj)) rfl rfl k t'⟩)
theorem vals_bl : ∀ {bs : List Bool} {us : List Value}, Vals (bs.map V.bl) us → us = bs.map Value.bool
  | [], us, r => by rw [List.map_nil] at r; cases r; rfl
  | b :: bs, us, r => by
    rw [List.map_cons] at r
    cases r with
    | cons r1 r2 => rw [List.map_cons, vals_bl r2, show _ = Value.bool b from r1]
theorem call_all (hc : X.calm = true) : CallR X (.builtin "all") (fun xs H Q => ∃ (a : Addr) (bs : List Bool), xs = [.ref a] ∧ SqL X.K H a (bs.map V.bl) ∧ Q (.bl (bs.all id)) H) := by
  intro pins s σ H xs us Q I r h
  obtain ⟨a, bs, rfl, hq, q⟩ := h
  obtain ⟨u, rfl, ru⟩ := vals1 r
  cases ru
  obtain ⟨its, rv, p, hz⟩ := I.list hq
  have e := vals_bl rv
  have hlt : a < s.heap.objs.size := by obtain ⟨o, n, e, _⟩ := p; exact Heap.lt_size e
  refine call_all_walk (wpAny_pyIter_list p.isList ?_)
  refine ⟨s.heap.objs.size, _, _, _, _, _, fun i => bs.getD i true, rfl, Walks.list (show X.A.in1.handled = none from I.ok.hd hc) s.heap.objs.size a (Nat.ne_of_lt hlt) its.toArray, ⟨⟨_, Heap.get?_push_size _ rfl, rfl, rfl⟩, p.isList.push _⟩, ?_, ?_⟩
  · intro i v s' Q' E' hP hQ
    have hP' : its[i]? = some v := by simpa using hP
    rw [e, List.getElem?_map] at hP'
    cases z : bs[i]? with
    | none => rw [z] at hP'; cases hP'
    | some b =>
      rw [z] at hP'
      have ev : Value.bool b = v := Option.some.inj hP'
      subst ev
      have hQ' : Q' (bs.getD i true) s' := hQ
      rw [List.getD_eq_getElem?_getD, z] at hQ'
      exact wpAny_truthy_bool hQ'
  · intro h' tk kk
    refine ⟨.bl _, H, I.kept (t' := tk) fun b o e => kk b o (fun z => ?_) (Heap.get?_push_of_some _ e), ?_, q⟩
    · have z' : b = s.heap.objs.size := by simpa using z
      exact absurd (Heap.lt_size e) (by rw [z']; exact Nat.lt_irrefl _)
    · show Value.bool _ = Value.bool _
      congr 1
      rw [List.size_toArray, e, List.length_map]
      have go : ∀ l : List Bool, (List.range l.length).all (fun i => l.getD i true) = l.all id := fun l => by
        have q := range_getD l true
        have e2 : ((List.range l.length).map fun j => l.getD j true).all id = (List.range l.length).all fun i => l.getD i true := by
          rw [List.all_map]
          rfl
        rw [← e2, q]
      exact go bs
theorem call_isinst : CallR X (.builtin "isinstance") (fun xs H Q => ∃ x c t b, xs = [x, c] ∧ TyOf X.K H x t ∧ ((∃ n, c = .ty n ∧ PySem.W.kitOne X.K t (.type n) = some b) ∨ (∃ a, c = .ref a ∧ PySem.W.kitOne X.K t (.ref a) = some b)) ∧ Q (.bl b) H) := by
  intro pins s σ H xs us Q I r h
  obtain ⟨x, c, t, b, rfl, ty, hc, q⟩ := h
  obtain ⟨u, u', rfl, r1, r2⟩ := vals2 r
  rcases hc with ⟨n, rfl, e⟩ | ⟨a, rfl, e⟩
  · cases (show u' = Value.type n from r2)
    exact isinst_ok I r1 ty e fun tk => ⟨.bl b, H, I.tok tk, rfl, q⟩
  · cases (show u' = Value.ref a from r2)
    exact isinst_ok I r1 ty e fun tk => ⟨.bl b, H, I.tok tk, rfl, q⟩
mutual
inductive DV (K : PySem.W.Frag) (H : Hp) : V → PyData → Prop where
  | non : DV K H .non .none
  | bl (b : Bool) : DV K H (.bl b) (.bool b)
  | int (i : Int) : DV K H (.int i) (.int i)
  | str (x : Str) : DV K H (.str x) (.str x)
  | lst {a : Addr} {xs : List V} {ds : List PyData} : SqL K H a xs → DVs K H xs ds → DV K H (.ref a) (.list ds)
  | tup {a : Addr} {xs : List V} {ds : List PyData} : SqT K H a xs → DVs K H xs ds → DV K H (.ref a) (.tuple ds)
inductive DVs (K : PySem.W.Frag) (H : Hp) : List V → List PyData → Prop where
  | nil : DVs K H [] []
  | cons {x : V} {d : PyData} {xs : List V} {ds : List PyData} : DV K H x d → DVs K H xs ds → DVs K H (x :: xs) (d :: ds)
end
mutual
theorem DV.reads {pins : List (Addr × Obj)} {σ : St} {H : Hp} {s : Shared} (I : Inv X pins σ H s) : ∀ {x : V} {d : PyData} {u : Value}, DV X.K H x d → RelV x u → ∃ as, Reads s.heap u d as
  | _, _, _, .non, r => by cases r; exact ⟨_, .none⟩
  | _, _, _, .bl b, r => by cases r; exact ⟨_, .bool b⟩
  | _, _, _, .int i, r => by obtain ⟨t, rfl⟩ := r; exact ⟨_, .int i t⟩
  | _, _, _, .str x, r => by obtain ⟨t, rfl⟩ := r; exact ⟨_, .str x t⟩
  | _, _, _, .lst hq hs, r => by
    cases r
    obtain ⟨its, rv, ⟨o, n, e, c, _, d⟩, _⟩ := I.list hq
    obtain ⟨as, q⟩ := hs.reads I rv
    exact ⟨_, .list e c d (by simpa using q)⟩
  | _, _, _, .tup hq hs, r => by
    cases r
    obtain ⟨its, rv, ⟨o, e, c, n, d⟩, _⟩ := I.tuple hq
    obtain ⟨as, q⟩ := hs.reads I rv
    exact ⟨_, .tuple e c d (by simpa using q)⟩
theorem DVs.reads {pins : List (Addr × Obj)} {σ : St} {H : Hp} {s : Shared} (I : Inv X pins σ H s) : ∀ {xs : List V} {ds : List PyData} {us : List Value}, DVs X.K H xs ds → Vals xs us → ∃ as, ReadsAll s.heap us ds as
  | _, _, _, .nil, .nil => ⟨_, .nil⟩
  | _, _, _, .cons h hs, .cons r rs => by
    obtain ⟨as, q⟩ := h.reads I r
    obtain ⟨bs, p⟩ := hs.reads I rs
    exact ⟨_, .cons q p⟩
end
theorem op_neD (hu : X.A.units + 64 < cLine) : OpR X (compareOp .NotEq) (fun x y H Q => ∃ d e, DV X.K H x d ∧ DV X.K H y e ∧ SeqAt.shaped d = true ∧ SeqAt.shaped e = true ∧ Q (.bl (!PyData.eqv d e)) H) := by
  intro pins s σ H x y v u Q I rx ry h
  obtain ⟨d, e, hd, he, s1, s2, q⟩ := h
  obtain ⟨as, r1⟩ := hd.reads I rx
  obtain ⟨bs, r2⟩ := he.reads I ry
  exact ne_dataH r1 r2 s1 s2 hu ⟨.bl _, H, I, rfl, q⟩
end
end L2
namespace L2
open PySem PySem.Spec PyProof.Rows
section
variable {X : Cx}
theorem vals_strs : ∀ {ys : List Str} {us : List Value}, Vals (ys.map V.str) us → StrsAre us ys
  | [], us, r => by rw [List.map_nil] at r; cases r; exact .nil
  | y :: ys, us, r => by
    rw [List.map_cons] at r
    cases r with
    | cons r1 r2 =>
      obtain ⟨t, e⟩ := r1
      subst e
      exact .cons y t (vals_strs r2)
theorem strs_vals : ∀ l : List (Str × Tok), Vals ((l.map (·.1)).map V.str) (strValues l)
  | [] => .nil
  | (x, t) :: r => .cons ⟨t, rfl⟩ (strs_vals r)
theorem mt_join : MtR X "str.join" (fun x xs H Q => ∃ sep a ys, x = .str sep ∧ xs = [.ref a] ∧ SqL X.K H a (ys.map V.str) ∧ (ys.map (·.length)).sum + ys.length * sep.length ≤ 16777216 ∧ Q (.str (Str.join sep ys)) H) := by
  intro pins s σ H x xs v us Q I rx rs h
  obtain ⟨sep, a, ys, rfl, rfl, hq, hz, q⟩ := h
  obtain ⟨t, rfl⟩ := rx
  obtain ⟨u, rfl, ru⟩ := vals1 rs
  cases ru
  obtain ⟨its, rv, p, _⟩ := I.list hq
  refine join_list (items := its.toArray) (ys := ys) p.isList (by simpa using vals_strs rv) hz fun t' k => ⟨.str _, H, I.tok k, ⟨t', rfl⟩, ?_⟩
  have e : Txt.join sep ys = Str.join sep ys := by first | rfl | exact StrLaws.glued_eq_join sep ys
  rw [e]
  exact q
theorem mt_split : MtR X "str.split" (fun x xs H Q => ∃ t y, x = .str t ∧ xs = [.str y] ∧ (y.length == 0) = false ∧ t.length + 2 ≤ sizeLine ∧ ∀ l, H l = none → Q (.ref l) (upd H l (.lst ((Txt.split t y).map V.str)))) := by
  intro pins s σ H x xs v us Q I rx rs h
  obtain ⟨x, y, rfl, rfl, hy, hsz, q⟩ := h
  obtain ⟨t, rfl⟩ := rx
  obtain ⟨u, rfl, ru⟩ := vals1 rs
  obtain ⟨tu, rfl⟩ := ru
  have hn : (Builtin.Str.partsBetween x (Builtin.Str.occurrences x y 0 x.length (x.length + 1)) y.length).length ≤ sizeLine := by
    have e1 := StrLaws.occ_length_le x y 0 x.length (x.length + 1)
    rw [length_partsBetween]; omega
  have fin : ∀ (l : List (Str × Tok)) (k : Nat), l.map (·.1) = Txt.split x y → l.length ≤ sizeLine → EP X pins σ Q (.ref s.heap.objs.size) { s with heap := s.heap.push { cls := .type "list", data := .seq (strValues l).toArray }, toks := k } := fun l k e hl => by
    refine ⟨.ref s.heap.objs.size, upd H s.heap.objs.size (.lst ((Txt.split x y).map V.str)), I.laid (t' := k) (fun b o e => Heap.get?_push_of_some _ e) (Nat.le_refl _) ⟨?_, strValues l, _, ?_, Heap.get?_push_size _ rfl⟩, rfl, q _ (I.hok.fresh (Nat.le_refl _))⟩
    · rw [← e, List.length_map, List.length_map]
      exact hl
    · rw [← e]
      exact strs_vals l
  cases h1 : (decide (x.length < y.length) || decide (Builtin.Str.strKind x < Builtin.Str.strKind y))
  · cases hf : (Builtin.Str.occurrences x y 0 x.length (x.length + 1)).isEmpty
    · refine call_meets F.slot_str_split (typeIs_str _ _ _) F.entry_str_split (F.args_str_split_2 _ _) (meets_str_split_sep x y t tu h1 hy hf (by omega) hn) ?_
      show wants _ _ _ { s with toks := _, heap := s.heap.push { cls := .type "list", data := .seq (strsFrom s.toks (Builtin.Str.partsBetween x (Builtin.Str.occurrences x y 0 x.length (x.length + 1)) y.length)).toArray } }
      rw [strsFrom_eq]
      refine fin (numbered s.toks _) _ ((numbered_texts _ _).trans ((if_neg (ne_true_of_eq_false h1)).trans (if_neg (ne_true_of_eq_false hf))).symm) ?_
      have e := congrArg List.length (numbered_texts s.toks (Builtin.Str.partsBetween x (Builtin.Str.occurrences x y 0 x.length (x.length + 1)) y.length))
      rw [List.length_map] at e
      omega
    · exact call_meets F.slot_str_split (typeIs_str _ _ _) F.entry_str_split (F.args_str_split_2 _ _) (meets_str_split_not_found x y t tu h1 hy hf)
        (fin [(x, t)] s.toks ((if_neg (ne_true_of_eq_false h1)).trans (if_pos hf)).symm (by show 1 ≤ sizeLine; decide))
  · exact call_meets F.slot_str_split (typeIs_str _ _ _) F.entry_str_split (F.args_str_split_2 _ _) (meets_str_split_cannot_occur x y t tu h1)
      (fin [(x, t)] s.toks (if_pos h1).symm (by show 1 ≤ sizeLine; decide))
theorem call_str_str : CallR X (.type "str") (fun xs H Q => ∃ x, xs = [.str x] ∧ Q (.str x) H) := by
  intro pins s σ H xs us Q I r h
  obtain ⟨x, rfl, q⟩ := h
  obtain ⟨u, rfl, t, rfl⟩ := vals1 r
  exact PySem.P.str_of_str ⟨.str x, H, I, ⟨t, rfl⟩, q⟩
theorem call_int_text : CallR X (.type "int") (fun xs H Q => ∃ x n, xs = [.str x] ∧ PySem.intText? x = some n ∧ x.length ≤ 640 ∧ Q (.int n) H) := by
  intro pins s σ H xs us Q I r h
  obtain ⟨x, n, rfl, hn, hl, q⟩ := h
  obtain ⟨u, rfl, t, rfl⟩ := vals1 r
  exact PySem.W.KIN.call_text hn hl ⟨.int n, H, I.tok _, ⟨_, rfl⟩, q⟩
theorem ps_setC {i : Nat} {x : Str} {elt iter tg : Expr} {ifs : List Expr} {sc : Scope} {pos spos pos' : Pos} {own cap : List Str} {js : List Nat} {wi : TI} {g : TG} {tt : TT} {te : TE} (hN : X.N.Nodup) (hix : X.N[i]? = some x) (hx : Loc X.env.scope x)
    (hc : X.calm = true) (S : BlkScope X sc) (cp : Caps X sc cap js) (hi : PI X tg iter wi)
    (hg : ∀ fp s H C, PG (blk X (own ++ cap) sc fp s H C) tg g) (ht : ∀ fp s H C, PTs (blk X (own ++ cap) sc fp s H C) ifs tt) (he : ∀ fp s H C, PE (blk X (own ++ cap) sc fp s H C) elt te)
    (hsw : swapsWith (.ListComp elt [⟨tg, iter, ifs, 0⟩] sc pos) (some (.Name x pos')) spos.line X.env = pure true := by rfl) (hs : ∀ x, foldedSetIterable iter X.env x = pure x := by intro _; rfl)
    (hf : X.fn x = true ∨ X.env.scope.names.lookup x = some .local := by first | exact .inl rfl | exact .inr rfl | assumption) :
    PS X (.Assign [.Name x pos'] (.ListComp elt [⟨tg, iter, ifs, 0⟩] sc pos) spos) (tAsg (tComp wi g tt te own.length js) (gName i)) := by
  intro pins s σ H D I h
  rw [exec_Assign_Name_used _ _ _ _ hsw]
  refine wpAny_bind (wpAny_standAt (wpAny_bind ?_))
  show wpAny _ X.A (do let _ ← comprehension (.ListComp elt [⟨tg, iter, ifs, 0⟩] sc pos) sc X.env _ (newList []) false (eval iter X.env) (some (assign (.Name x pos') X.env))) _ _ s
  refine wpAny_bind (wpAny_mono (wpAny_comprehension_free (use := some (assign (.Name x pos') X.env)) (Q := fun _ s' => SP X pins D .next s') rfl hs (closure_of fun y hy hf => I.ok.has y.1 (S.free y hy hf)) S.kind S.names
    (thn (hi pins s σ H _ I h) fun v s1 h1 => thn h1 fun itv s2 h2 => ?_)) (fun _ s' hq => wpAny_pure (wpAny_pure hq)) fun _ _ e => e)
  obtain ⟨it, fp, tn, J, H2, e, I2, T, st2, f2, W, ⟨m0, w0⟩, turn⟩ := h2
  subst e
  refine blk_run (RR := fun acc C => compPost (model X.prog X.w) X.A X.xe (some (assign (.Name x pos') X.env)) (fun _ s' => SP X pins D .next s') acc C) (Qf := fun ys H => ∀ p, H p = none → D.nx (σ.set i (some (.ref p))) (upd H p (.lst ys))) hc S cp hg ht he I2 T st2 f2 w0 turn ?_
  intro DD C H4 s4 pn ys its nn hD hC hDC I4 n4 o4 hz rv q
  have I5 : Inv X pins σ (upd H4 DD (.lst ys)) s4 := blk_end (h' := s4.heap) I2 I4 f2 hC hD hDC n4 o4 hz rv (Heap.SameBut.refl ..)
  obtain ⟨m, hn, _⟩ := I4.loc
  have hn' : s4.heap.Ns C m := hn
  show wpAny _ X.A (assign (.Name x pos') X.env (.ref DD)) _ _ s4
  refine wpAny_assign_Name (store_ok2 I5 hN hix hx (v := .ref DD) (u := .ref DD) rfl (fun s6 I6 ⟨a, hsb, ha⟩ => ?_) hf)
  have lt2 : X.env.locals < s2.heap.objs.size := I2.lt
  have cellC : ∀ y c, X.env.cells.lookup y = some c → c ≠ C := fun y c e => by
    obtain ⟨v, z⟩ := I2.cell y c e
    exact Nat.ne_of_lt (Nat.lt_of_lt_of_le z.lt hC)
  have aC : C ≠ a := by
    rcases ha with rfl | ha
    · exact Nat.ne_of_gt (Nat.lt_of_lt_of_le lt2 hC)
    · exact Ne.symm (cellC _ _ ha)
  refine ⟨m, hn'.sameBut hsb aC, fun h' hs' => ?_⟩
  have nC : (upd H4 DD (.lst ys)) C = none := by rw [upd_ne (Ne.symm hDC)]; exact I4.free
  have I7 := I6.turned (h' := h') (t' := s6.toks) (it := C) (fun b o hb e => (hs'.2 b hb).trans e) nC (Nat.ne_of_gt (Nat.lt_of_lt_of_le lt2 hC)) (.inr (Nat.le_trans I2.sz hC)) cellC (fun p hp => by
    exact Nat.ne_of_lt (Nat.lt_of_lt_of_le (Heap.lt_size (I2.pin p hp).1) hC))
  exact ⟨_, _, I7, q DD n4⟩
def Itv (K : PySem.W.Frag) (a : Addr) (xs : List V) : It :=
  ⟨fun i H => SqL K H a xs ∧ i < xs.length, fun i H x H' => H' = H ∧ xs[xs.length - 1 - i]? = some x, fun i H => SqL K H a xs ∧ i = xs.length⟩
def iRev (K : PySem.W.Frag) (ta : TA) : TI := fun σ H R => ta σ H fun vs H1 => ∃ a xs, vs = [.ref a] ∧ SqL K H1 a xs ∧ R (Itv K a xs) H1
theorem turn_rev {P : Program} {w : World} {K : PySem.W.Frag} {tg : Expr} (a it : Addr) (xs : List V) : Turn P w K tg (Itv K a xs) [it] it (fun i h => i ≤ xs.length ∧ h.IsRevIter it a ((xs.length : Int) - 1 - (i : Int))) where
  mem := by simp
  obj := fun i h st b hb => by
    have e : b = it := by simpa using hb
    subst e
    obtain ⟨_, o, e, c, d⟩ := st
    exact ⟨o, e, fun v z => by rw [d] at z; cases z⟩
  keep := fun i h h' st k => ⟨st.1, st.2.at fun o e => k it (by simp) o e⟩
  item := by
    intro X hP hw hK hc i pins s σ H E I hf st hg
    subst hP hw hK
    obtain ⟨hq, hlt⟩ := hg
    obtain ⟨f0, f1, f2, f3, f4, f5⟩ := hf it (by simp)
    obtain ⟨its, rv, p, hz⟩ := I.list hq
    have hl := rv.length
    have hx : xs[xs.length - 1 - i]? = some (xs[xs.length - 1 - i]'(by omega)) := List.getElem?_eq_getElem (by omega)
    obtain ⟨u, hu, ru⟩ := rv.get hx
    have hit := st.2
    rw [show (xs.length : Int) - 1 - (i : Int) = ((xs.length - 1 - i : Nat) : Int) by omega] at hit
    refine wpAny_pyNext_rev_item hit p.isList (x := u) (by simpa using hu) fun h' hit' hs' => ?_
    rw [show ((xs.length - 1 - i : Nat) : Int) - 1 = (xs.length : Int) - 1 - ((i + 1 : Nat) : Int) by omega] at hit'
    have I1 : Inv X pins σ H { s with heap := h' } := I.turned (t' := s.toks) (fun b o hb e => (hs'.2 b hb).trans e) f0 f1 f3 f4 f5
    obtain ⟨o, e, c', d⟩ := id hit'
    exact ⟨u, rfl, go_of (s := { s with heap := h' }) e c' d (by decide) ⟨_, H, I1, ru, ⟨rfl, hx⟩, ⟨hlt, hit'⟩, fun b hb => (hf b hb).1⟩⟩
  done := by
    intro X hP hw hK hc i pins s σ H E I hf st hg
    subst hP hw hK
    obtain ⟨hq, e⟩ := hg
    obtain ⟨f0, f1, f2, f3, f4, f5⟩ := hf it (by simp)
    have hit := st.2
    rw [show (xs.length : Int) - 1 - (i : Int) = -1 by omega] at hit
    exact wpAny_pyNext_rev_end (I.ok.hd hc) hit fun h' he' => ⟨rfl, I.turned (t' := s.toks) (fun b o hb e => he' b o hb e) f0 f1 f3 f4 f5⟩
  self := fun _ _ _ _ _ st h => wpAny_pyIter_revIter st.2 h
theorem boot_reversed : bootBuiltins "reversed" = some (.type "reversed") := by decide +kernel
theorem pi_reversed {tg a : Expr} {ta : TA} {p pos : Pos} (hg : Gl X "reversed") (hm : X.mg "reversed" = none) (ha : PA X [a] ta) (hs : starEach [a] X.env = [(false, eval a X.env)] := by rfl) : PI X tg (.Call (.Name "reversed" p) [a] [] pos) (iRev X.K ta) := by
  intro pins s σ H R I h
  refine Call_ (ld_blt I hg hm boot_reversed (PyProof.Rows.callWith_type1 (thn (ha pos pins s σ H _ I h) fun us s1 ⟨vs, H1, I1, r1, q1⟩ => ?_) hs rfl))
  obtain ⟨b, xs, e, hq, q⟩ := q1
  subst e
  obtain ⟨u, rfl, ru⟩ := vals1 r1
  cases ru
  obtain ⟨its, rv, pl, hz⟩ := I1.list hq
  have hl := rv.length
  refine call_reversed_list pl.isList ?_
  have hit : (s1.heap.push (revObj b ((its.toArray.size : Int) - 1))).IsRevIter s1.heap.objs.size b ((xs.length : Int) - 1 - ((0 : Nat) : Int)) := by
    refine ⟨_, Heap.get?_push_size _ rfl, rfl, ?_⟩
    show Data.fields #[.ref b, rawInt _] = Data.fields #[.ref b, rawInt _]
    rw [List.size_toArray, ← hl, show (xs.length : Int) - 1 - ((0 : Nat) : Int) = (xs.length : Int) - 1 by omega]
  refine wpAny_pyIter_revIter (s := { s1 with heap := s1.heap.push (revObj b ((its.toArray.size : Int) - 1)) }) hit ?_
  refine ⟨s1.heap.objs.size, [s1.heap.objs.size], _, _, H1, rfl, I1.kept (t' := s1.toks) fun b o e => Heap.get?_push_of_some _ e, turn_rev b _ xs, ⟨Nat.zero_le _, hit⟩, fun c hc => ?_, q⟩
  have e : c = s1.heap.objs.size := by simpa using hc
  subst e
  exact I1.fpOk (Nat.le_refl _) (I1.hok.fresh (Nat.le_refl _))
end
theorem for_rev {K : PySem.W.Frag} {a : Addr} {xs : List V} {g : TG} {tb : TS} {D : Ends} {σ : St} {H : Hp} (Pv : Nat → St → Hp → Prop) (h0 : Pv 0 σ H) (hl : ∀ i σ H, i ≤ xs.length → Pv i σ H → SqL K H a xs)
    (hs : ∀ i x σ H, i < xs.length → xs[xs.length - 1 - i]? = some x → Pv i σ H → g x σ H fun σ2 H2 => tb { D with nx := Pv (i + 1), ct := Pv (i + 1), bk := D.nx } σ2 H2) (hd : ∀ σ H, Pv xs.length σ H → D.nx σ H) :
    ∃ W : Nat → Nat → St → Hp → Prop, (∃ m, W 0 m σ H) ∧ ∀ i m σ H, W i m σ H →
      ((Itv K a xs).stop i H ∧ D.nx σ H) ∨ ((Itv K a xs).go i H ∧ ∃ N : St → Hp → Prop, (∀ σ' H', N σ' H' → ∃ m', m' < m ∧ W (i + 1) m' σ' H') ∧ ∀ x H', (Itv K a xs).yld i H x H' → g x σ H' fun σ2 H2 => tb { D with nx := N, ct := N, bk := D.nx } σ2 H2) := by
  refine ⟨fun i m σ H => m = xs.length - i ∧ i ≤ xs.length ∧ Pv i σ H, ⟨xs.length, by simp, Nat.zero_le _, h0⟩, ?_⟩
  rintro i m σ H ⟨rfl, hi, p⟩
  have q := hl i σ H hi p
  by_cases hlt : i < xs.length
  · refine .inr ⟨⟨q, hlt⟩, Pv (i + 1), fun σ' H' p' => ⟨xs.length - (i + 1), by omega, rfl, hlt, p'⟩, fun x H' y => ?_⟩
    obtain ⟨e, y⟩ := y
    subst e
    exact hs i x σ _ hlt y p
  · have e : i = xs.length := by omega
    subst e
    exact .inl ⟨⟨q, rfl⟩, hd σ H p⟩
end L2
namespace L2
open PySem PySem.Spec PyProof.Rows
section
variable {X : Cx} {a : Addr} {D : List (Str × KTD.Dat)}
theorem op_notIn_tab (T : KTD.TextTab X.base a D) : OpR X (compareOp .NotIn) (fun x y H Q => ∃ k, x = .str k ∧ y = .ref a ∧ Q (.bl (!KTD.inKeys k D)) H) := by
  intro pins s σ H x y v u Q I rx ry h
  obtain ⟨k, rfl, rfl, q⟩ := h
  obtain ⟨t, rfl⟩ := rx
  cases ry
  exact KTD.notin_text ⟨T, I.bk⟩ ⟨.bl _, H, I.tok _, rfl, q⟩
theorem ix_tab (T : KTD.TextTab X.base a D) : IxR X (fun x y H Q => ∃ k i, x = .ref a ∧ y = .str k ∧ KTD.datumAt k D = some (.flat (.int i)) ∧ Q (.int i) H) := by
  intro value slice pins s σ H x y v u Q I rx ry h hs
  obtain ⟨k, i, rfl, rfl, hd, q⟩ := h
  cases rx
  obtain ⟨tk, rfl⟩ := ry
  have T' : KTD.Here X.base s.heap a D := ⟨T, I.bk⟩
  refine subscriptTail_builtin_flat T'.typeIs slot_dict_getitem.lookup ?_ hs
  unfold getItem
  try with_reducible refine wpAny_holding ?_
  refine wpAny_bind (wpAny_sequenceKey T'.typeIs (by decide) ?_)
  refine wpAny_bind (wpAny_callSpecial?_slot (name := Str.ofString "__getitem__") T'.typeIs slot_dict_getitem
    (wpAny_call_entry slot_dict_getitem T'.typeIs entry_dict_getitem ?_ (args_dict_getitem _ _)))
  show wpAny _ _ (dictGet a (.str k tk) >>= _) _ _ s
  refine wpAny_bind (KTD.dictGet_text T' (fun d v ha hv => ?_) fun hn => ?_)
  · rw [hd] at ha
    cases ha
    have hv' : Reads s.heap v (.int i) [] := hv s.heap
    obtain ⟨t, rfl⟩ : ∃ t, v = Value.int i t := by
      cases hv' with
      | int _ t => exact ⟨t, rfl⟩
    have fin : EP X pins σ Q (.int i t) { s with toks := s.toks + 1 } := ⟨.int i, H, I.tok _, ⟨t, rfl⟩, q⟩
    exact wpAny_pure ⟨Value.int i t, rfl, wpAny_pure ⟨fun b z => (nomatch z), fin⟩⟩
  · rw [hd] at hn
    cases hn
end
end L2
namespace L2
open PySem PySem.Spec PyProof.Rows
section
variable {X : Cx}
@[irreducible] def rStrAny : List V → Hp → VK → Prop := fun xs H Q => (∃ x, xs = [.str x] ∧ Q (.str x) H) ∨ ∃ i : Int, xs = [.int i] ∧ i.natAbs.log2 < 1920 ∧ Q (.str (toString i)) H
theorem call_str_any : CallR X (.type "str") rStrAny := by
  intro pins s σ H xs us Q I r h
  unfold rStrAny at h
  rcases h with h | h
  · exact call_str_str pins s σ H xs us Q I r h
  · exact call_str_int pins s σ H xs us Q I r h
end
end L2
namespace L2
open PySem PySem.Spec PyProof.Rows
section
variable (K : PySem.W.Frag) {X : Cx} {a b o e : Expr} {es : List Expr} {ta tb to te : TE} {t : TA} {name f : Str} {apos cpos pos : Pos} {T id : String} {r : V → List V → Hp → VK → Prop}
theorem ix_listK (hK : X.K = K := by rfl) : IxR X (rIxL K) := hK ▸ ix_list
theorem ix_tupK (hK : X.K = K := by rfl) : IxR X (rIxT K) := hK ▸ ix_tup
theorem call_tuple_ofK (hK : X.K = K := by rfl) : CallR X (.type "tuple") (fun xs H Q => ∃ p ys, xs = [.ref p] ∧ ((SqL K H p ys ∧ ∀ l, H l = none → Q (.ref l) (upd H l (.tup ys))) ∨ (SqT K H p ys ∧ Q (.ref p) H))) := hK ▸ call_tuple_of
theorem pe_fldK (he : PE X e ta) (hb : attributeBase e f X.env (eval e X.env) = eval e X.env) (hK : X.K = K := by rfl) : PE X (.Attribute e f pos) (tFld K ta f) := hK ▸ pe_fld he hb
end
end L2
namespace SSet
open PySem PySem.Spec PyProof.Rows
theorem led_or (t : SetTable) (n : Nat) : (t.orStandIn n).led = t.led ∧ (t.plain = false → (t.orStandIn n).plain = false) := by
  unfold SetTable.orStandIn
  split
  · exact ⟨rfl, id⟩
  · exact ⟨rfl, fun _ => rfl⟩
theorem led_new (t : SetTable) (es : Array (Int × Value)) (h : Int) (x : Value) : (layNew t es h x).2.1.led = t.led := by
  unfold layNew
  split
  · exact (led_or _ _).1
  · rfl
theorem led_relay (t : SetTable) (es : Array (Int × Value)) (k : Nat) : (relayAll t es k).2.1.led = t.led ∧ (t.plain = false → (relayAll t es k).2.1.plain = false) := by
  unfold relayAll
  split
  · rename_i u order e
    have q : u.led = t.led ∧ u.plain = t.plain := by
      unfold SetTable.relaid SetTable.laid at e
      simp only [bind, Option.bind, pure] at e
      split at e
      · cases e
      · injection e with e
        injection e with e _
        rw [← e]
        exact ⟨rfl, rfl⟩
    dsimp only
    split
    · exact ⟨q.1, fun z => q.2.trans z⟩
    · exact ⟨rfl, fun _ => rfl⟩
  · exact ⟨rfl, fun _ => rfl⟩
def SS (prog : Program) (w : World) (h : Heap) (a : Addr) (D : List Str) (b : Bool) : Prop :=
  ∃ o es ep t, h.get? a = some o ∧ o.ExactSet ∧ o.data = .set es ep t ∧ ElemsOf (PySem.strKind prog w) es.toList ∧ (es.toList.map fun e => strOf e.2).Perm D ∧ es.size < scanBound ∧ t.fits es.size = true ∧ t.led = b ∧ (es.size = 0 ∨ t.plain = false)
section
variable {prog : Program} {w : World} {A : Around} {E : Value → Shared → Prop} {s : Shared}
theorem SS.keep {h h' : Heap} {a : Addr} {D : List Str} {b : Bool} (x : SS prog w h a D b) (k : ∀ o, h.get? a = some o → h'.get? a = some o) : SS prog w h' a D b := by
  obtain ⟨o, es, ep, t, ho, r⟩ := x
  exact ⟨o, es, ep, t, k _ ho, r⟩
theorem el_str {es : List (Int × Value)} (h : ElemsOf (PySem.strKind prog w) es) {e : Int × Value} (he : e ∈ es) : ∃ x t, e.2 = .str x t ∧ e.1 = (PySem.strKind prog w).hash x := by
  obtain ⟨⟨k, hk, hh⟩, _⟩ := h e he
  obtain ⟨t, et⟩ := Value.isStrOf_shape (x := k) (v := e.2) hk
  exact ⟨k, t, et, hh⟩
theorem mem_iff_idx {es : List (Int × Value)} {D : List Str} {x : Str} (hel : ElemsOf (PySem.strKind prog w) es) (hp : (es.map fun e => strOf e.2).Perm D) :
    x ∈ D ↔ ∃ e ∈ es, (PySem.strKind prog w).is x e.2 = true := by
  rw [← hp.mem_iff, List.mem_map]
  constructor
  · rintro ⟨e, he, rfl⟩
    obtain ⟨y, t, e1, _⟩ := el_str hel he
    refine ⟨e, he, ?_⟩
    rw [e1]
    show Value.isStrOf y (.str y t) = true
    simp [Value.isStrOf]
  · rintro ⟨e, he, hi⟩
    obtain ⟨t, e1⟩ := Value.isStrOf_shape (x := x) (v := e.2) hi
    exact ⟨e, he, by rw [e1]; rfl⟩
theorem tail_str {g : Bool → Sem Unit} (hg : ∀ (b : Bool) (s₁ : Shared) (Q' : Unit → Shared → Prop), Q' () s₁ → wpAny (model prog w) A (g b) Q' E s₁)
    {a : Addr} {o : Obj} {es : Array (Int × Value)} {ep : Nat} {t : SetTable} (ho : s.heap.get? a = some o) (hex : o.ExactSet) (hd : o.data = .set es ep t)
    {fs : Array (Int × Value)} {u : SetTable} {D : List Str} {b : Bool} (hel : ElemsOf (PySem.strKind prog w) fs.toList) (hp : (fs.toList.map fun e => strOf e.2).Perm D) (hb : fs.size < scanBound) (hf : u.fits fs.size = true) (hl : u.led = b) (hpl : u.plain = false)
    {dm : Bool} {R : Option Bool → Shared → Prop} (h : ∀ h', Heap.SameBut a s.heap h' → SS prog w h' a D b → R (some true) { s with heap := h' }) :
    wpAny (model prog w) A (do
        storeSet a fs u
        if (!dm && u.tooFull) = true then do
            g (relayAll u fs (SetTable.grown fs.size)).2.2
            storeSet a (relayAll u fs (SetTable.grown fs.size)).1 (relayAll u fs (SetTable.grown fs.size)).2.1
            pure (some true)
          else pure (some true)) R E s := by
  have lim : ∀ {n : Nat}, n < scanBound → n ≤ sizeLine := fun z => fits_of_scanBound z
  refine wpAny_bind (wpAny_storeSet_of ho hd ?_ (lim hb))
  have k1 : (s.heap.update a (Obj.putSet fs u)).get? a = some { o with data := .set fs (ep + 1) u } := by
    have z := Heap.get?_update_self (Obj.putSet fs u) ho (by rw [putSet_of fs u hd]; rfl)
    rw [putSet_of fs u hd] at z
    exact z
  have b1 := Heap.SameBut.update s.heap a (Obj.putSet fs u)
  split
  · have p2 := relayAll_perm u fs (SetTable.grown fs.size)
    have f2 := relayAll_fits u fs (SetTable.grown fs.size)
    obtain ⟨l2, q2⟩ := led_relay u fs (SetTable.grown fs.size)
    generalize relayAll u fs (SetTable.grown fs.size) = R2 at p2 f2 l2 q2 ⊢
    obtain ⟨fs2, u2, gv⟩ := R2
    dsimp only at p2 f2 l2 q2 ⊢
    have z2 : fs2.size = fs.size := by rw [← Array.length_toList, p2.length_eq, Array.length_toList]
    refine wpAny_bind (hg _ _ _ ?_)
    refine wpAny_bind (wpAny_storeSet_of k1 rfl ?_ (lim (by rw [z2]; exact hb)))
    have k2 : ((s.heap.update a (Obj.putSet fs u)).update a (Obj.putSet fs2 u2)).get? a = some { o with data := .set fs2 (ep + 1 + 1) u2 } := by
      have z := Heap.get?_update_self (Obj.putSet fs2 u2) k1 (by rw [putSet_of fs2 u2 rfl]; rfl)
      rw [putSet_of fs2 u2 rfl] at z
      exact z
    exact wpAny_pure (h _ (b1.trans (Heap.SameBut.update _ a _)) ⟨_, fs2, _, u2, k2, hex, rfl, ElemsOf.perm hel p2, (p2.map _).trans hp, by rw [z2]; exact hb, f2, l2.trans hl, .inr (q2 hpl)⟩)
  · exact wpAny_pure (h _ b1 ⟨_, fs, _, u, k1, hex, rfl, hel, hp, hb, hf, hl, .inr hpl⟩)
theorem add_str {a : Addr} {D : List Str} {b : Bool} {x : Str} {tk : Tok} {Q : Bool → Shared → Prop} (hS : SS prog w s.heap a D b) (hroom : D.length + 1 < scanBound)
    (h : ∀ h' r, Heap.SameBut a s.heap h' → SS prog w h' a (if x ∈ D then D else D ++ [x]) b → Q r { s with heap := h' }) :
    wpAny (model prog w) A (setAddHashed a (.str x tk) ((PySem.strKind prog w).hash x)) Q E s := by
  obtain ⟨o, es, ep, t, ho, hex, hd, hel, hp, hb, hf, hl, hpl⟩ := hS
  have key : (PySem.strKind prog w).is x (.str x tk) = true := by
    show Value.isStrOf x (.str x tk) = true
    simp [Value.isStrOf]
  have hz : es.size = D.length := by rw [← hp.length_eq, List.length_map, Array.length_toList]
  unfold setAddHashed setAddHashedIn
  refine wpAny_holding (wpAny_bind (wpAny_setState_of ho hd hf ?_))
  dsimp only
  rw [byScan_of (x := .str x tk) rfl hb hel]
  simp only [↓reduceIte]
  unfold setAddByScan
  refine wpAny_bind (wpAny_bind (wpAny_rule (wpAny_bind (wpAny_setScan_of key ho hd hf hel ?_))))
  have mi := mem_iff_idx (x := x) hel hp
  cases hr : List.findIdx? (fun e => (PySem.strKind prog w).is x e.2) es.toList with
  | some j =>
    obtain ⟨hj, hpj, _⟩ := List.findIdx?_eq_some_iff_getElem.mp hr
    have hin : x ∈ D := mi.mpr ⟨_, List.getElem_mem hj, hpj⟩
    dsimp only
    refine wpAny_pure (wpAny_pure ?_)
    have z := h s.heap false (Heap.SameBut.refl a s.heap)
    rw [if_pos hin] at z
    exact z ⟨o, es, ep, t, ho, hex, hd, hel, hp, hb, hf, hl, hpl⟩
  | none =>
    have hno : ¬ x ∈ D := fun hin => by
      obtain ⟨e, he, hi⟩ := mi.mp hin
      have z := List.findIdx?_eq_none_iff.mp hr e he
      rw [hi] at z
      cases z
    simp only [if_neg hno] at h
    dsimp only
    have p1 := layNew_perm t es ((PySem.strKind prog w).hash x) (.str x tk)
    have f1 := layNew_fits t es ((PySem.strKind prog w).hash x) (.str x tk)
    have l1 := led_new t es ((PySem.strKind prog w).hash x) (.str x tk)
    generalize layNew t es ((PySem.strKind prog w).hash x) (.str x tk) = L at p1 f1 l1 ⊢
    obtain ⟨fs, u, dm, gave⟩ := L
    dsimp only at p1 f1 l1 ⊢
    rw [Array.toList_push] at p1
    have el1 : ElemsOf (PySem.strKind prog w) fs.toList := (hel.push key rfl).perm p1
    have pp : (fs.toList.map fun e => strOf e.2).Perm (D ++ [x]) := by
      refine (p1.map _).trans ?_
      rw [List.map_append]
      exact List.Perm.append hp (List.Perm.refl _)
    have z1 : fs.size = D.length + 1 := by rw [← Array.length_toList, p1.length_eq, List.length_append, Array.length_toList, hz]; rfl
    have give : ∀ (c : Bool) (s₁ : Shared) (Q' : Unit → Shared → Prop), Q' () s₁ → wpAny (model prog w) A (match c with | true => rule "set.scan.the-table-gave-way" | false => pure ()) Q' E s₁ := fun c s₁ Q' q => by
      cases c
      · exact wpAny_pure q
      · exact wpAny_rule q
    refine wpAny_bind (give _ _ _ ?_)
    split
    · refine wpAny_bind ?_
      rw [hashByValue_scannable 8 (x := .str x tk) rfl]
      refine wpAny_pure ?_
      refine tail_str (b := b) (D := D ++ [x]) give ho hex hd el1 pp (by omega) (SetTable.fits_plain_off f1) (l1.trans hl) rfl ?_
      intro h' sb S'
      exact wpAny_pure (h h' _ sb S')
    · rename_i np
      refine wpAny_bind (wpAny_pure ?_)
      simp only [↓reduceIte]
      refine tail_str (b := b) (D := D ++ [x]) give ho hex hd el1 pp (by omega) f1 (l1.trans hl) (by simpa using np) ?_
      intro h' sb S'
      exact wpAny_pure (h h' _ sb S')
def dd (xs : List Str) : List Str := xs.foldl (fun D x => if x ∈ D then D else D ++ [x]) []
theorem dd_snoc (xs : List Str) (x : Str) : dd (xs ++ [x]) = if x ∈ dd xs then dd xs else dd xs ++ [x] := by
  unfold dd
  rw [List.foldl_append]
  rfl
theorem dd_le : ∀ n (xs : List Str), (dd (xs.take n)).length ≤ n
  | 0, xs => Nat.le_refl 0
  | n + 1, xs => by
    have ih := dd_le n xs
    rw [List.take_add_one]
    cases e : xs[n]? with
    | none =>
      rw [Option.toList_none, List.append_nil]
      omega
    | some x =>
      rw [Option.toList_some, dd_snoc]
      split
      · omega
      · rw [List.length_append, List.length_singleton]
        omega
theorem upd_loop {R : Result → Shared → Prop} {I S : Addr} {fp wr : List Addr} {n : Nat} {P : Nat → Value → Prop} {St : Nat → Heap → Prop} {b : Bool} (W : Walks prog w A.in1 I fp wr n P St) (hSf : S ∉ fp) (xs : List Str)
    (hval : ∀ i v, P i v → ∃ x t, xs[i]? = some x ∧ v = .str x t) (hn : n + 1 < scanBound) :
    ∀ (k i : Nat) (s : Shared), n - i = k → i ≤ n → St i s.heap → SS prog w s.heap S (dd (xs.take i)) b →
      (∀ h' tk, SS prog w h' S (dd (xs.take n)) b → (∀ c o, c ∉ S :: wr → s.heap.get? c = some o → h'.get? c = some o) → R (.ok (.ret .none)) { s with heap := h', toks := tk }) →
      codeAny (model prog w) A (.builtin "set.update.loop" ⟨[.ref S, .ref I], []⟩) R s := by
  have nw : S ∉ wr := fun z => hSf (W.sub _ z)
  intro k
  induction k with
  | zero =>
    intro i s hk hi st hS hR
    obtain rfl : i = n := by omega
    refine codeAny_builtin PyProof.Rows.F.entry_set_update_loop ?_
    rw [Around.under_plainId PyProof.Rows.F.plain_set_update_loop _]
    show wpAny _ A.in1 (pyNext (.ref I) >>= _) _ _ s
    refine wpAny_bind (W.done s _ _ st fun h' tk keep => ?_)
    show wpAny _ A.in1 (ret Value.none) _ _ _
    exact wpAny_pure (hR h' tk (hS.keep fun o e => keep S o nw e) fun c o hc e => keep c o (fun z => hc (List.mem_cons_of_mem _ z)) e)
  | succ k ih =>
    intro i s hk hi st hS hR
    have hlt : i < n := by omega
    refine codeAny_builtin PyProof.Rows.F.entry_set_update_loop ?_
    rw [Around.under_plainId PyProof.Rows.F.plain_set_update_loop _]
    show wpAny _ A.in1 (pyNext (.ref I) >>= _) _ _ s
    refine wpAny_bind (W.item i s _ _ hlt st fun v h1 tk hP st1 keep => ?_)
    obtain ⟨x, t, hx, rfl⟩ := hval i v hP
    have hS1 : SS prog w h1 S (dd (xs.take i)) b := hS.keep fun o e => keep S o nw e
    show wpAny _ A.in1 (holding [Value.str x t] (setAdd S (.str x t)) >>= _) _ _ _
    refine wpAny_bind (wpAny_holding ?_)
    unfold setAdd
    refine wpAny_holding (wpAny_bind ((PySem.strKind prog w).pyHash (k := x) (by show Value.isStrOf x (.str x t) = true; simp [Value.isStrOf]) ?_))
    have hle := dd_le i xs
    refine add_str (b := b) (D := dd (xs.take i)) (s := { s with heap := h1, toks := tk + 1 }) hS1 (by omega) fun h2 r sb S2 => ?_
    have e2 : (if x ∈ dd (xs.take i) then dd (xs.take i) else dd (xs.take i) ++ [x]) = dd (xs.take (i + 1)) := by
      rw [List.take_add_one, hx, Option.toList_some, dd_snoc]
    rw [e2] at S2
    refine wpAny_pure ⟨plainId_quiet PyProof.Rows.F.plain_set_update_loop _, ih (i + 1) _ (by omega) hlt (W.frame _ h1 _ st1 fun c hc o e => ?_) S2 fun h3 tk3 S3 keep3 => ?_⟩
    · rw [sb.2 c (fun z : c = S => hSf (by rw [← z]; exact hc))]
      exact e
    · refine hR h3 tk3 S3 fun c o hc e => keep3 c o hc ?_
      show h2.get? c = some o
      rw [sb.2 c (fun z : c = S => hc (by rw [z]; exact List.mem_cons_self))]
      exact keep c o (fun z => hc (List.mem_cons_of_mem _ z)) e
abbrev empt (w : World) : Obj := { cls := .type "set", dict := none, data := .set #[] 0 (.fresh 0 0 (!w.params.followText "set-order")) }
theorem new_set (v : Value) {Q1 : Value → Shared → Prop} (h : Q1 (.ref s.heap.objs.size) { s with heap := s.heap.push (empt w) }) :
    codeAny (model prog w) A (.call (.builtin "set.__new__") ⟨[.type "set", v], []⟩) (wants Q1 E) s := by
  refine codeAny_of_tree ?_
  have sb := sub_set_self
  show wpAny _ A.in1 (checkBuiltinCall "set.__new__" ⟨[.type "set", v], []⟩ >>= fun _ => again (.builtin "set.__new__" ⟨[.type "set", v], []⟩)) _ _ s
  refine wpAny_bind (wpAny_of_eq (PySem.F.newCall_set_1 v) (wpAny_pure ⟨plainId_quiet PySem.F.plain_set_new _, codeAny_builtin PySem.F.entry_set_new ?_⟩))
  rw [Around.under_plainId PySem.F.plain_set_new _]
  obtain ⟨hp, gn, dr, tk, os⟩ := s
  unfold Builtin.«set.__new__»
  unfold Builtin.Frozenset.newClass
  dsimp only
  wp_walk
  refine wpAny_askSetting (wpAny_pure ?_)
  dsimp only [newObj]
  refine wpAny_bind (wpAny_alloc (wpAny_pure (wpAny_pure ?_)))
  exact h
theorem strs_at : ∀ {us : List Value} {xs : List Str}, StrsAre us xs → ∀ (i : Nat) (v : Value), us[i]? = some v → ∃ x t, xs[i]? = some x ∧ v = .str x t
  | _, _, .nil, i, v, e => by simp at e
  | _, _, .cons x t r, 0, v, e => by
    rw [List.getElem?_cons_zero] at e
    cases e
    exact ⟨x, t, rfl, rfl⟩
  | _, _, .cons x t r, i + 1, v, e => by
    rw [List.getElem?_cons_succ] at e
    obtain ⟨y, u, h1, h2⟩ := strs_at r i v e
    exact ⟨y, u, by rw [List.getElem?_cons_succ]; exact h1, h2⟩
theorem empt_ss (h : Heap) : SS prog w (h.push (empt w)) h.objs.size [] (!w.params.followText "set-order") :=
  ⟨_, #[], 0, _, Heap.get?_push_size _ rfl, ⟨rfl, rfl, rfl⟩, rfl, fun e he => by simp at he, .nil, by decide, by rfl, rfl, .inl rfl⟩
set_option maxHeartbeats 3200000 in
theorem set_list {l : Addr} {its : Array Value} {xs : List Str} {Q : Value → Shared → Prop} (hh : A.handled = none) (hl : s.heap.IsList l its) (hi : StrsAre its.toList xs) (hb : its.size + 1 < scanBound)
    (h : ∀ (h' : Heap) (tk : Nat), SS prog w h' s.heap.objs.size (dd xs) (!w.params.followText "set-order") → (∀ c o, s.heap.get? c = some o → h'.get? c = some o) → Q (.ref s.heap.objs.size) { s with heap := h', toks := tk }) :
    wpAny (model prog w) A (call (.type "set") [.ref l]) Q E s := by
  obtain ⟨cM, tM, mro⟩ := PySem.F.called_set.mro
  have made := PySem.F.called_set.made
  have subs := PySem.F.called_set.sub
  have notT := PySem.F.called_set.notType
  have canC := PySem.F.called_set.canCreate
  have chk := PySem.F.typeCall_set_1 (.ref l)
  refine wpAny_call (codeAny_of_tree ?_)
  show wpAny _ _ (callAny (.type "set") ⟨[.ref l], []⟩) _ _ _
  refine wpAny_pure ⟨Code.quiet_builtin _ (by decide +kernel), codeAny_builtin PySem.F.entry_type_call ?_⟩
  rw [Around.under_plain (weight_type_call_type "set" [Value.ref l] []) rfl]
  repeat (any_goals (first | assumption | wp_step))
  refine codeAny_mono (new_set (.ref l) (E := E) (Q1 := fun ob s1 => ob = .ref s.heap.objs.size ∧ s1 = { s with heap := s.heap.push (empt w) }) ⟨rfl, rfl⟩) fun r s1 hr => ?_
  cases r with
  | error e => exact hr
  | ok fl =>
    cases fl with
    | ret ob =>
      obtain ⟨rfl, rfl⟩ := hr
      have g0 : (s.heap.push (empt w)).get? s.heap.objs.size = some (empt w) := Heap.get?_push_size _ rfl
      have ty0 : Shared.TypeIs { s with heap := s.heap.push (empt w) } (.ref s.heap.objs.size) "set" := ⟨_, g0, rfl⟩
      have lk := PySem.F.called_set.init.lookup
      have bd := PySem.F.called_set.init.bind (.ref s.heap.objs.size)
      repeat (any_goals (first | assumption | wp_step))
      refine codeAny_mono (codeAny_call_builtin (R := wants (fun r s2 => r = .none ∧ ∃ h' tk, s2 = { s with heap := h', toks := tk } ∧ SS prog w h' s.heap.objs.size (dd xs) (!w.params.followText "set-order") ∧
          (∀ c o, s.heap.get? c = some o → h'.get? c = some o)) E) PySem.F.called_set.init.plain PySem.F.entry_set_init (check_set_init_1 ty0 ?_)) fun r2 s2 hr2 => ?_
      · obtain ⟨ol, e1, e2, nl, e3⟩ := hl
        obtain ⟨oc, od, oD, osl⟩ := ol
        dsimp only at e2 e3
        subst e2 e3
        have e1' : (s.heap.push (empt w)).get? l = some { cls := .type "list", dict := od, data := .seq its nl, slots := osl } := Heap.get?_push_of_some _ e1
        have q1 := PySem.F.sub_list_set
        have q2 := PySem.F.sub_list_frozenset
        have q3 : (Value.type "list" == Value.type "dict") = false := by decide
        have L1 : (s.heap.push (empt w)).IsList l its := ⟨_, e1', rfl, nl, rfl⟩
        have lt : l < s.heap.objs.size := Heap.lt_size e1
        unfold Builtin.«set.__init__» noKeywords Builtin.Frozenset.updateFrom
        generalize hPI : pyIter = PI
        wp_walk
        subst hPI
        refine wpAny_pyIter_list L1 (wpAny_bind (wpAny_runValue ?_))
        have ne : l ≠ (s.heap.push (empt w)).objs.size := by
          rw [Heap.size_push]
          exact Nat.ne_of_lt (Nat.lt_succ_of_lt lt)
        have nf : s.heap.objs.size ∉ [(s.heap.push (empt w)).objs.size, l] := by
          rw [Heap.size_push]
          intro z
          rcases List.mem_cons.mp z with z | z
          · exact absurd z (Nat.ne_of_lt (Nat.lt_succ_self _))
          · exact absurd (List.mem_singleton.mp z) (Nat.ne_of_gt lt)
        have hv : ∀ (i : Nat) (v : Value), its[i]? = some v → ∃ x t, xs[i]? = some x ∧ v = .str x t := fun i v e => strs_at hi i v (by rw [Array.getElem?_toList]; exact e)
        have hx : xs.take its.size = xs := List.take_of_length_le (by rw [← Array.length_toList, hi.length]; exact Nat.le_refl _)
        refine upd_loop (b := !w.params.followText "set-order") (Walks.list (by simp [hh]) _ l ne its) nf xs hv hb (its.size - 0) 0 _ (by omega) (Nat.zero_le _) ⟨⟨_, Heap.get?_push_size _ rfl, rfl, rfl⟩, L1.push _⟩ ?S0 ?R0
        case S0 => exact (empt_ss s.heap).keep fun o e => Heap.get?_push_of_some _ e
        case R0 =>
          intro h' tk S' keep
          rw [hx] at S'
          show wpAny _ _ _ _ _ _
          refine wpAny_pure ?_
          show wpAny _ _ (ret Value.none) _ _ _
          refine wpAny_pure ⟨rfl, h', tk, rfl, S', fun c o e => ?_⟩
          have clt := Heap.lt_size e
          refine keep c o ?_ (Heap.get?_push_of_some _ (Heap.get?_push_of_some _ e))
          rw [Heap.size_push]
          intro z
          rcases List.mem_cons.mp z with z | z
          · exact absurd z (Nat.ne_of_lt clt)
          · exact absurd (List.mem_singleton.mp z) (Nat.ne_of_lt (Nat.lt_succ_of_lt clt))
      · cases r2 with
        | error e => exact hr2
        | ok fl2 =>
          cases fl2 with
          | ret r =>
            obtain ⟨rfl, h', tk, rfl, S', keep⟩ := hr2
            repeat (any_goals (first | assumption | wp_step))
            exact h _ _ S' keep
          | next => exact hr2.elim
          | brk => exact hr2.elim
          | cont => exact hr2.elim
    | next => exact hr.elim
    | brk => exact hr.elim
    | cont => exact hr.elim
end
end SSet
namespace SSet
open PySem PySem.Spec PyProof.Rows
theorem sl_next : Slot "set_iterator" "__next__" "set_iterator.__next__" := .of (owner := "set_iterator") (n := "__next__") (by rw [typeLookup_type, builtinLookup_eq_fast]; kernel_rfl) (by decide +kernel) (by decide +kernel) (by decide +kernel) (by first | exact .inl (by decide +kernel) | exact .inr (by decide +kernel)) (by rw [isSubtype_type]; kernel_rfl)
theorem en_next : entryFor table "set_iterator.__next__" = some Builtin.«set_iterator.__next__» := entryFor_of_fast (by kernel_rfl)
theorem ar_next (v : Value) : argsOk "set_iterator.__next__" ⟨[v], []⟩ := by unfold argsOk; kernel_rfl
theorem en_iter : entryFor table "set.__iter__" = some Builtin.«frozenset.__iter__» := entryFor_alias (id' := "frozenset.__iter__") (by kernel_rfl) rfl (by decide +kernel) (by kernel_rfl)
theorem sl_self : Slot "set_iterator" "__iter__" "set_iterator.__iter__" := .of (owner := "set_iterator") (n := "__iter__") (by rw [typeLookup_type, builtinLookup_eq_fast]; kernel_rfl) (by decide +kernel) (by decide +kernel) (by decide +kernel) (by first | exact .inl (by decide +kernel) | exact .inr (by decide +kernel)) (by rw [isSubtype_type]; kernel_rfl)
theorem en_self : entryFor table "set_iterator.__iter__" = some Builtin.«dict_keyiterator.__iter__» := entryFor_alias (id' := "dict_keyiterator.__iter__") (by kernel_rfl) rfl (by decide +kernel) (by kernel_rfl)
theorem ar_self (v : Value) : argsOk "set_iterator.__iter__" ⟨[v], []⟩ := by unfold argsOk; kernel_rfl
def SIter (h : Heap) (it a : Addr) (first : Value) (i n ep : Nat) : Prop := h.get? it = some { cls := .type "set_iterator", dict := none, data := .fields #[first, rawInt i, .ref a, rawInt n, rawInt ep], slots := #[] }
def SObj (h : Heap) (a : Addr) (es : Array (Int × Value)) (ep : Nat) (t : SetTable) : Prop := ∃ o, h.get? a = some o ∧ o.cls = .type "set" ∧ o.data = .set es ep t ∧ t.fits es.size = true
theorem SObj.keep {h h' : Heap} {a : Addr} {es : Array (Int × Value)} {ep : Nat} {t : SetTable} (x : SObj h a es ep t) (k : ∀ o, h.get? a = some o → h'.get? a = some o) : SObj h' a es ep t := by
  obtain ⟨o, ho, r⟩ := x
  exact ⟨o, k _ ho, r⟩
section
variable {prog : Program} {w : World} {A : Around} {E : Value → Shared → Prop} {s : Shared}
theorem SIter.typeIs {it a : Addr} {f : Value} {i n ep : Nat} (h : SIter s.heap it a f i n ep) : s.TypeIs (.ref it) "set_iterator" := ⟨_, h, rfl⟩
theorem stop_tail {Q : Option Value → Shared → Prop} {F : Fin → Shared → Prop} (hh : A.handled = none) (hQ : ∀ h', (∀ b o, s.heap.get? b = some o → h'.get? b = some o) → Q none { s with heap := h' }) :
    wpAny (model prog w) A.in1 (newExc (.type "StopIteration") [] >>= fun x => raiseNew x) F (fun e s' => wpAny (model prog w) A (do
          let b ← isInstance e (Value.type "StopIteration")
          if b = true then pure none else throw e) Q E s') s := by
  refine wpAny_bind ?_
  simp only [newExc, newTuple]
  refine wpAny_bind (wpAny_newObj_type ?_ (by size_fits))
  refine wpAny_bind (m := firstArgMember _ _) (wpAny_of_eq (a := Value.none) (by first | rfl | (simp only [firstArgMember]; rfl)) (wpAny_newObj_type ?_ (by size_fits)))
  simp only [raiseNew]
  refine wpAny_bind (wpAny_handled ?_)
  rw [show A.in1.handled = none from hh]
  refine wpAny_bind (wpAny_pure (wpAny_throw ?_))
  refine wpAny_bind (wpAny_isInstance (b := true) (T := "StopIteration") ⟨_, Heap.get?_push_size _ rfl, rfl⟩ isSubtype_stop ?_)
  exact wpAny_pure (hQ _ fun b o e => Heap.get?_push_of_some _ (Heap.get?_push_of_some _ e))
theorem next_in {it a : Addr} {f : Value} {i n ep : Nat} {es : Array (Int × Value)} {t : SetTable} {Q : Option Value → Shared → Prop} (hit : SIter s.heap it a f i n ep) (hs : SObj s.heap a es ep t) (hn : es.size = n)
    (h : wpAny (model prog w) A.in1 (match f with
            | Value.int slot tok => do
              let r ← setNext a slot.toNat i ep
              match r with
                | some (x, nx) => do
                  setField (Value.ref it) 0 (rawInt nx)
                  setField (Value.ref it) 1 (rawInt ((i : Int) + 1))
                  ret x
                | none => do
                  setField (Value.ref it) 2 Value.none
                  let y ← newExc (Value.type "StopIteration") []
                  raiseNew y
            | x => do
              let r ← seqItems? f
              match r with
                | some places =>
                  match places[i]? with
                  | some (Value.int place tok) => do
                    let x ← setNextDrawn a place.toNat ep
                    setField (Value.ref it) 1 (rawInt ((i : Int) + 1))
                    ret x
                  | some val => unsupported "internal:set_iterator"
                  | none => do
                    setField (Value.ref it) 0 (rawInt 0)
                    setField (Value.ref it) 2 Value.none
                    let y ← newExc (Value.type "StopIteration") []
                    raiseNew y
                | x => unsupported "internal:set_iterator")
      (fun fin s' => ∃ v, fin = Fin.done (Flow.ret v) ∧ wpAny (model prog w) A (pure (some v)) Q E s')
      (fun e s' => wpAny (model prog w) A (do
          let b ← isInstance e (Value.type "StopIteration")
          if b = true then pure none else throw e) Q E s') s) : wpAny (model prog w) A (pyNext (.ref it)) Q E s := by
  obtain ⟨oS, hoS, hcS, hdS, hf⟩ := id hs
  unfold pyNext
  refine wpAny_bind (wpAny_attempt (wpAny_callSpecial?_slot (name := Str.ofString "__next__") hit.typeIs sl_next (wpAny_call_entry sl_next hit.typeIs en_next ?_ (ar_next _))))
  unfold Builtin.«set_iterator.__next__»
  refine wpAny_bind (wpAny_pure ?_)
  refine wpAny_bind (wpAny_fieldsOf hit rfl ?_)
  show wpAny _ _ (setEntries a >>= _) _ _ _
  refine wpAny_bind (wpAny_setEntries_of hoS hdS hf ?_)
  rw [if_neg (by rw [hn]; simp [rawInt])]
  exact h
theorem next_drawn {it a tp : Addr} {i n ep : Nat} {es : Array (Int × Value)} {t : SetTable} {pl : Array Value} {j : Nat} {tk : Tok} {e : Int × Value} {Q : Option Value → Shared → Prop}
    (hit : SIter s.heap it a (.ref tp) i n ep) (hs : SObj s.heap a es ep t) (hn : es.size = n) (htp : IsTup s.heap tp pl) (hpl : pl[i]? = some (.int j tk)) (he : es[j]? = some e)
    (hQ : ∀ h', SIter h' it a (.ref tp) (i + 1) n ep → Heap.SameBut it s.heap h' → Q (some e.2) { s with heap := h' }) : wpAny (model prog w) A (pyNext (.ref it)) Q E s := by
  obtain ⟨oS, hoS, hcS, hdS, hf⟩ := id hs
  refine next_in hit hs hn ?_
  dsimp only
  obtain ⟨oT, hoT, hcT, nT, hdT⟩ := htp
  have sq : ∀ {Q' : Option (Array Value) → Shared → Prop}, Q' (some pl) s → wpAny (model prog w) A.in1 (seqItems? (.ref tp)) Q' (fun e s' => wpAny (model prog w) A (do
          let b ← isInstance e (Value.type "StopIteration")
          if b = true then pure none else throw e) Q E s') s := fun q => by
    unfold seqItems?
    refine wpAny_bind (wpAny_load hoT ?_)
    rw [hdT]
    exact wpAny_pure q
  refine wpAny_bind (sq ?_)
  dsimp only
  rw [hpl]
  dsimp only
  rw [Int.toNat_natCast]
  unfold setNextDrawn
  refine wpAny_bind (wpAny_bind (wpAny_setState_of hoS hdS hf ?_))
  dsimp only
  rw [if_neg (by simp), he]
  refine wpAny_pure ?_
  refine wpAny_bind (wpAny_setField_rec hit (by simp) fun h' g sb => ?_)
  refine wpAny_pure ⟨_, rfl, wpAny_pure (hQ h' ?_ sb)⟩
  exact g
theorem end_drawn {it a tp : Addr} {i n ep : Nat} {es : Array (Int × Value)} {t : SetTable} {pl : Array Value} {Q : Option Value → Shared → Prop} (hh : A.handled = none)
    (hit : SIter s.heap it a (.ref tp) i n ep) (hs : SObj s.heap a es ep t) (hn : es.size = n) (htp : IsTup s.heap tp pl) (hpl : pl[i]? = none)
    (hQ : ∀ h', (∀ b o, b ≠ it → s.heap.get? b = some o → h'.get? b = some o) → Q none { s with heap := h' }) : wpAny (model prog w) A (pyNext (.ref it)) Q E s := by
  refine next_in hit hs hn ?_
  dsimp only
  obtain ⟨oT, hoT, hcT, nT, hdT⟩ := htp
  have sq : ∀ {Q' : Option (Array Value) → Shared → Prop}, Q' (some pl) s → wpAny (model prog w) A.in1 (seqItems? (.ref tp)) Q' (fun e s' => wpAny (model prog w) A (do
          let b ← isInstance e (Value.type "StopIteration")
          if b = true then pure none else throw e) Q E s') s := fun q => by
    unfold seqItems?
    refine wpAny_bind (wpAny_load hoT ?_)
    rw [hdT]
    exact wpAny_pure q
  refine wpAny_bind (sq ?_)
  dsimp only
  rw [hpl]
  dsimp only
  refine wpAny_bind (wpAny_setField_rec hit (by simp) fun h1 g1 sb1 => ?_)
  refine wpAny_bind (wpAny_setField_rec g1 (by simp) fun h2 g2 sb2 => ?_)
  refine stop_tail hh fun h' k => hQ h' fun b o nb e => k b o ?_
  show h2.get? b = some o
  rw [sb2.2 b nb, sb1.2 b nb]
  exact e
end
end SSet
namespace SSet
open PySem PySem.Spec PyProof.Rows
theorem pull {α : Type} : ∀ {l : List α} {i : Nat} (h : i < l.length), (l[i] :: l.eraseIdx i).Perm l
  | [], i, h => by simp at h
  | x :: r, 0, h => List.Perm.refl _
  | x :: r, i + 1, h => by
    have ih := pull (l := r) (i := i) (by simpa using h)
    exact (List.Perm.swap x _ _).trans (List.Perm.cons x ih)
theorem pick_go {α : Type} (nx : Nat → Nat) : ∀ (k j : Nat) (left : List α) (out : Array α), left.length = k → (pickOrder.go nx k j left out).toList.Perm (out.toList ++ left)
  | 0, j, left, out, h => by
    have e : left = [] := List.length_eq_zero_iff.mp h
    subst e
    rw [List.append_nil]
    exact List.Perm.refl _
  | k + 1, j, left, out, h => by
    have hlt : nx j % left.length < left.length := Nat.mod_lt _ (by omega)
    unfold pickOrder.go
    rw [List.getElem?_eq_getElem hlt]
    dsimp only
    refine (pick_go nx k (j + 1) _ _ (by rw [List.length_eraseIdx_of_lt hlt]; omega)).trans ?_
    rw [Array.toList_push, List.append_assoc]
    exact List.Perm.append_left _ (pull hlt)
theorem pick_perm {α : Type} (nx : Nat → Nat) (xs : Array α) : (pickOrder nx xs).toList.Perm xs.toList := by
  have q := pick_go nx xs.size 0 xs.toList #[] (by simp)
  unfold pickOrder
  simpa using q
section
variable {prog : Program} {w : World} {A : Around} {E : Value → Shared → Prop} {s : Shared}
theorem choose_any {src : Source} {n : Nat} {Q : Nat → Shared → Prop} (hn : n ≠ 0) (h : ∀ i d, i < n → Q i { s with drawn := d }) : wpAny (model prog w) A (choose src n) Q E s := fun Γ p hΓ => by
  unfold choose
  show Sem.wp _ _ (.choose src n .pure) _ _ _ _
  rw [Sem.wp_choose]
  exact ⟨hn, h _ _ (Nat.mod_lt _ (by omega))⟩
theorem draw_any {α : Type} : ∀ (n : Nat) (xs : List α) (s : Shared) (Q : List α → Shared → Prop), xs.length = n → (∀ ys d, ys.Perm xs → Q ys { s with drawn := d }) → wpAny (model prog w) A (drawOrder n xs) Q E s
  | 0, xs, s, Q, hl, h => by
    have e : xs = [] := List.length_eq_zero_iff.mp hl
    subst e
    exact wpAny_pure (h [] s.drawn (List.Perm.refl _))
  | n + 1, [], s, Q, hl, h => by cases hl
  | n + 1, x :: r, s, Q, hl, h => by
    unfold drawOrder
    refine wpAny_bind (choose_any (by simp) fun i d hi => ?_)
    rw [List.getElem?_eq_getElem hi]
    dsimp only
    refine wpAny_bind (draw_any n _ _ _ (by rw [List.length_eraseIdx_of_lt hi]; omega) fun ys d2 hp => ?_)
    exact wpAny_pure (h _ d2 ((List.Perm.cons _ hp).trans (pull hi)))
theorem iter_self {it a : Addr} {f : Value} {i n ep : Nat} {Q : Value → Shared → Prop} (hit : SIter s.heap it a f i n ep) (h : Q (.ref it) s) : wpAny (model prog w) A (pyIter (.ref it)) Q E s := by
  refine wpAny_pyIter_slot hit.typeIs sl_self (wpAny_call_entry sl_self hit.typeIs en_self ?_ (ar_self _))
  show wpAny _ _ (ret (Value.ref it)) _ _ s
  exact wpAny_pure ⟨_, rfl, "set_iterator", _, hit.typeIs, sl_next.lookup, h⟩
theorem walks_drawn (hh : A.handled = none) {it a tp : Addr} (h1 : a ≠ it) (h2 : tp ≠ it) (es : Array (Int × Value)) (ep : Nat) (t : SetTable) (js : List Nat) (hl : js.length = es.size) (hj : ∀ j ∈ js, j < es.size) :
    Walks prog w A it [it, a, tp] [it] es.size (fun i v => ∃ j e, js[i]? = some j ∧ es[j]? = some e ∧ v = e.2) (fun i h => SIter h it a (.ref tp) i es.size ep ∧ SObj h a es ep t ∧ IsTup h tp (js.map fun (j : Nat) => rawInt j).toArray) where
  sub := fun b hb => by
    have e : b = it := by simpa using hb
    rw [e]
    exact List.mem_cons_self
  frame := fun i h h' st k => ⟨k it (by simp) _ st.1, st.2.1.keep fun o e => k a (by simp) o e, let ⟨o, e, r⟩ := st.2.2; ⟨o, k tp (by simp) o e, r⟩⟩
  item := fun i s Q E hi st hQ => by
    have hi' : i < js.length := by omega
    have ej : js[i]? = some js[i] := List.getElem?_eq_getElem hi'
    have hlt : js[i] < es.size := hj _ (List.getElem_mem hi')
    have ee : es[js[i]]? = some es[js[i]] := Array.getElem?_eq_getElem hlt
    refine next_drawn (j := js[i]) (tk := 0) (e := es[js[i]]) st.1 st.2.1 rfl st.2.2 ?_ ee fun h' g sb => ?_
    · rw [List.getElem?_toArray, List.getElem?_map, ej]
      rfl
    · exact hQ _ h' s.toks ⟨_, _, ej, ee, rfl⟩ ⟨g, st.2.1.keep fun o e => (sb.2 a h1).trans e, let ⟨o, e, r⟩ := st.2.2; ⟨o, (sb.2 tp h2).trans e, r⟩⟩ fun b o hb e => (sb.2 b fun z => hb (by rw [z]; exact List.mem_cons_self)).trans e
  done := fun s Q E st hQ => by
    refine end_drawn hh st.1 st.2.1 rfl st.2.2 ?_ fun h' k => hQ h' s.toks fun b o hb e => k b o (fun z => hb (by rw [z]; exact List.mem_cons_self)) e
    rw [List.getElem?_toArray, List.getElem?_map, List.getElem?_eq_none (by omega)]
    rfl
  self := fun i s Q E st h => iter_self st.1 h
theorem walks_int (hh : A.handled = none) {it a : Addr} (h1 : a ≠ it) (es : Array (Int × Value)) (ep : Nat) (t : SetTable) (ord : List Value) (R : Nat → Nat → Prop)
    (hs : ∀ (A : Around) (E : Value → Shared → Prop) (i slot : Nat) (s : Shared) (Q : Option (Value × Nat) → Shared → Prop), i < es.size → R slot i → SObj s.heap a es ep t → (∀ x nx, ord[i]? = some x → R nx (i + 1) → Q (some (x, nx)) s) → wpAny (model prog w) A (setNext a slot i ep) Q E s)
    (he : ∀ (A : Around) (E : Value → Shared → Prop) (slot : Nat) (s : Shared) (Q : Option (Value × Nat) → Shared → Prop), R slot es.size → SObj s.heap a es ep t → Q none s → wpAny (model prog w) A (setNext a slot es.size ep) Q E s) :
    Walks prog w A it [it, a] [it] es.size (fun i v => ord[i]? = some v) (fun i h => (∃ slot : Nat, SIter h it a (rawInt slot) i es.size ep ∧ R slot i) ∧ SObj h a es ep t) where
  sub := fun b hb => by
    have e : b = it := by simpa using hb
    rw [e]
    exact List.mem_cons_self
  frame := fun i h h' ⟨⟨slot, g, r⟩, so⟩ k => ⟨⟨slot, k it (by simp) _ g, r⟩, so.keep fun o e => k a (by simp) o e⟩
  item := fun i s Q E hi st hQ => by
    obtain ⟨⟨slot, g, r⟩, so⟩ := st
    refine next_in g so rfl ?_
    show wpAny _ _ (setNext a ((slot : Int).toNat) i ep >>= _) _ _ _
    rw [Int.toNat_natCast]
    refine wpAny_bind (hs _ _ i slot s _ hi r so fun x nx hx r' => ?_)
    dsimp only
    refine wpAny_bind (wpAny_setField_rec g (by simp) fun h2 g2 sb2 => ?_)
    refine wpAny_bind (wpAny_setField_rec g2 (by simp) fun h3 g3 sb3 => ?_)
    have sb : ∀ b, b ≠ it → h3.get? b = s.heap.get? b := fun b nb => (sb3.2 b nb).trans (sb2.2 b nb)
    refine wpAny_pure ⟨_, rfl, wpAny_pure (hQ _ h3 s.toks hx ⟨⟨nx, g3, r'⟩, so.keep fun o e => (sb a h1).trans e⟩ fun b o hb e => (sb b fun z => hb (by rw [z]; exact List.mem_cons_self)).trans e)⟩
  done := fun s Q E st hQ => by
    obtain ⟨⟨slot, g, r⟩, so⟩ := st
    refine next_in g so rfl ?_
    show wpAny _ _ (setNext a ((slot : Int).toNat) es.size ep >>= _) _ _ _
    rw [Int.toNat_natCast]
    refine wpAny_bind (he _ _ slot s _ r so ?_)
    dsimp only
    refine wpAny_bind (wpAny_setField_rec g (by simp) fun h2 g2 sb2 => ?_)
    refine stop_tail hh fun h' k => hQ h' s.toks fun b o hb e => k b o ?_
    exact (sb2.2 b fun z => hb (by rw [z]; exact List.mem_cons_self)).trans e
  self := fun i s Q E ⟨⟨slot, g, _⟩, _⟩ h => iter_self g h
end
end SSet
namespace SSet
open PySem PySem.Spec PyProof.Rows
theorem same_list {α : Type} {vs ord : List α} (hl : vs.length = ord.length) (h : ∀ (i : Nat) v, vs[i]? = some v → ord[i]? = some v) : vs = ord := by
  refine List.ext_getElem? fun i => ?_
  by_cases hi : i < vs.length
  · rw [List.getElem?_eq_getElem hi]
    exact (h i _ (List.getElem?_eq_getElem hi)).symm
  · rw [List.getElem?_eq_none (by omega), List.getElem?_eq_none (by omega)]
section
variable {prog : Program} {w : World} {A : Around} {E : Value → Shared → Prop} {s : Shared}
theorem fin_perm {es : List (Int × Value)} {D : List Str} {vs : List Value} (hel : ElemsOf (PySem.strKind prog w) es) (hp : (es.map fun e => strOf e.2).Perm D) (hv : vs.Perm (es.map (·.2))) : ∃ ys, StrsAre vs ys ∧ ys.Perm D := by
  refine ⟨vs.map strOf, strsAre_map vs fun v hm => ?_, ?_⟩
  · obtain ⟨e, he, rfl⟩ := List.mem_map.mp (hv.mem_iff.mp hm)
    obtain ⟨x, t, e1, _⟩ := el_str hel he
    exact ⟨x, t, e1⟩
  · refine (hv.map strOf).trans ?_
    rw [List.map_map]
    exact hp
theorem drawn_perm {es : Array (Int × Value)} {js : List Nat} (hj : js.Perm (List.range es.size)) {vs : List Value} (hl : vs.length = es.size) (h : ∀ (i : Nat) v, vs[i]? = some v → ∃ j e, js[i]? = some j ∧ es[j]? = some e ∧ v = e.2) : vs.Perm (es.toList.map (·.2)) := by
  have ev : vs = js.map fun j => (es.toList.getD j (0, .none)).2 := by
    refine same_list (by rw [List.length_map, hj.length_eq, List.length_range, hl]) fun i v hv => ?_
    obtain ⟨j, e, h1, h2, rfl⟩ := h i v hv
    rw [List.getElem?_map, h1]
    show some (es.toList.getD j (0, .none)).2 = some e.2
    rw [List.getD_eq_getElem?_getD, Array.getElem?_toList, h2]
    rfl
  rw [ev]
  refine (hj.map _).trans (List.Perm.of_eq ?_)
  refine same_list (by simp) fun i v hv => ?_
  rw [List.getElem?_map] at hv
  by_cases hi : i < es.size
  · rw [List.getElem?_range hi] at hv
    have hv' : (es.toList.getD i (0, .none)).2 = v := Option.some.inj hv
    rw [List.getElem?_map, ← hv', List.getD_eq_getElem?_getD, List.getElem?_eq_getElem (by simpa using hi)]
    rfl
  · rw [List.getElem?_eq_none (by simp; omega)] at hv
    cases hv
theorem iter_set {a : Addr} {D : List Str} {Q : Value → Shared → Prop} (hh : A.handled = none) (hS : SS prog w s.heap a D (!w.params.followText "set-order"))
    (h : ∀ (h' : Heap) (d' : Drawn) (I : Addr) (n : Nat) (fp : List Addr) (P : Nat → Value → Prop) (St : Nat → Heap → Prop), (∀ b o, s.heap.get? b = some o → h'.get? b = some o) → s.heap.objs.size ≤ I → (∀ b ∈ fp, b = a ∨ s.heap.objs.size ≤ b) →
      Walks prog w A I fp [I] n P St → St 0 h' → n = D.length → (∀ vs : List Value, vs.length = n → (∀ (i : Nat) v, vs[i]? = some v → P i v) → ∃ ys, StrsAre vs ys ∧ ys.Perm D) → Q (.ref I) { s with heap := h', drawn := d' }) :
    wpAny (model prog w) A (pyIter (.ref a)) Q E s := by
  obtain ⟨o, es, ep, t, ho, hex, hd, hel, hp, hb, hf, hl, hpl⟩ := hS
  have hT : s.TypeIs (.ref a) "set" := ⟨o, ho, hex.1⟩
  have so : SObj s.heap a es ep t := ⟨o, ho, hex.1, hd, hf⟩
  have hz : es.size = D.length := by rw [← hp.length_eq, List.length_map, Array.length_toList]
  have alt : a < s.heap.objs.size := Heap.lt_size ho
  refine wpAny_pyIter_slot hT PySem.F.slot_set_iter (wpAny_call_entry PySem.F.slot_set_iter hT en_iter ?_ (PySem.F.args_set_iter_1 _))
  unfold Builtin.«frozenset.__iter__»
  refine wpAny_bind (m := Builtin.Frozenset.slot0 "__iter__" _) (wpAny_pure ?_)
  refine wpAny_bind (m := Builtin.Frozenset.sizeOf a) (wpAny_bind (wpAny_setEntries_of ho hd hf (wpAny_pure ?_)))
  refine wpAny_bind (m := setDrawn a) (wpAny_bind (wpAny_setState_of ho hd hf (wpAny_bind (m := setsByText) (wpAny_bind (wpAny_askSetting (wpAny_pure (wpAny_pure ?_)))))))
  dsimp only
  have jp : ∀ {first : Value} {h1 : Heap} {d1 : Drawn}, SObj h1 a es ep t → Q (.ref h1.objs.size) { s with heap := h1.push { cls := .type "set_iterator", dict := none, data := .fields #[first, rawInt (0 : Nat), .ref a, rawInt es.size, rawInt ep], slots := #[] }, drawn := d1 } →
      wpAny (model prog w) A.in1 (do
        let e ← setEpoch a
        let v ← newFields "set_iterator" [first, rawInt 0, Value.ref a, rawInt es.size, rawInt e]
        ret v) (fun fin s' => ∃ v, fin = Fin.done (Flow.ret v) ∧ ∃ T' r, s'.TypeIs v T' ∧ typeLookup (Value.type T') (Str.ofString "__next__") = pure (some r) ∧ Q v s') E { s with heap := h1, drawn := d1 } := by
    intro first h1 d1 ⟨o1, e1, e2, e3, e4⟩ q
    refine wpAny_bind (m := setEpoch a) (wpAny_bind (wpAny_setState_of e1 e3 e4 (wpAny_pure ?_)))
    refine wpAny_bind (m := newFields _ _) (wpAny_newObj_type (wpAny_pure ⟨_, rfl, "set_iterator", _, ⟨_, Heap.get?_push_size _ rfl, rfl⟩, sl_next.lookup, ?_⟩))
    exact q
  split
  · rename_i hc
    have hc' : (!w.params.followText "set-order" && (!t.plain && decide (es.size > 1))) = true := hc
    refine wpAny_bind (draw_any es.size (List.range es.size) s _ (by simp) fun js d1 pj => ?_)
    refine wpAny_bind (wpAny_newTuple ?_ (by rw [List.length_map, pj.length_eq, List.length_range]; exact fits_of_scanBound hb))
    have jl : js.length = es.size := by rw [pj.length_eq, List.length_range]
    have jm : ∀ j ∈ js, j < es.size := fun j hj => List.mem_range.mp (pj.mem_iff.mp hj)
    refine jp (so.keep fun o e => Heap.get?_push_of_some _ e) ?_
    have sz : (s.heap.push { cls := .type "tuple", data := .seq (js.map fun (j : Nat) => rawInt j).toArray }).objs.size = s.heap.objs.size + 1 := Heap.size_push _ _
    refine h _ d1 _ es.size _ _ _ (fun b o e => Heap.get?_push_of_some _ (Heap.get?_push_of_some _ e)) (by rw [sz]; exact Nat.le_succ _) ?_ (walks_drawn (a := a) (tp := s.heap.objs.size) hh ?_ ?_ es ep t js jl jm) ⟨?_, ?_, ?_⟩ hz fun vs hv hP => fin_perm hel hp (drawn_perm pj hv hP)
    · intro b hb'
      rw [sz] at hb'
      rcases List.mem_cons.mp hb' with z | z
      · exact .inr (by rw [z]; exact Nat.le_succ _)
      · rcases List.mem_cons.mp z with z | z
        · exact .inl z
        · exact .inr (by rw [List.mem_singleton.mp z]; exact Nat.le_refl _)
    · rw [sz]
      exact Nat.ne_of_lt (Nat.lt_succ_of_lt alt)
    · rw [sz]
      exact Nat.ne_of_lt (Nat.lt_succ_self _)
    · exact Heap.get?_push_size _ rfl
    · exact so.keep fun o e => Heap.get?_push_of_some _ (Heap.get?_push_of_some _ e)
    · exact ⟨_, Heap.get?_push_of_some _ (Heap.get?_push_size _ rfl), rfl, _, rfl⟩
  · rename_i hc
    have hc' : ¬ (!w.params.followText "set-order" && (!t.plain && decide (es.size > 1))) = true := hc
    refine wpAny_bind (wpAny_pure (jp (h1 := s.heap) (d1 := s.drawn) so ?_))
    have fpk : ∀ b ∈ [s.heap.objs.size, a], b = a ∨ s.heap.objs.size ≤ b := fun b hb' => by
      rcases List.mem_cons.mp hb' with z | z
      · exact .inr (by rw [z]; exact Nat.le_refl _)
      · exact .inl (List.mem_singleton.mp z)
    have ne : a ≠ s.heap.objs.size := Nat.ne_of_lt alt
    cases ft : w.params.followText "set-order" with
    | true =>
      have bt : ∀ {A' : Around} {E' : Value → Shared → Prop} {s' : Shared} {Q' : Bool → Shared → Prop}, Q' true s' → wpAny (model prog w) A' setsByText Q' E' s' := fun {A' E' s' Q'} q => by
        unfold setsByText
        refine wpAny_bind (wpAny_askSetting (wpAny_pure ?_))
        show Q' (w.params.followText "set-order") s'
        rw [ft]
        exact q
      have stp : ∀ (A : Around) (E : Value → Shared → Prop) (i slot : Nat) (s : Shared) (Q : Option (Value × Nat) → Shared → Prop), SObj s.heap a es ep t → Q (((pickOrder (w.params.setOrder a ep) es)[i]?).map fun e => (e.2, slot)) s → wpAny (model prog w) A (setNext a slot i ep) Q E s := by
        intro A E i slot s Q ⟨o1, e1, e2, e3, e4⟩ q
        unfold setNext
        refine wpAny_bind (wpAny_setState_of e1 e3 e4 ?_)
        dsimp only
        refine wpAny_bind (bt ?_)
        rw [if_pos rfl, if_neg (by simp)]
        unfold setWalk
        refine wpAny_bind (wpAny_bind (wpAny_setState_of e1 e3 e4 (wpAny_bind (bt ?_))))
        rw [if_pos rfl]
        exact wpAny_bind (wpAny_askSetting (wpAny_pure (wpAny_pure q)))
      have po := pick_perm (w.params.setOrder a ep) es
      have pz : (pickOrder (w.params.setOrder a ep) es).size = es.size := by rw [← Array.length_toList, po.length_eq, Array.length_toList]
      refine h _ s.drawn _ es.size _ _ _ (fun b o e => Heap.get?_push_of_some _ e) (Nat.le_refl _) fpk (walks_int (a := a) hh ne es ep t ((pickOrder (w.params.setOrder a ep) es).toList.map (·.2)) (fun slot _ => slot = 0) ?_ ?_) ⟨⟨0, Heap.get?_push_size _ rfl, rfl⟩, so.keep fun o e => Heap.get?_push_of_some _ e⟩ hz fun vs hv hP => ?_
      · intro A E i slot s Q hi r so' q
        have e1 : (pickOrder (w.params.setOrder a ep) es)[i]? = some (pickOrder (w.params.setOrder a ep) es)[i] := Array.getElem?_eq_getElem (by omega)
        refine stp A E i slot s Q so' ?_
        rw [e1]
        exact q _ _ (by rw [List.getElem?_map, Array.getElem?_toList, e1]; rfl) r
      · intro A E slot s Q r so' q
        refine stp A E _ slot s Q so' ?_
        rw [Array.getElem?_eq_none (by omega)]
        exact q
      · refine fin_perm hel hp ?_
        have e1 : vs = (pickOrder (w.params.setOrder a ep) es).toList.map (·.2) := same_list (by rw [hv, List.length_map, Array.length_toList, pz]) hP
        rw [e1]
        exact po.map _
    | false =>
      rw [ft] at hc' hl
      have sm : es.size ≤ 1 := by
        rcases hpl with z | z
        · omega
        · rw [z] at hc'
          simp at hc'
          exact hc'
      have bt : ∀ {A' : Around} {E' : Value → Shared → Prop} {s' : Shared} {Q' : Bool → Shared → Prop}, Q' false s' → wpAny (model prog w) A' setsByText Q' E' s' := fun {A' E' s' Q'} q => by
        unfold setsByText
        refine wpAny_bind (wpAny_askSetting (wpAny_pure ?_))
        show Q' (w.params.followText "set-order") s'
        rw [ft]
        exact q
      have stp : ∀ (A : Around) (E : Value → Shared → Prop) (i slot : Nat) (s : Shared) (Q : Option (Value × Nat) → Shared → Prop), SObj s.heap a es ep t → Q (match es[SetTable.below t.place slot]?, t.place[SetTable.below t.place slot]? with | some (_, x), some j => some (x, j + 1) | _, _ => none) s → wpAny (model prog w) A (setNext a slot i ep) Q E s := by
        intro A E i slot s Q ⟨o1, e1, e2, e3, e4⟩ q
        unfold setNext
        refine wpAny_bind (wpAny_setState_of e1 e3 e4 ?_)
        dsimp only
        refine wpAny_bind (bt ?_)
        rw [if_neg (by simp)]
        have nd : ¬ (!t.plain && decide (es.size > 1)) = true := by
          rw [decide_eq_false (by omega), Bool.and_false]
          exact Bool.false_ne_true
        refine wpAny_ite_split (fun z => absurd z nd) (fun _ => ?_)
        have nl : ¬ (!t.led && !es.isEmpty) = true := by
          rw [hl]
          simp
        refine wpAny_bind (wpAny_ite_split (fun z => absurd z nl) (fun _ => wpAny_pure ?_))
        exact wpAny_pure q
      have ps : t.place.size = es.size := by
        have z := hf
        unfold SetTable.fits at z
        simp at z
        exact z.1
      refine h _ s.drawn _ es.size _ _ _ (fun b o e => Heap.get?_push_of_some _ e) (Nat.le_refl _) fpk (walks_int (a := a) hh ne es ep t (es.toList.map (·.2)) (fun slot i => (i = 0 ∧ slot = 0) ∨ (i = 1 ∧ ∃ j, t.place = #[j] ∧ slot = j + 1)) ?_ ?_) ⟨⟨0, Heap.get?_push_size _ rfl, .inl ⟨rfl, rfl⟩⟩, so.keep fun o e => Heap.get?_push_of_some _ e⟩ hz fun vs hv hP => ?_
      · intro A E i slot s Q hi r so' q
        have i0 : i = 0 := by omega
        subst i0
        have s0 : slot = 0 := by
          rcases r with ⟨_, z⟩ | ⟨z, _⟩
          · exact z
          · cases z
        subst s0
        obtain ⟨j, ej⟩ : ∃ j, t.place = #[j] := by
          rcases Array.size_eq_one_iff.mp (show t.place.size = 1 by omega) with ⟨j, z⟩
          exact ⟨j, z⟩
        have e1 : es[0]? = some es[0] := Array.getElem?_eq_getElem hi
        refine stp A E 0 0 s Q so' ?_
        have bl : SetTable.below t.place 0 = 0 := by
          rw [ej]
          simp [SetTable.below, SetTable.below.go]
        rw [bl, e1, ej]
        exact q _ _ (by rw [List.getElem?_map, Array.getElem?_toList, e1]; rfl) (.inr ⟨rfl, j, ej, rfl⟩)
      · intro A E slot s Q r so' q
        refine stp A E _ slot s Q so' ?_
        have en : es[SetTable.below t.place slot]? = none := by
          rcases r with ⟨z, y⟩ | ⟨z, j, ej, y⟩
          · exact Array.getElem?_eq_none (by omega)
          · have bl : SetTable.below t.place slot = 1 := by
              rw [ej, y]
              simp [SetTable.below, SetTable.below.go]
            rw [bl]
            exact Array.getElem?_eq_none (by omega)
        rw [en]
        exact q
      · refine fin_perm hel hp ?_
        have e1 : vs = es.toList.map (·.2) := same_list (by rw [hv, List.length_map, Array.length_toList]) hP
        rw [e1]
end
end SSet
namespace SSet
open PySem PySem.Spec PyProof.Rows PySem.W
section
variable {prog : Program} {w : World} {A : Around} {E : Value → Shared → Prop} {s : Shared}
theorem hint_set {r : Addr} {Q : Bool → Shared → Prop} (ty : s.TypeIs (.ref r) "set") (q : Q false s) : wpAny (model prog w) A (Builtin.List.listLengthHint (.ref r)) Q E s := by
  unfold Builtin.List.listLengthHint
  refine wpAny_bind (wpAny_specialOf ty PySem.F.slot_set_len.lookup ?_)
  generalize hx : ("set.__len__" : String) = nm
  wp_delta
  rw [show splitId nm = some ("set", "__len__") from by subst hx; decide +kernel]
  subst hx
  refine wpAny_bind (wpAny_isInstance (b := true) (T := "set") ty (by rw [isSubtype_type]; kernel_rfl) ?_)
  refine wpAny_ite_split (fun z => absurd z (by decide)) (fun _ => ?_)
  refine wpAny_ite_split (fun _ => ?_) (fun z => absurd (by decide +kernel) z)
  exact wpAny_bind (wpAny_typeOf ty (wpAny_pure q))
theorem collect_set {a : Addr} {D : List Str} {R : List Value → Shared → Prop} (hh : A.handled = none) (hS : SS prog w s.heap a D (!w.params.followText "set-order"))
    (h : ∀ (h' : Heap) (d' : Drawn) (tk : Nat) (vs : List Value) (ys : List Str), (∀ b o, s.heap.get? b = some o → h'.get? b = some o) → s.heap.objs.size < h'.objs.size → StrsAre vs ys → ys.Perm D → R vs { s with heap := h', drawn := d', toks := tk }) :
    wpAny (model prog w) A (collect (.ref a)) R E s := by
  obtain ⟨oA, hoA⟩ : ∃ o, s.heap.get? a = some o := let ⟨o, _, _, _, e, _⟩ := hS; ⟨o, e⟩
  have alt : a < s.heap.objs.size := Heap.lt_size hoA
  have dz : D.length ≤ sizeLine := by
    obtain ⟨o, es, ep, t, _, _, _, _, hp, hb, _⟩ := hS
    rw [← hp.length_eq, List.length_map, Array.length_toList]
    exact fits_of_scanBound hb
  have nSa : s.heap.objs.size ≠ a := Nat.ne_of_gt alt
  unfold collect
  refine wpAny_bind (wpAny_runValue (codeAny_builtin entry_proto_collect' ?_))
  rw [Around.under_plainId PySem.F.plain_proto_collect _]
  show wpAny _ A.in1 (newList [] >>= fun l => again (.builtin "list.__iadd__" ⟨[l, .ref a], []⟩)) _ _ s
  refine wpAny_bind (wpAny_newObj_type (wpAny_pure ⟨plainId_quiet PySem.F.plain_list_iadd _, codeAny_builtin entry_list_iadd' ?_⟩))
  rw [Around.under_plainId PySem.F.plain_list_iadd _]
  show wpAny _ A.in1 (Builtin.List.listExtendWith (.ref s.heap.objs.size) (.ref a) (.ref s.heap.objs.size)) _ _ _
  unfold Builtin.List.listExtendWith
  have S1 : SS prog w (s.heap.push { cls := .type "list", data := .seq ([] : List Value).toArray }) a D (!w.params.followText "set-order") := hS.keep fun o e => Heap.get?_push_of_some _ e
  have g1 : (s.heap.push { cls := .type "list", data := .seq ([] : List Value).toArray }).get? s.heap.objs.size = some { cls := .type "list", dict := none, data := .seq #[] 0, slots := #[] } := Heap.get?_push_size _ rfl
  have k1 : ∀ b o, s.heap.get? b = some o → (s.heap.push { cls := .type "list", data := .seq ([] : List Value).toArray }).get? b = some o := fun b o e => Heap.get?_push_of_some _ e
  generalize s.heap.push { cls := .type "list", data := .seq ([] : List Value).toArray } = h1 at S1 g1 k1 ⊢
  have ty1 : Shared.TypeIs { s with heap := h1 } (.ref a) "set" := by
    obtain ⟨o, es, ep, t, ho, hex, _⟩ := S1
    exact ⟨o, ho, hex.1⟩
  refine wpAny_bind (wpAny_typeOf (T := "set") ty1 ?_)
  have ns : Builtin.List.listSameRef (.ref s.heap.objs.size) (.ref a) = false := by simp [Builtin.List.listSameRef, nSa]
  simp only [ns, show (Value.type "set" == Value.type "list") = false by decide, show (Value.type "set" == Value.type "tuple") = false by decide, Bool.or_false, Bool.false_eq_true, if_false]
  refine wpAny_bind (iter_set (s := { s with heap := h1 }) (A := A.in1) hh S1 fun h2 d2 I n fp P St k2 hI hfp W st hn hv => ?_)
  have ty2 : Shared.TypeIs { s with heap := h2, drawn := d2 } (.ref a) "set" := by
    obtain ⟨o, e, c⟩ := ty1
    exact ⟨o, k2 _ _ e, c⟩
  have slt : s.heap.objs.size < h1.objs.size := Heap.lt_size g1
  have nf : s.heap.objs.size ∉ fp := fun z => by
    rcases hfp _ z with z | z
    · exact nSa z
    · exact absurd (Nat.lt_of_lt_of_le slt z) (Nat.lt_irrefl _)
  have key : ∀ (R' : Result → Shared → Prop) (h3 : Heap) (c : Nat), St 0 h3 → (∀ b o, b ≠ s.heap.objs.size → h2.get? b = some o → h3.get? b = some o) → h3.get? s.heap.objs.size = some { cls := .type "list", dict := none, data := .seq #[] c, slots := #[] } →
      (∀ (h4 : Heap) (tk : Nat) (vs : List Value) (ys : List Str) (c' : Nat), (∀ b o, s.heap.get? b = some o → h4.get? b = some o) → StrsAre vs ys → ys.Perm D → h4.get? s.heap.objs.size = some { cls := .type "list", dict := none, data := .seq vs.toArray c', slots := #[] } → R' (.ok (.ret (.ref s.heap.objs.size))) { s with heap := h4, drawn := d2, toks := tk }) →
      codeAny (model prog w) A (.builtin "list.extend.loop" ⟨[.ref s.heap.objs.size, .ref I, .ref s.heap.objs.size], []⟩) R' { s with heap := h3, drawn := d2 } := by
    intro R' h3 c st3 k3 g3 hR
    refine codeAny_extend_loopS W.toS (by omega) s.heap.objs.size nf _ n 0 _ #[] c rfl (Nat.zero_le _) st3 g3 (ItemsOf.nil _) fun s' acc c' mv g' ia => ?_
    rw [Moved.eq_with mv]
    obtain ⟨ys, sy, py⟩ := hv acc.toList (by rw [Array.length_toList]; exact ia.1) fun i v e => ia.2 i v (by rw [← Array.getElem?_toList]; exact e)
    refine hR s'.heap s'.toks acc.toList ys c' (fun b o e => ?_) sy py (by rw [Array.toArray_toList]; exact g')
    have nb : b ≠ s.heap.objs.size := Nat.ne_of_lt (Heap.lt_size e)
    refine mv.heap b o (fun z => ?_) (k3 b o nb (k2 b o (k1 b o e)))
    rcases List.mem_cons.mp z with z | z
    · exact nb z
    · have bi : b = I := List.mem_singleton.mp z
      have := Heap.lt_size (k1 b o e)
      rw [bi] at this
      exact absurd (Nat.lt_of_lt_of_le this hI) (Nat.lt_irrefl _)
  have g2 := k2 _ _ g1
  have fin : ∀ (h4 : Heap) (tk : Nat) (vs : List Value) (ys : List Str) (c' : Nat), (∀ b o, s.heap.get? b = some o → h4.get? b = some o) → StrsAre vs ys → ys.Perm D → h4.get? s.heap.objs.size = some { cls := .type "list", dict := none, data := .seq vs.toArray c', slots := #[] } →
      wpAny (model prog w) A (load s.heap.objs.size >>= fun o => match o.data with
        | .seq xs _ => pure xs.toList
        | _ => unsupported "internal:collect") R E { s with heap := h4, drawn := d2, toks := tk } := fun h4 tk vs ys c' k4 sy py g4 => by
    refine wpAny_bind (wpAny_load g4 ?_)
    show wpAny _ _ (pure vs.toArray.toList) _ _ _
    exact wpAny_pure (h h4 d2 tk vs ys k4 (Heap.lt_size g4) sy py)
  refine wpAny_bind (wpAny_holding (hint_set ty2 ?_))
  refine wpAny_ite_split (fun _ => ?_) (fun _ => wpAny_pure ⟨plainId_quiet PySem.F.plain_extend_loop _, key _ h2 0 st (fun b o _ e => e) g2 fin⟩)
  refine wpAny_bind (wpAny_rule (wpAny_bind ?_))
  show wpAny _ _ (updateSeq s.heap.objs.size (·.push .none) >>= fun _ => updateSeq s.heap.objs.size (·.pop)) _ _ _
  refine wpAny_bind (wpAny_updateSeq g2 rfl ?_)
  have g3 := Heap.get?_update_self (Obj.mapSeq (·.push Value.none)) g2 rfl
  refine wpAny_updateSeq (hz := by seq_fits) g3 rfl ?_
  have g4 := Heap.get?_update_self (Obj.mapSeq (·.pop)) g3 rfl
  refine wpAny_pure ⟨plainId_quiet PySem.F.plain_extend_loop _, key _ _ _ ?_ (fun b o nb e => ?_) g4 fin⟩
  · refine W.frame 0 _ _ st fun b hb o e => ?_
    have nb : s.heap.objs.size ≠ b := fun z => nf (z ▸ hb)
    exact (Heap.get?_update_other _ _ nb).trans ((Heap.get?_update_other _ _ nb).trans e)
  · exact (Heap.get?_update_other _ _ (Ne.symm nb)).trans ((Heap.get?_update_other _ _ (Ne.symm nb)).trans e)
theorem sorted_set {a : Addr} {D : List Str} {Q : Value → Shared → Prop} (hh : A.handled = none) (hS : SS prog w s.heap a D (!w.params.followText "set-order")) (h64 : D.length < 64)
    (h : ∀ (h' : Heap) (d' : Drawn) (tk : Nat) (p : Addr) (vs : List Value) (ys : List Str) (n : Nat), (∀ b o, s.heap.get? b = some o → h'.get? b = some o) → s.heap.objs.size ≤ p → h'.get? p = some { cls := .type "list", data := .seq vs.toArray n } → StrsAre vs ys → ys.Perm D → sortedS ys = true →
      Q (.ref p) { s with heap := h', drawn := d', toks := tk }) : wpAny (model prog w) A (call (.builtin "sorted") [.ref a]) Q E s := by
  refine Calls.call_function_entry kind_sorted plain_sorted entry_sorted (args_sorted1 _) ?_
  unfold Builtin.«sorted»
  refine wpAny_bind (m := checkCount "sorted" 1 1 _) (wpAny_pure (wpAny_bind (collect_set (A := A.in1) hh hS fun h1 d1 tk vs ys k1 lt1 sy py => ?_)))
  have vl : vs.length < 64 := by rw [sy.length, py.length_eq]; exact h64
  refine wpAny_bind (wpAny_newList ?_ (Nat.le_trans (Nat.le_of_lt vl) (by decide)))
  have g1 : (h1.push (seqObj "list" vs.toArray 0)).get? h1.objs.size = some (seqObj "list" vs.toArray 0) := Heap.get?_push_size _ rfl
  refine wpAny_bind (wpAny_holding (wpAny_call_entry slot_list_sort ⟨_, g1, rfl⟩ entry_list_sort (list_sort_treeK strKind_oneLt g1 sy.keysOf (fun v1 v2 rest e => keyKind_strs (by rw [← e]; exact sy)) vl fun st' a1 a2 => ⟨_, rfl, ?_⟩) (args_list_sort _)))
  obtain ⟨zs, z1, z2, z3⟩ := sorted_out_str sy a1 a2
  obtain ⟨e, he⟩ := sortedHeap_at (vs := vs) (out := (arrOf st').map (·.2)) g1
  refine wpAny_pure ⟨_, rfl, h _ d1 tk h1.objs.size ((arrOf st').map (·.2)).toList zs e (fun b o q => ?_) (Nat.le_of_lt lt1) ?_ z1 (z2.trans py) z3⟩
  · have q1 := k1 b o q
    have bl := Heap.lt_size q1
    rw [sortedHeap_old (Nat.ne_of_lt bl) (by rw [size_push']; exact Nat.lt_succ_of_lt bl)]
    exact Heap.get?_push_of_some _ q1
  · rw [Array.toArray_toList]
    exact he
end
end SSet
namespace L2
open PySem PySem.Spec PyProof.Rows
theorem strs_vals' : ∀ {vs : List Value} {ys : List Str}, StrsAre vs ys → Vals (ys.map V.str) vs
  | _, _, .nil => .nil
  | _, _, .cons x t r => .cons ⟨t, rfl⟩ (strs_vals' r)
def setO (X : Cx) (l : Addr) (D : List Str) : HO := .ext fun h => SSet.SS X.prog X.w h l D (!X.w.params.followText "set-order")
section
variable {X : Cx}
theorem Inv.redrawn {pins : List (Addr × Obj)} {σ : St} {H : Hp} {s : Shared} (I : Inv X pins σ H s) (d : Drawn) : Inv X pins σ H { s with drawn := d } :=
  I.call (h' := s.heap) (g' := s.gens) (d' := d) (t' := s.toks) (ch := []) (Un.kept fun b o e => e) I.hok I.bare (fun b z => absurd z (by simp))
theorem call_set_strs (hc : X.calm = true) : CallR X (.type "set") (fun xs H Q => ∃ p ys, xs = [.ref p] ∧ SqL X.K H p (ys.map V.str) ∧ ys.length ≤ 1000 ∧ ∀ l, H l = none → Q (.ref l) (upd H l (setO X l (SSet.dd ys)))) := by
  intro pins s σ H xs us Q I r h
  obtain ⟨p, ys, rfl, hq, hy, q⟩ := h
  obtain ⟨u, rfl, ru⟩ := vals1 r
  cases ru
  obtain ⟨its, rv, pl, hz⟩ := I.list hq
  have sy := vals_strs rv
  have il : its.length = ys.length := sy.length
  refine SSet.set_list (xs := ys) (I.ok.hd hc) pl.isList (by simpa using sy) (by rw [List.size_toArray, il]; have : scanBound = 4096 := rfl; omega) fun h' tk S k => ?_
  have I1 : Inv X pins σ (upd H s.heap.objs.size (setO X s.heap.objs.size (SSet.dd ys))) { s with heap := h', toks := tk } := I.laid (t' := tk) (fun b o e => k b o e) (Nat.le_refl _) ⟨S, let ⟨o, _, _, _, e, _⟩ := S; ⟨o, e⟩, fun h1 h2 x y => x.keep y⟩
  exact ⟨.ref s.heap.objs.size, _, I1, rfl, q _ (I.hok.fresh (Nat.le_refl _))⟩
theorem call_sorted_set (hc : X.calm = true) : CallR X (.builtin "sorted") (fun xs H Q => ∃ l D, xs = [.ref l] ∧ H l = some (setO X l D) ∧ D.length < 64 ∧ ∀ p ys, H p = none → ys.Perm D → sortedS ys = true → Q (.ref p) (upd H p (.lst (ys.map V.str)))) := by
  intro pins s σ H xs us Q I r h
  obtain ⟨l, D, rfl, hl, h64, q⟩ := h
  obtain ⟨u, rfl, ru⟩ := vals1 r
  cases ru
  obtain ⟨S, _, _⟩ := I.hok l _ hl
  refine SSet.sorted_set (I.ok.hd hc) S h64 fun h' d' tk p vs ys n k hp g sy py so => ?_
  have I0 := I.redrawn d'
  have vl : vs.length ≤ sizeLine := by
    rw [sy.length, py.length_eq]
    exact Nat.le_trans (Nat.le_of_lt h64) (by decide)
  have I1 : Inv X pins σ (upd H p (.lst (ys.map V.str))) { s with heap := h', drawn := d', toks := tk } := I0.laid (t' := tk) (fun b o e => k b o e) hp ⟨by rw [List.length_map, ← sy.length]; exact vl, vs, n, strs_vals' sy, g⟩
  exact ⟨.ref p, _, I1, rfl, q p ys (I.hok.fresh hp) py so⟩
end
end L2
namespace L2
open PySem PySem.Spec PyProof.Rows
theorem flat_str {x : Str} : ∀ {v : Value}, KTD.flatLooks (.str x) v = true → RelV (.str x) v
  | .str y t, h => ⟨t, by rw [show x = y from beq_iff_eq.mp h]⟩
theorem flats_vals : ∀ {ss : List Str} {vs : List Value}, KTD.flatsLook (ss.map PyData.str) vs = true → Vals (ss.map V.str) vs
  | [], [], _ => .nil
  | x :: ss, v :: vs, h => by
    rw [List.map_cons] at h
    have h' : (KTD.flatLooks (.str x) v && KTD.flatsLook (ss.map PyData.str) vs) = true := h
    rw [Bool.and_eq_true] at h'
    exact .cons (flat_str h'.1) (flats_vals h'.2)
def TupK (K : PySem.W.Frag) (a : Addr) (ss : List Str) : Prop := KTD.datLooks (fun b => K.lookup b) (.tup (ss.map PyData.str)) (.ref a) = true
theorem TupK.sq {K : PySem.W.Frag} {a : Addr} {ss : List Str} (h : TupK K a ss) (hz : ss.length ≤ 1000) (H : Hp) : SqT K H a (ss.map V.str) := by
  unfold TupK KTD.datLooks at h
  simp only at h
  split at h
  · rename_i o ho
    rw [Bool.and_eq_true] at h
    obtain ⟨e1, e2⟩ := h
    split at e2
    · rename_i vs n hd
      have V := flats_vals e2
      have hl := V.length
      refine .inr ⟨o, vs, n, ho, beq_iff_eq.mp e1, hd, ?_, V⟩
      rw [List.length_map] at hl
      have : vs.size = ss.length := by simpa using hl.symm
      rw [this]
      exact Nat.le_trans hz (by decide)
    · cases e2
  · cases h
theorem look_ref {K : PySem.W.Frag} {ss : List Str} : ∀ {v : Value}, KTD.datLooks (fun b => K.lookup b) (.tup (ss.map PyData.str)) v = true → ∃ b, v = .ref b ∧ TupK K b ss
  | .ref b, h => ⟨b, rfl, h⟩
section
variable {X : Cx} {a : Addr} {D : List (Str × KTD.Dat)}
abbrev TabK (K : PySem.W.Frag) (a : Addr) (D : List (Str × KTD.Dat)) : Prop := KTD.tabLook (KTD.datLooks fun b => K.lookup b) (fun b => K.lookup b) a D = true
theorem ix_tabT {K : PySem.W.Frag} (hK : X.K = K) (l : TabK K a D) : IxR X (fun x y H Q => ∃ k ss, x = .ref a ∧ y = .str k ∧ KTD.datumAt k D = some (.tup (ss.map PyData.str)) ∧ ∀ b, TupK K b ss → Q (.ref b) H) := by
  subst hK
  intro value slice pins s σ H x y v u Q I rx ry h hs
  obtain ⟨k, ss, rfl, rfl, hat, q⟩ := h
  cases rx
  obtain ⟨tk, rfl⟩ := ry
  obtain ⟨_, o, es, ep, ho, hc, hd, hr⟩ := KTD.tab_of_look (R := fun d v => KTD.datLooks (fun b => X.K.lookup b) d v = true) (fun _ _ z => z) (h := s.heap) (fun b o z => I.kIn b o z) l
  obtain ⟨z, hz, hl⟩ := hr.find_some hat
  obtain ⟨b, rfl, hb⟩ := look_ref hl
  have ty : s.TypeIs (.ref a) "dict" := ⟨o, ho, hc.1⟩
  refine subscriptTail_builtinR (x := .ref b) ty slot_dict_getitem.lookup ?_ hs
  unfold getItem
  try with_reducible refine wpAny_holding ?_
  refine wpAny_bind (wpAny_sequenceKey ty (by decide) ?_)
  refine wpAny_bind (wpAny_callSpecial?_slot (name := Str.ofString "__getitem__") ty slot_dict_getitem
    (wpAny_call_entry slot_dict_getitem ty entry_dict_getitem ?_ (args_dict_getitem _ _)))
  have fin : ∀ k', EP X pins σ Q (.ref b) { s with toks := k' } := fun k' => ⟨.ref b, H, I.tok _, rfl, q b hb⟩
  have fnd : findBy (fun k v => v.isStr k) es k = some (.ref b) := by
    rw [← hz]
    obtain ⟨l⟩ := es
    simp [findBy]
  show wpAny _ _ (dictGet a (.str k tk) >>= _) _ _ s
  refine wpAny_bind ?_
  unfold dictGet
  try with_reducible refine wpAny_holding ?_
  refine wpAny_bind (wpAny_pyHash_str (wpAny_bind (KTD.kt_dictFind_strs (s := { s with toks := s.toks + 1 }) ho hd (by obtain ⟨l⟩ := es; simpa using hr.exact) ?_)))
  rw [findBy_of_findIdx?] at fnd
  cases hi : es.findIdx? fun e => e.key.isStr k with
  | none => rw [hi] at fnd; cases fnd
  | some i =>
    rw [hi] at fnd
    refine wpAny_bind (wpAny_dictEntries (s := { s with toks := s.toks + 1 }) ho hd (wpAny_pure ?_))
    rw [show es[i]?.map (·.val) = some (.ref b) from fnd]
    exact wpAny_pure ⟨_, rfl, wpAny_pure ⟨rfl, fin _⟩⟩
end
structure Isi (K : PySem.W.Frag) (C : Addr) : Prop where
  ha : PySem.W.findIn K (.ref C) "__class__" = some (some (.builtin "object.__class__"))
  hn : PySem.W.specialIn K (.builtin "object.__class__") "__get__" = some (some (.builtin "getset_descriptor.__get__"))
  ht : PySem.W.takesIn K (.builtin "object.__class__") = some true
  hm : PySem.W.mroIn K C (.type "object") = some true
  oStr : PySem.W.kitOne K (.ref C) (.type "str") = some false
  oInt : PySem.W.kitOne K (.ref C) (.type "int") = some false
  oTup : PySem.W.kitOne K (.ref C) (.type "tuple") = some false
  oLst : PySem.W.kitOne K (.ref C) (.type "list") = some false
  sO : PySem.W.kitOne K (.type "str") (.ref C) = some false
  iO : PySem.W.kitOne K (.type "int") (.ref C) = some false
theorem Isi.self {K : PySem.W.Frag} {C : Addr} (h : Isi K C) : PySem.W.kitOne K (.ref C) (.ref C) = some true := by
  unfold PySem.W.kitOne
  rw [if_pos (by simp)]
theorem Isi.ty {K : PySem.W.Frag} {C a dx : Addr} {fs : List (Str × V)} {H : Hp} (h : Isi K C) (cl : Cls K C) (e : H a = some (.ins C dx fs)) : TyOf K H (.ref a) (.ref C) := .ins e cl h.ha h.hn h.ht h.hm
end L2
namespace L2
open PySem PySem.Spec PyProof.Rows
section
variable {X : Cx}
theorem call_sorted_strs : CallR X (.builtin "sorted") (fun xs H Q => ∃ l zs, xs = [.ref l] ∧ SqL X.K H l (zs.map V.str) ∧ zs.length < 64 ∧ ∀ p ys, H p = none → ys.Perm zs → sortedS ys = true → Q (.ref p) (upd H p (.lst (ys.map V.str)))) := by
  intro pins s σ H xs us Q I r h
  obtain ⟨l, zs, rfl, hl, h64, q⟩ := h
  obtain ⟨u, rfl, ru⟩ := vals1 r
  cases ru
  obtain ⟨its, rv, pl, _⟩ := I.list hl
  have sy := vals_strs rv
  refine sorted_strs (vs := its) (ss := zs) pl.isList sy (by rw [sy.length]; exact h64) fun out ys a1 a2 a3 => ?_
  obtain ⟨e, he⟩ := sortedAll_at s.heap its out
  have vl : out.toList.length ≤ sizeLine := by
    rw [a1.length, a2.length_eq]
    exact Nat.le_trans (Nat.le_of_lt h64) (by decide)
  have I1 : Inv X pins σ (upd H (s.heap.objs.size + 1) (.lst (ys.map V.str))) { s with heap := sortedAll s.heap its out } := I.laid (t' := s.toks) (fun b o e => sortedAll_old e) (Nat.le_succ _) ⟨by rw [List.length_map, ← a1.length]; exact vl, out.toList, e, strs_vals' a1, by rw [Array.toArray_toList]; exact he⟩
  exact ⟨.ref (s.heap.objs.size + 1), _, I1, rfl, q _ ys (I.hok.fresh (Nat.le_succ _)) a2 a3⟩
end
end L2
namespace TSort
open PySem PyProof.Rows
abbrev IL := List Int
section keys
variable (k : Value → IL)
def ka (xs : Array Keyed) (i : Nat) : IL := ((xs[i]?).map fun p => k p.1).getD []
def Up (xs : Array Keyed) (n : Nat) : Prop := ∀ i j, i < j → j < n → ka k xs i < ka k xs j
def Dn (xs : Array Keyed) (n : Nat) : Prop := ∀ i j, i < j → j < n → ka k xs j < ka k xs i
variable {k}
theorem ka_of {xs ys : Array Keyed} {i j : Nat} (e : xs[i]? = ys[j]?) : ka k xs i = ka k ys j := by
  unfold ka
  rw [e]
theorem Up.more {xs : Array Keyed} {n : Nat} (h : Up k xs n) (h1 : 1 ≤ n) (e : ka k xs (n - 1) < ka k xs n) : Up k xs (n + 1) := by
  intro i j a b
  rcases Nat.lt_or_ge j n with c | c
  · exact h i j a c
  · obtain rfl : j = n := by omega
    rcases Nat.lt_or_ge i (j - 1) with d | d
    · exact List.lt_trans (h i (j - 1) d (by omega)) e
    · obtain rfl : i = j - 1 := by omega
      exact e
theorem Dn.more {xs : Array Keyed} {n : Nat} (h : Dn k xs n) (h1 : 1 ≤ n) (e : ka k xs n < ka k xs (n - 1)) : Dn k xs (n + 1) := by
  intro i j a b
  rcases Nat.lt_or_ge j n with c | c
  · exact h i j a c
  · obtain rfl : j = n := by omega
    rcases Nat.lt_or_ge i (j - 1) with d | d
    · exact List.lt_trans e (h i (j - 1) d (by omega))
    · obtain rfl : i = j - 1 := by omega
      exact e
theorem Dn.turn {xs : Array Keyed} {n : Nat} (h : Dn k xs n) (hn : n ≤ xs.size) : Up k (mirror xs 0 n ((n - 0) / 2)) n := by
  intro i j a b
  have e : ∀ m, m < n → ka k (mirror xs 0 n ((n - 0) / 2)) m = ka k xs (0 + n - 1 - m) := fun m hm => by
    have z := getElem?_mirror_all (i := 0) hn m
    rw [if_pos ⟨Nat.zero_le _, hm⟩] at z
    exact ka_of z
  rw [e i (by omega), e j b]
  exact h _ _ (by omega) (by omega)
end keys
structure Ok (a0 : Array Keyed) (kd : SortKind) (st : SortSt) : Prop where
  perm : (arrOf st).Perm a0
  kind : kindOf st = kd
  none : failedOf st = none
  pend : pendingOf st = #[]
theorem Ok.size {a0 : Array Keyed} {kd : SortKind} {st : SortSt} (h : Ok a0 kd st) : (arrOf st).size = a0.size := h.perm.size_eq
theorem Ok.put {a0 : Array Keyed} {kd : SortKind} {st : SortSt} (h : Ok a0 kd st) {xs : Array Keyed} (p : xs.Perm (arrOf st)) : Ok a0 kd (setArr st xs) := ⟨p.trans h.perm, h.kind, h.none, h.pend⟩
section
variable {pr : Program} {wo : World} {Ar : Around} {Ex : Value → Shared → Prop} {sh : Shared} {k : Value → IL} {a0 : Array Keyed} {kd : SortKind}
structure Cmp (pr : Program) (wo : World) (Ar : Around) (Ex : Value → Shared → Prop) (sh : Shared) (k : Value → IL) (a0 : Array Keyed) (kd : SortKind) : Prop where
  lt : ∀ (x y : Keyed) (st : SortSt) (R : Option Bool → SortSt → Prop), kindOf st = kd → x ∈ a0.toList → y ∈ a0.toList → k x.1 ≠ k y.1 → R (some (decide (k x.1 < k y.1))) st → wpS (model pr wo) Ar Ex sh (lt' x y) R st
  un : (a0.toList.map fun p => k p.1).Nodup
theorem Cmp.apart (C : Cmp pr wo Ar Ex sh k a0 kd) {st : SortSt} (G : Ok a0 kd st) {i j : Nat} (hi : i < a0.size) (hj : j < a0.size) (n : i ≠ j) : ka k (arrOf st) i ≠ ka k (arrOf st) j := by
  have p := (Array.perm_iff_toList_perm.mp G.perm).map fun q : Keyed => k q.1
  have u : ((arrOf st).toList.map fun q : Keyed => k q.1).Nodup := p.symm.nodup C.un
  have zi : i < (arrOf st).size := by rw [G.size]; exact hi
  have zj : j < (arrOf st).size := by rw [G.size]; exact hj
  have g := List.pairwise_iff_getElem.mp u
  have ei : ka k (arrOf st) i = k (arrOf st)[i].1 := by unfold ka; rw [Array.getElem?_eq_getElem zi]; rfl
  have ej : ka k (arrOf st) j = k (arrOf st)[j].1 := by unfold ka; rw [Array.getElem?_eq_getElem zj]; rfl
  rw [ei, ej]
  rcases Nat.lt_or_gt_of_ne n with c | c
  · have z := g i j (by simpa using zi) (by simpa using zj) c
    rw [List.getElem_map, List.getElem_map] at z
    exact z
  · have z := g j i (by simpa using zj) (by simpa using zi) c
    rw [List.getElem_map, List.getElem_map] at z
    exact fun e => z e.symm
theorem Cmp.at (C : Cmp pr wo Ar Ex sh k a0 kd) {st : SortSt} (G : Ok a0 kd st) {i j : Nat} (hi : i < a0.size) (hj : j < a0.size) (n : i ≠ j) {R : Option Bool → SortSt → Prop}
    (h : R (some (decide (ka k (arrOf st) i < ka k (arrOf st) j))) st) : wpS (model pr wo) Ar Ex sh (ltAt' i j) R st := by
  have ap := C.apart G hi hj n
  have zi : i < (arrOf st).size := by rw [G.size]; exact hi
  have zj : j < (arrOf st).size := by rw [G.size]; exact hj
  have ei : (arrOf st)[i]? = some (arrOf st)[i] := Array.getElem?_eq_getElem zi
  have ej : (arrOf st)[j]? = some (arrOf st)[j] := Array.getElem?_eq_getElem zj
  have m : ∀ q : Keyed, q ∈ (arrOf st).toList → q ∈ a0.toList := fun q hq => (Array.perm_iff_toList_perm.mp G.perm).mem_iff.mp hq
  rw [ltAt'_eq]
  refine wpS_bind (wpS_get ?_)
  show wpS (model pr wo) Ar Ex sh (elem' (arrOf st) i >>= fun x => elem' (arrOf st) j >>= fun y => lt' x y) R st
  rw [elem'_eq, elem'_eq, ei, ej]
  refine wpS_bind (wpS_pure (wpS_bind (wpS_pure ?_)))
  have ki : ka k (arrOf st) i = k (arrOf st)[i].1 := by unfold ka; rw [ei]; rfl
  have kj : ka k (arrOf st) j = k (arrOf st)[j].1 := by unfold ka; rw [ej]; rfl
  rw [ki, kj] at h ap
  exact C.lt _ _ st R G.kind (m _ (by simp)) (m _ (by simp)) ap h
theorem not_lt {a b : IL} (n : a ≠ b) (h : ¬ a < b) : b < a := by
  rcases Decidable.em (b < a) with c | c
  · exact c
  · exact absurd (List.le_antisymm (List.not_lt.mp c) (List.not_lt.mp h)) n
theorem Cmp.asc (C : Cmp pr wo Ar Ex sh k a0 kd) {st : SortSt} (G : Ok a0 kd st) {a m : Nat} (hm : m ≤ a0.size) (h1 : 1 ≤ a) (h2 : a ≤ m) (u : Up k (arrOf st) a) {R : AscSt → SortSt → Prop}
    (q : ∀ n, a ≤ n → n ≤ m → Up k (arrOf st) n → (n = m ∨ ka k (arrOf st) n < ka k (arrOf st) (n - 1)) → R (none, n) st) : wpS (model pr wo) Ar Ex sh (ascLoop a m) R st := by
  unfold ascLoop
  refine wpS_forRange (I := fun x c z => z = st ∧ c = (none, x) ∧ Up k (arrOf st) x) (fun x c z ax xm I => ?_) (fun c z I => ?_) ⟨rfl, rfl, u⟩
  · obtain ⟨rfl, rfl, v⟩ := I
    dsimp only
    refine wpS_bind (C.at G (by omega) (by omega) (by omega) ?_)
    have ap := C.apart G (i := x) (j := x - 1) (by omega) (by omega) (by omega)
    by_cases c : ka k (arrOf z) x < ka k (arrOf z) (x - 1)
    · rw [decide_eq_true c]
      exact wpS_pure (q x ax (by omega) v (.inr c))
    · rw [decide_eq_false c]
      exact wpS_pure ⟨rfl, rfl, v.more (by omega) (not_lt ap c)⟩
  · obtain ⟨rfl, rfl, v⟩ := I
    rw [show max a m = m by omega] at v ⊢
    exact q m h2 (Nat.le_refl _) v (.inl rfl)
theorem Cmp.last (C : Cmp pr wo Ar Ex sh k a0 kd) {st : SortSt} (G : Ok a0 kd st) {n m : Nat} (hm : m ≤ a0.size) (h1 : 1 ≤ n) (h2 : n ≤ m) (d : Dn k (arrOf st) n) {R : Option Nat → SortSt → Prop}
    (q : ∀ l z, Ok a0 kd z → 1 ≤ l → l ≤ m → Up k (arrOf z) l → R (some l) z) : wpS (model pr wo) Ar Ex sh (tail3 n m) R st := by
  unfold tail3
  refine wpS_bind (wpS_reverse ?_)
  have G' : Ok a0 kd (setArr st (mirror (arrOf st) 0 n ((n - 0) / 2))) := G.put (mirror_perm _ _ _ _)
  exact wpS_bind (C.asc G' hm h1 h2 (d.turn (by rw [G.size]; omega)) fun l a b c _ => wpS_pure (q l _ G' (by omega) b c))
theorem Cmp.desc (C : Cmp pr wo Ar Ex sh k a0 kd) {st : SortSt} (G : Ok a0 kd st) {n m : Nat} (hm : m ≤ a0.size) (h1 : 1 ≤ n) (h2 : n ≤ m) (d : Dn k (arrOf st) n) {R : DescSt → SortSt → Prop}
    (q : ∀ l, n ≤ l → l ≤ m → Dn k (arrOf st) l → R (none, l, 0) st) : wpS (model pr wo) Ar Ex sh (descLoop n m) R st := by
  unfold descLoop
  refine wpS_forRange (I := fun x c z => z = st ∧ c = (none, x, 0) ∧ Dn k (arrOf st) x) (fun x c z ax xm I => ?_) (fun c z I => ?_) ⟨rfl, rfl, d⟩
  · obtain ⟨rfl, rfl, v⟩ := I
    dsimp only
    refine wpS_bind (C.at G (by omega) (by omega) (by omega) ?_)
    have ap := C.apart G (i := x) (j := x - 1) (by omega) (by omega) (by omega)
    by_cases c : ka k (arrOf z) x < ka k (arrOf z) (x - 1)
    · rw [decide_eq_true c]
      exact wpS_pure ⟨rfl, rfl, v.more (by omega) c⟩
    · rw [decide_eq_false c]
      refine wpS_bind (C.at G (by omega) (by omega) (by omega) ?_)
      rw [decide_eq_true (not_lt ap c)]
      exact wpS_pure (q x ax (by omega) v)
  · obtain ⟨rfl, rfl, v⟩ := I
    rw [show max n m = m by omega] at v ⊢
    exact q m h2 (Nat.le_refl _) v
theorem Cmp.part (C : Cmp pr wo Ar Ex sh k a0 kd) {st : SortSt} (G : Ok a0 kd st) {n m : Nat} (hm : m ≤ a0.size) (h2 : n + 1 ≤ m) (d : Dn k (arrOf st) (n + 1)) {R : Option Nat → SortSt → Prop}
    (q : ∀ l z, Ok a0 kd z → 1 ≤ l → l ≤ m → Up k (arrOf z) l → R (some l) z) : wpS (model pr wo) Ar Ex sh (descPart n m) R st := by
  unfold descPart
  refine wpS_bind (wpS_lift (wpAny_rule ⟨rfl, ?_⟩))
  refine wpS_bind (C.desc G hm (by omega) h2 d fun l a b c => ?_)
  exact C.last G hm (by omega) b c q
theorem Cmp.run (C : Cmp pr wo Ar Ex sh k a0 kd) {st : SortSt} (G : Ok a0 kd st) {m : Nat} (hm : m ≤ a0.size) (h1 : 1 ≤ m) {R : Option Nat → SortSt → Prop}
    (q : ∀ l z, Ok a0 kd z → 1 ≤ l → l ≤ m → Up k (arrOf z) l → R (some l) z) : wpS (model pr wo) Ar Ex sh (countRun' 0 m) R st := by
  rw [countRun0_eq]
  refine wpS_bind (C.asc G hm (Nat.le_refl 1) h1 (fun i j a b => by omega) fun n a b c d => ?_)
  dsimp only
  by_cases e : n = m
  · rw [if_pos (by simpa using e)]
    exact wpS_pure (q n st G a b c)
  · rw [if_neg (by simpa using e)]
    have lt := d.resolve_left e
    by_cases g : n > 1
    · rw [if_pos g]
      refine wpS_bind (C.at G (by omega) (by omega) (by omega) ?_)
      rw [decide_eq_true (c 0 (n - 1) (by omega) (by omega))]
      exact wpS_pure (q n st G a b c)
    · rw [if_neg g]
      obtain rfl : n = 1 := by omega
      refine C.part G hm (by omega) (fun i j x y => ?_) q
      obtain rfl : i = 0 := by omega
      obtain rfl : j = 1 := by omega
      exact lt
end
end TSort
namespace TSort
open PySem PyProof.Rows
theorem ka_bubble {k : Value → IL} {xs : Array Keyed} {c l : Nat} (hc : c < xs.size) (hl : l ≤ c) (m : Nat) :
    ka k (bubble xs c (c - l)) m = if m = l then ka k xs c else if l < m ∧ m ≤ c then ka k xs (m - 1) else ka k xs m := by
  have z := getElem?_bubble hc (c - l) (by omega) m
  rw [show c - (c - l) = l by omega] at z
  by_cases a : m = l
  · rw [if_pos a] at z ⊢
    exact ka_of z
  · rw [if_neg a] at z ⊢
    by_cases b : l < m ∧ m ≤ c
    · rw [if_pos b] at z ⊢
      exact ka_of z
    · rw [if_neg b] at z ⊢
      exact ka_of z
theorem Up.put {k : Value → IL} {xs : Array Keyed} {c l : Nat} (h : Up k xs c) (hc : c < xs.size) (hl : l ≤ c) (lo : ∀ i, i < l → ka k xs i < ka k xs c) (hi : ∀ i, l ≤ i → i < c → ka k xs c < ka k xs i) : Up k (bubble xs c (c - l)) (c + 1) := by
  intro i j a b
  rw [ka_bubble hc hl, ka_bubble hc hl]
  by_cases i1 : i = l
  · rw [if_pos i1, if_neg (by omega), if_pos (by omega)]
    exact hi _ (by omega) (by omega)
  · rw [if_neg i1]
    by_cases j1 : j = l
    · rw [if_pos j1, if_neg (by omega)]
      exact lo i (by omega)
    · rw [if_neg j1]
      by_cases i2 : l < i ∧ i ≤ c
      · rw [if_pos i2, if_pos (by omega)]
        exact h _ _ (by omega) (by omega)
      · rw [if_neg i2]
        by_cases j2 : l < j ∧ j ≤ c
        · rw [if_pos j2]
          exact h _ _ (by omega) (by omega)
        · rw [if_neg j2]
          exact h _ _ a (by omega)
section
variable {pr : Program} {wo : World} {Ar : Around} {Ex : Value → Shared → Prop} {sh : Shared} {k : Value → IL} {a0 : Array Keyed} {kd : SortKind}
theorem Cmp.ins (C : Cmp pr wo Ar Ex sh k a0 kd) {st : SortSt} (G : Ok a0 kd st) {n m : Nat} (hn : n ≤ a0.size) (hm : m ≤ n) (u : Up k (arrOf st) m) {R : Bool → SortSt → Prop}
    (q : ∀ z, Ok a0 kd z → Up k (arrOf z) n → R true z) : wpS (model pr wo) Ar Ex sh (binarySort' 0 n m) R st := by
  rw [binarySort'_eq]
  simp only [Nat.zero_add]
  refine wpS_bind (wpS_mono (wpS_forRange (I := fun c o z => o = (none, ()) ∧ Ok a0 kd z ∧ Up k (arrOf z) (min c n)) (Q := fun o z => o = (none, ()) ∧ Ok a0 kd z ∧ Up k (arrOf z) n) (fun c o z mc cn I => ?_) (fun o z I => ?_) ⟨rfl, G, fun i j a b => ?_⟩) fun o z I => ?_)
  · obtain ⟨rfl, G', v⟩ := I
    rw [show min c n = c by omega] at v
    have sz : c < (arrOf z).size := by rw [G'.size]; omega
    refine wpS_bind (wpS_mono (wpS_forRange (I := fun x o y => y = z ∧ ∃ l r, o = (none, l, r) ∧ l ≤ r ∧ r ≤ c ∧ r - l ≤ c - x ∧ (∀ i, i < l → ka k (arrOf z) i < ka k (arrOf z) c) ∧ ∀ i, r ≤ i → i < c → ka k (arrOf z) c < ka k (arrOf z) i)
      (Q := fun o y => y = z ∧ ∃ l r, o = (none, l, r) ∧ l ≤ c ∧ (∀ i, i < l → ka k (arrOf z) i < ka k (arrOf z) c) ∧ ∀ i, l ≤ i → i < c → ka k (arrOf z) c < ka k (arrOf z) i) (fun x o y _ xc J => ?_) (fun o y J => ?_) ⟨rfl, 0, c, rfl, by omega, by omega, by omega, fun i h => by omega, fun i h1 h2 => by omega⟩) fun o y J => ?_)
    · obtain ⟨rfl, l, r, rfl, lr, rc, w, lo, hi⟩ := J
      dsimp only
      by_cases g : l ≥ r
      · rw [if_pos g]
        obtain rfl : l = r := by omega
        exact wpS_pure ⟨rfl, l, l, rfl, rc, lo, hi⟩
      · rw [if_neg g]
        refine wpS_bind (C.at G' (by omega) (by omega) (by omega) ?_)
        have ap := C.apart G' (i := c) (j := (l + r) / 2) (by omega) (by omega) (by omega)
        by_cases d : ka k (arrOf y) c < ka k (arrOf y) ((l + r) / 2)
        · rw [decide_eq_true d]
          refine wpS_pure ⟨rfl, l, (l + r) / 2, rfl, by omega, by omega, by omega, lo, fun i h1 h2 => ?_⟩
          rcases Nat.lt_or_ge ((l + r) / 2) i with e | e
          · exact List.lt_trans d (v _ _ e h2)
          · obtain rfl : i = (l + r) / 2 := by omega
            exact d
        · rw [decide_eq_false d]
          have d' := not_lt ap d
          refine wpS_pure ⟨rfl, (l + r) / 2 + 1, r, rfl, by omega, by omega, by omega, fun i h1 => ?_, hi⟩
          rcases Nat.lt_or_ge i ((l + r) / 2) with e | e
          · exact List.lt_trans (v _ _ e (by omega)) d'
          · obtain rfl : i = (l + r) / 2 := by omega
            exact d'
    · obtain ⟨rfl, l, r, rfl, lr, rc, w, lo, hi⟩ := J
      obtain rfl : l = r := by omega
      exact ⟨rfl, l, l, rfl, rc, lo, hi⟩
    · obtain ⟨rfl, l, r, rfl, lc, lo, hi⟩ := J
      refine wpS_bind (m := moveDown' c l) ?_
      rw [moveDown'_eq]
      refine wpS_modify (wpS_pure ⟨rfl, G'.put (bubble_perm _ _ _), ?_⟩)
      rw [show min (c + 1) n = c + 1 by omega]
      exact v.put sz lc lo hi
  · obtain ⟨rfl, G', v⟩ := I
    rw [show min (max (max m 1) n) n = n by omega] at v
    exact ⟨rfl, G', v⟩
  · exact u i j a (by omega)
  · obtain ⟨rfl, G', v⟩ := I
    exact wpS_pure (q z G' v)
structure Fin (k : Value → IL) (a0 : Array Keyed) (st : SortSt) : Prop where
  perm : (arrOf st).Perm a0
  none : failedOf st = none
  pend : pendingOf st = #[(0, a0.size, 0)]
  up : Up k (arrOf st) a0.size
theorem Ok.fin {st : SortSt} (G : Ok a0 kd st) (u : Up k (arrOf st) a0.size) : Fin k a0 (setPending st ((pendingOf st).push (0, a0.size, 0))) :=
  ⟨G.perm, G.none, by show (pendingOf st).push (0, a0.size, 0) = #[(0, a0.size, 0)]; rw [G.pend]; rfl, u⟩
theorem Cmp.all (C : Cmp pr wo Ar Ex sh k a0 kd) {st : SortSt} (G : Ok a0 kd st) (h2 : 2 ≤ a0.size) (h64 : a0.size < 64) {R : Unit → SortSt → Prop}
    (q : ∀ z, (arrOf z).Perm a0 → failedOf z = none → Up k (arrOf z) a0.size → R () z) : wpS (model pr wo) Ar Ex sh sortRuns' R st := by
  rw [sortRuns'_eq]
  refine wpS_bind (wpS_get ?_)
  dsimp only
  have mr : minRun' a0.size a0.size 0 = a0.size := by
    obtain ⟨f, hf⟩ : ∃ f, a0.size = f + 1 := ⟨a0.size - 1, by omega⟩
    have z : minRun' (f + 1) a0.size 0 = a0.size := by
      rw [minRun'_succ, if_pos h64, Nat.add_zero]
    rw [← hf] at z
    exact z
  simp only [G.size, mr]
  refine wpS_bind (wpS_mono (wpS_forRange (I := fun x o z => (x = 0 ∧ o = (none, 0) ∧ Ok a0 kd z) ∨ (1 ≤ x ∧ o = (none, a0.size) ∧ Fin k a0 z)) (Q := fun o z => o = (none, a0.size) ∧ Fin k a0 z) (fun x o z _ hx I => ?_) (fun o z I => ?_) (.inl ⟨rfl, rfl, G⟩)) fun o z I => ?_)
  · rcases I with ⟨rfl, rfl, G'⟩ | ⟨x1, rfl, D⟩
    · dsimp only
      rw [if_neg (by omega)]
      simp only [Nat.sub_zero, Nat.min_self, Nat.zero_add]
      refine wpS_bind (C.run G' (Nat.le_refl _) (by omega) fun l y Gy l1 l2 uy => ?_)
      dsimp only
      by_cases lt : l < a0.size
      · rw [if_pos lt]
        refine wpS_bind (wpS_lift (wpAny_rule ⟨rfl, ?_⟩))
        refine wpS_bind (C.ins Gy (Nat.le_refl _) l2 uy fun v Gv uv => ?_)
        simp only [Bool.not_true, Bool.false_eq_true, if_false]
        refine wpS_bind (wpS_get ?_)
        rw [show (pendingOf v).back? = none by rw [Gv.pend]; rfl]
        exact wpS_bind (wpS_modify (wpS_pure (.inr ⟨by omega, rfl, Gv.fin uv⟩)))
      · rw [if_neg lt]
        obtain rfl : l = a0.size := by omega
        refine wpS_bind (wpS_get ?_)
        rw [show (pendingOf y).back? = none by rw [Gy.pend]; rfl]
        exact wpS_bind (wpS_modify (wpS_pure (.inr ⟨by omega, rfl, Gy.fin uy⟩)))
    · dsimp only
      rw [if_pos (Nat.le_refl _)]
      exact wpS_pure ⟨rfl, D⟩
  · rcases I with ⟨hx, _, _⟩ | ⟨_, ho, D⟩
    · omega
    · exact ⟨ho, D⟩
  · obtain ⟨rfl, D⟩ := I
    dsimp only
    refine wpS_bind (wpS_mono (wpS_forRange (I := fun _ o y => y = z ∧ o = (none, ())) (Q := fun o y => y = z ∧ o = (none, ())) (fun x o y _ _ J => ?_) (fun _ _ J => J) ⟨rfl, rfl⟩) fun o y J => ?_)
    · obtain ⟨rfl, rfl⟩ := J
      refine wpS_bind (wpS_get ?_)
      rw [if_pos (by rw [D.pend]; exact Nat.le_refl 1)]
      exact wpS_pure ⟨rfl, rfl⟩
    · obtain ⟨rfl, rfl⟩ := J
      exact wpS_pure (q _ D.perm D.none D.up)
end
end TSort
namespace TSort
open PySem PyProof.Rows
def TupI (h : Heap) (a : Addr) (ks : IL) : Prop := ∃ (o : Obj) (its : Array Value) (n : Nat) (us rest : List Value), h.get? a = some o ∧ o.cls = .type "tuple" ∧ o.data = .seq its n ∧ its.toList = us ++ rest ∧ IntsAre us ks
theorem TupI.keep {h h' : Heap} {a : Addr} {ks : IL} (t : TupI h a ks) (e : ∀ o, h.get? a = some o → h'.get? a = some o) : TupI h' a ks := by
  obtain ⟨o, its, n, us, rest, h1, h2⟩ := t
  exact ⟨o, its, n, us, rest, e _ h1, h2⟩
def kf (f : Addr → IL) : Value → IL
  | .ref a => f a
  | _ => []
section
variable {pr : Program} {wo : World} {Ar : Around} {Ex : Value → Shared → Prop} {sh : Shared}
theorem lex {b fin : Bool} {R : Bool → Shared → Prop} : ∀ {us vs : List Value} {xs ys : IL} {r1 r2 : List Value} {i : Nat}, IntsAre us xs → IntsAre vs ys → xs.length = ys.length → xs ≠ ys → R (decide (xs < ys)) sh → W.KatLex pr wo Ar b fin R ((us ++ r1).zip (vs ++ r2)) i sh
  | _, _, _, _, _, _, _, .nil, .nil, _, n, _ => absurd rfl n
  | _, _, _, _, _, _, _, .nil, .cons _ _ _, l, _, _ => by simp at l
  | _, _, _, _, _, _, _, .cons _ _ _, .nil, l, _, _ => by simp at l
  | _, _, _, _, r1, r2, i, .cons x t hx (vs := us) (ns := xs), .cons y u hy (vs := vs) (ns := ys), l, n, q => by
    refine W.kat_cons (wpAny_eqBool_int ?_)
    by_cases e : x = y
    · subst e
      rw [show (x == x) = true by simp]
      refine W.kat_yes (lex hx hy (by simpa using l) (fun z => n (by rw [z])) ?_)
      have z : decide (x :: xs < x :: ys) = decide (xs < ys) := by
        apply decide_eq_decide.mpr
        rw [List.cons_lt_cons_iff]
        constructor
        · rintro (c | ⟨_, c⟩)
          · exact absurd c (Int.lt_irrefl x)
          · exact c
        · exact fun c => .inr ⟨rfl, c⟩
      rw [z] at q
      exact q
    · rw [show (x == y) = false by simpa using e]
      have z : decide (x :: xs < y :: ys) = decide (x < y) := by
        apply decide_eq_decide.mpr
        rw [List.cons_lt_cons_iff]
        constructor
        · rintro (c | ⟨c, _⟩)
          · exact c
          · exact absurd c e
        · exact fun c => .inl c
      rw [z] at q
      refine W.kat_no ?_
      cases (b && i == 0) with
      | true => exact oneLt_int q
      | false => exact W.kat_one _ _ (lt_int q)
theorem cmp_tups {f : Addr → IL} {vs : List Value} {m : Nat} {b : Bool} (hv : ∀ v ∈ vs, ∃ a, v = .ref a ∧ TupI sh.heap a (f a) ∧ (f a).length = m) (un : (vs.map (kf f)).Nodup) : Cmp pr wo Ar Ex sh (kf f) (pairsOf vs) (tuples' b) := by
  refine ⟨fun x y st R hk mx my n q => ?_, ?_⟩
  · rw [pairsOf_toList] at mx my
    obtain ⟨a, ea, ⟨o1, i1, n1, u1, r1, g1, _, d1, l1, t1⟩, m1⟩ := hv _ (mem_zip_self mx).2
    obtain ⟨c, ec, ⟨o2, i2, n2, u2, r2, g2, _, d2, l2, t2⟩, m2⟩ := hv _ (mem_zip_self my).2
    rw [ea, ec] at n q
    rw [lt'_eq]
    refine wpS_bind (wpS_get ?_)
    rw [hk, ea, ec]
    refine wpS_bind (wpS_lift (wpAny_attempt (W.kat_lt g1 d1 g2 d2 ?_)))
    rw [l1, l2]
    exact lex t1 t2 (by rw [m1, m2]) n ⟨rfl, wpS_pure q⟩
  · rw [pairsOf_toList]
    have e : (vs.zip vs).map (fun p => kf f p.1) = vs.map (kf f) := by
      rw [show (fun p : Keyed => kf f p.1) = kf f ∘ Prod.fst from rfl, ← List.map_map, List.map_fst_zip (Nat.le_refl _)]
    rw [e]
    exact un
theorem kind_tups {f : Addr → IL} {vs : List Value} {m : Nat} {R : SortKind → Shared → Prop} (hm : 0 < m) (h0 : 0 < vs.length) (hv : ∀ v ∈ vs, ∃ a, v = .ref a ∧ TupI sh.heap a (f a) ∧ (f a).length = m) (q : R (tuples' true) sh) : wpAny (model pr wo) Ar (keyKind' vs.toArray) R Ex sh := by
  have all : ∀ vs : List Value, (∀ v ∈ vs, ∃ a, v = .ref a ∧ TupI sh.heap a (f a) ∧ (f a).length = m) → ∃ fs, W.KatTups sh.heap vs fs ∧ fs.length = vs.length ∧ ∀ v ∈ fs, ∃ x t, v = .int x t := by
    intro vs
    induction vs with
    | nil => exact fun _ => ⟨[], .nil, rfl, by simp⟩
    | cons v r ih =>
      intro h
      obtain ⟨fs, a1, a2, a3⟩ := ih fun z hz => h z (List.mem_cons_of_mem _ hz)
      obtain ⟨a, rfl, ⟨o, its, n, us, rest, g, c, d, l, t⟩, hl⟩ := h v List.mem_cons_self
      generalize f a = ks at t hl
      cases t with
      | nil => simp at hl; omega
      | cons x tk h' =>
        refine ⟨.int x tk :: fs, .cons g c d (by rw [← Array.getElem?_toList, l]; rfl) a1, by rw [List.length_cons, List.length_cons, a2], ?_⟩
        intro z hz
        rcases List.mem_cons.mp hz with e | e
        · exact ⟨x, tk, e⟩
        · exact a3 z e
  obtain ⟨fs, a1, a2, a3⟩ := all vs hv
  refine W.kat_kind (T := .type "int") a1 (by omega) (fun v h => ?_) rfl q
  obtain ⟨x, t, rfl⟩ := a3 v h
  exact .now
end
end TSort
namespace TSort
open PySem PyProof.Rows
section
variable {pr : Program} {wo : World} {Ar : Around} {Ex : Value → Shared → Prop} {sh : Shared}
theorem le64 : 64 ≤ sizeLine := by decide
theorem up_out {f : Addr → IL} {vs : List Value} {xs : Array Keyed} (p : xs.Perm (pairsOf vs)) (u : Up (kf f) xs (pairsOf vs).size) : (xs.map (·.2)).toList.Perm vs ∧ ((xs.map (·.2)).toList.map (kf f)).Pairwise (· < ·) := by
  have pl : xs.toList.Perm (vs.zip vs) := by
    rw [← pairsOf_toList]
    exact Array.perm_iff_toList_perm.mp p
  have same : ∀ q ∈ xs.toList, q.1 = q.2 := fun q hq => (mem_zip_self (pl.mem_iff.mp hq)).1
  have e : (xs.map (·.2)).toList = xs.toList.map (·.1) := by
    rw [Array.toList_map]
    exact List.map_congr_left fun q hq => (same q hq).symm
  refine ⟨?_, ?_⟩
  · rw [e]
    have z := pl.map Prod.fst
    rw [List.map_fst_zip (Nat.le_refl _)] at z
    exact z
  · rw [e, List.map_map, List.pairwise_iff_getElem]
    intro i j hi hj ij
    have hi' : i < xs.size := by simpa using hi
    have hj' : j < xs.size := by simpa using hj
    have z := u i j ij (by rw [← p.size_eq]; exact hj')
    unfold ka at z
    rw [Array.getElem?_eq_getElem hi', Array.getElem?_eq_getElem hj'] at z
    rw [List.getElem_map, List.getElem_map]
    exact z
theorem sort_in {f : Addr → IL} {a : Addr} {vs : List Value} {m n : Nat} {R : PySem.Fin → Shared → Prop} (ho : sh.heap.get? a = some (seqObj "list" vs.toArray n)) (hm : 0 < m) (hv : ∀ v ∈ vs, ∃ b, v = .ref b ∧ TupI sh.heap b (f b) ∧ (f b).length = m) (un : (vs.map (kf f)).Nodup) (h64 : vs.length < 64)
    (q : ∀ out : Array Value, out.toList.Perm vs → (out.toList.map (kf f)).Pairwise (· < ·) → R (.done (.ret .none)) { sh with heap := sortedHeap sh.heap a vs out }) :
    wpAny (model pr wo) Ar (Builtin.«list.sort» ⟨[.ref a], []⟩) R Ex sh := by
  have lt : a < sh.heap.objs.size := Heap.lt_size ho
  have len : vs.toArray.size = vs.length := List.size_toArray ..
  rw [list_sort_plain]
  refine wpAny_bind (listItems_at ho rfl (wpAny_bind (listUpdate_at ho rfl ?_)))
  obtain ⟨ep, h1⟩ : ∃ ep, (sh.heap.update a (Obj.mapSeq fun _ => #[])).get? a = some (seqObj "list" #[] ep) := ⟨_, get?_update_seq ho fun _ => #[]⟩
  refine wpAny_bind (seqEpoch_at h1 rfl (wpAny_bind (wpAny_newTuple (wpAny_bind (wpAny_newList (wpAny_holding ?_))))))
  show wpAny (model pr wo) Ar _ R Ex { sh with heap := ((sh.heap.update a (Obj.mapSeq fun _ => #[])).push (seqObj "tuple" vs.toArray 0)).push (seqObj "list" #[] 0) }
  generalize hH : ((sh.heap.update a (Obj.mapSeq fun _ => #[])).push (seqObj "tuple" vs.toArray 0)).push (seqObj "list" #[] 0) = H
  have h6 : H.get? a = some (seqObj "list" #[] ep) := by
    rw [← hH]
    exact Heap.get?_push_of_some _ (Heap.get?_push_of_some _ h1)
  have hb : ∀ v ∈ vs, ∃ b, v = .ref b ∧ TupI H b (f b) ∧ (f b).length = m := fun v z => by
    obtain ⟨b, e, t, l⟩ := hv v z
    refine ⟨b, e, t.keep fun o g => ?_, l⟩
    have nb : b ≠ a := by
      rintro rfl
      obtain ⟨o', _, _, _, _, g', c', _⟩ := t
      rw [g'] at ho
      cases ho
      have z : Value.type "list" = Value.type "tuple" := c'
      injection z with z
      exact absurd z (by decide)
    rw [← hH]
    exact Heap.get?_push_of_some _ (Heap.get?_push_of_some _ ((Heap.SameBut.update ..).extBut b o nb g))
  have done : ∀ out : Array Value, H.update a (Obj.mapSeq fun _ => out) = sortedHeap sh.heap a vs out := fun out => by rw [← hH]; rfl
  dsimp only
  by_cases two : vs.toArray.size < 2
  · rw [if_pos two, if_pos two]
    refine wpAny_bind (wpAny_pure ?_)
    rw [StateT.run_pure]
    refine wpAny_bind (wpAny_pure ?_)
    dsimp only
    refine wpAny_bind (seqEpoch_at h6 rfl (wpAny_bind (listUpdate_at h6 rfl ?_ (hsz2 := ?_))))
    · simp only [bne_self_eq_false, Bool.false_eq_true, if_false]
      obtain ⟨a1, a2⟩ := up_out (f := f) (vs := vs) (xs := pairsOf vs) (Array.Perm.refl _) (fun i j ij hj => by rw [pairsOf_size] at hj; omega)
      refine wpAny_pure ?_
      have z := q _ a1 a2
      rw [← done] at z
      exact z
    · rw [Array.size_map]
      show (pairsOf vs).size ≤ sizeLine + 1
      rw [pairsOf_size]
      have : 64 ≤ sizeLine := by decide
      omega
  · rw [if_neg two, if_neg two]
    refine wpAny_bind (kind_tups hm (by omega) hb ?_)
    have two' : 2 ≤ (pairsOf vs).size := by
      rw [pairsOf_size]
      omega
    refine wpAny_bind (wpAny_mono ((cmp_tups (pr := pr) (wo := wo) (Ar := Ar) (Ex := Ex) (b := true) hb un).all (st := SortSt.mk' (tuples' true) (vs.toArray.zip vs.toArray) #[] 7 none) ⟨Array.Perm.refl _, rfl, rfl, rfl⟩ two' (by rw [pairsOf_size]; exact h64) (R := fun _ z => (arrOf z).Perm (pairsOf vs) ∧ failedOf z = none ∧ Up (kf f) (arrOf z) (pairsOf vs).size) fun z b1 b2 b3 => ⟨b1, b2, b3⟩) ?_ fun _ _ e => e)
    rintro ⟨⟨⟩, z⟩ s' ⟨rfl, b1, b2, b3⟩
    dsimp only
    refine wpAny_bind (seqEpoch_at h6 rfl (wpAny_bind (listUpdate_at h6 rfl ?_ (hsz2 := ?_))))
    · rw [b2]
      simp only [bne_self_eq_false, Bool.false_eq_true, if_false]
      obtain ⟨a1, a2⟩ := up_out b1 b3
      refine wpAny_pure ?_
      have y := q _ a1 a2
      rw [← done] at y
      exact y
    · refine Nat.le_trans (Nat.le_of_eq ((Array.size_map ..).trans (b1.size_eq.trans (pairsOf_size _)))) ?_
      have : 64 ≤ sizeLine := by decide
      omega
theorem sorted_tups {f : Addr → IL} {l : Addr} {vs : List Value} {m : Nat} {R : Value → Shared → Prop} (hl : sh.heap.IsList l vs.toArray) (hm : 0 < m) (hv : ∀ v ∈ vs, ∃ b, v = .ref b ∧ TupI sh.heap b (f b) ∧ (f b).length = m) (un : (vs.map (kf f)).Nodup) (h64 : vs.length < 64)
    (q : ∀ out : Array Value, out.toList.Perm vs → (out.toList.map (kf f)).Pairwise (· < ·) → R (.ref (sh.heap.objs.size + 1)) { sh with heap := sortedAll sh.heap vs out }) :
    wpAny (model pr wo) Ar (call (.builtin "sorted") [.ref l]) R Ex sh := by
  refine Calls.call_function_entry kind_sorted plain_sorted entry_sorted (args_sorted1 _) ?_
  unfold Builtin.«sorted»
  refine wpAny_bind (m := checkCount "sorted" 1 1 _) (wpAny_pure (wpAny_bind (collect_list hl (wpAny_bind (wpAny_newList ?_)) (Nat.le_trans (Nat.le_of_lt h64) le64))))
  show wpAny (model pr wo) _ _ _ Ex { sh with heap := ((sh.heap.push (seqObj "list" #[] 0)).update sh.heap.objs.size (Obj.mapSeq (· ++ vs.toArray))).push (seqObj "list" vs.toArray 0) }
  generalize hG : (sh.heap.push (seqObj "list" #[] 0)).update sh.heap.objs.size (Obj.mapSeq (· ++ vs.toArray)) = G
  have sz : G.objs.size = sh.heap.objs.size + 1 := by
    rw [← hG, Heap.size_update, size_push']
  have kp : ∀ b o, sh.heap.get? b = some o → G.get? b = some o := fun b o g => by
    rw [← hG]
    exact (Heap.SameBut.update ..).extBut b o (Nat.ne_of_lt (Heap.lt_size g)) (Heap.get?_push_of_some _ g)
  have at1 : (G.push (seqObj "list" vs.toArray 0)).get? (sh.heap.objs.size + 1) = some (seqObj "list" vs.toArray 0) := by
    rw [← sz]
    exact Heap.get?_push_size _ rfl
  rw [sz]
  refine wpAny_bind (wpAny_holding (wpAny_call_entry slot_list_sort ⟨_, at1, rfl⟩ entry_list_sort (sort_in at1 hm (fun v z => ?_) un h64 fun out o1 o2 => ⟨_, rfl, ?_⟩) (args_list_sort _)))
  · obtain ⟨b, e, t, l'⟩ := hv v z
    exact ⟨b, e, t.keep fun o g => Heap.get?_push_of_some _ (kp b o g), l'⟩
  · refine wpAny_pure ⟨_, rfl, ?_⟩
    have y := q out o1 o2
    unfold sortedAll at y
    rw [hG] at y
    exact y
end
end TSort
namespace L2
open PySem PyProof.Rows
def refV : Value → V
  | .ref a => .ref a
  | _ => .non
theorem vals_refs : ∀ {us : List V} {its : List Value}, Vals us its → (∀ u ∈ us, ∃ a, u = .ref a) → its.map refV = us ∧ ∀ v ∈ its, ∃ a, v = .ref a ∧ V.ref a ∈ us
  | _, _, .nil, _ => ⟨rfl, by simp⟩
  | _, _, .cons r t, h => by
    obtain ⟨a, rfl⟩ := h _ List.mem_cons_self
    cases r
    obtain ⟨e1, e2⟩ := vals_refs t fun u hu => h u (List.mem_cons_of_mem _ hu)
    refine ⟨by rw [List.map_cons, e1]; rfl, ?_⟩
    intro v hv
    rcases List.mem_cons.mp hv with z | z
    · exact ⟨a, z, List.mem_cons_self⟩
    · obtain ⟨b, e, m⟩ := e2 v z
      exact ⟨b, e, List.mem_cons_of_mem _ m⟩
theorem vals_back : ∀ {vs : List Value}, (∀ v ∈ vs, ∃ a, v = .ref a) → Vals (vs.map refV) vs
  | [], _ => .nil
  | v :: r, h => by
    obtain ⟨a, rfl⟩ := h v List.mem_cons_self
    exact .cons rfl (vals_back fun u hu => h u (List.mem_cons_of_mem _ hu))
section
variable {X : Cx}
theorem call_sorted_tups : CallR X (.builtin "sorted") (fun xs H Q => ∃ (l : Addr) (us : List V) (g : V → List Int) (m : Nat), xs = [.ref l] ∧ SqL X.K H l us ∧ us.length < 64 ∧ 0 < m ∧ (∀ u ∈ us, ∃ a ys zs, u = .ref a ∧ SqT X.K H a (ys.map V.int ++ zs) ∧ g u = ys ∧ ys.length = m) ∧ (us.map g).Nodup ∧
    ∀ p out, H p = none → out.Perm us → (out.map g).Pairwise (· < ·) → Q (.ref p) (upd H p (.lst out))) := by
  intro pins s σ H xs vs Q I r h
  obtain ⟨l, us, g, m, rfl, hl, h64, hm, ht, un, q⟩ := h
  obtain ⟨u, rfl, ru⟩ := vals1 r
  cases ru
  obtain ⟨its, rv, pl, _⟩ := I.list hl
  obtain ⟨e1, e2⟩ := vals_refs rv fun u hu => by
    obtain ⟨a, _, _, e, _⟩ := ht u hu
    exact ⟨a, e⟩
  have len : its.length = us.length := rv.length.symm
  have kg : ∀ v ∈ its, TSort.kf (fun a => g (.ref a)) v = (g ∘ refV) v := fun v hv => by
    obtain ⟨a, rfl, _⟩ := e2 v hv
    rfl
  have hv : ∀ v ∈ its, ∃ b, v = .ref b ∧ TSort.TupI s.heap b (g (.ref b)) ∧ (g (.ref b)).length = m := fun v hv => by
    obtain ⟨a, rfl, ha⟩ := e2 v hv
    obtain ⟨a', ys, zs, e, sq, eg, lg⟩ := ht _ ha
    cases e
    obtain ⟨jts, rj, ⟨o, g1, g2, n, g3⟩, _⟩ := I.tuple sq
    refine ⟨a, rfl, ?_, by rw [eg]; exact lg⟩
    have t1 := rj.take (ys.map V.int).length
    rw [List.take_left' rfl] at t1
    refine ⟨o, jts.toArray, n, jts.take (ys.map V.int).length, jts.drop (ys.map V.int).length, g1, g2, g3, by rw [List.take_append_drop], ?_⟩
    rw [eg]
    exact intsAre_of t1
  have un' : (its.map (TSort.kf fun a => g (.ref a))).Nodup := by
    rw [List.map_congr_left kg, ← List.map_map, e1]
    exact un
  refine TSort.sorted_tups (vs := its) (f := fun a => g (.ref a)) (m := m) pl.isList hm hv un' (by rw [len]; exact h64) fun out o1 o2 => ?_
  obtain ⟨e, he⟩ := sortedAll_at s.heap its out
  have mem : ∀ v ∈ out.toList, v ∈ its := fun v hv => o1.mem_iff.mp hv
  have rout : Vals (out.toList.map refV) out.toList := vals_back fun v hv => by
    obtain ⟨a, e, _⟩ := e2 v (mem v hv)
    exact ⟨a, e⟩
  have pm : (out.toList.map refV).Perm us := by
    have z := o1.map refV
    rw [e1] at z
    exact z
  have I1 : Inv X pins σ (upd H (s.heap.objs.size + 1) (.lst (out.toList.map refV))) { s with heap := sortedAll s.heap its out } := I.laid (t' := s.toks) (fun b o e => sortedAll_old e) (Nat.le_succ _) ⟨by rw [pm.length_eq]; exact Nat.le_trans (Nat.le_of_lt h64) TSort.le64, out.toList, e, rout, by rw [Array.toArray_toList]; exact he⟩
  refine ⟨.ref (s.heap.objs.size + 1), _, I1, rfl, q _ _ (I.hok.fresh (Nat.le_succ _)) pm ?_⟩
  rw [List.map_congr_left fun v hv => kg v (mem v hv), ← List.map_map] at o2
  exact o2
end
end L2
namespace L2
open PySem PyProof.Rows
section
variable {pr : Program} {wo : World} {Ar : Around} {Ex : Value → Shared → Prop}
end
section
variable {X : Cx}
theorem pg_tupK (K : PySem.W.Frag) {es : List Expr} {k : Nat} {t : TGs} {n : Nat} {pos : Pos} (hc : X.calm = true) (h : PGs X es t)
    (hn : (assignEach es X.env).length = n := by rfl) (hst : (assignEach es X.env).findIdx? (·.1) = none := by rfl) (hK : X.K = K := by rfl) : PG X (.Tuple es k pos) (gTup K n t) := hK ▸ pg_tup hc h hn hst
end
end L2
namespace L2
open PySem PyProof.Rows
section
variable {X : Cx}
inductive TyB (K : PySem.W.Frag) (H : Hp) : V → Value → Prop where
  | non : TyB K H .non (.type "NoneType")
  | bl (x : Bool) : TyB K H (.bl x) (.type "bool")
  | int (i : Int) : TyB K H (.int i) (.type "int")
  | str (x : Str) : TyB K H (.str x) (.type "str")
  | lst {a : Addr} {xs : List V} (e : SqL K H a xs) : TyB K H (.ref a) (.type "list")
  | tup {a : Addr} {xs : List V} (e : SqT K H a xs) : TyB K H (.ref a) (.type "tuple")
theorem vals_types : ∀ {ns : List String} {us : List Value}, Vals (ns.map V.ty) us → us = ns.map Value.type
  | [], _, .nil => rfl
  | n :: r, _, .cons h t => by
    rw [vals_types t, show _ = Value.type n from h]
    rfl
theorem call_isinstT : CallR X (.builtin "isinstance") (fun xs H Q => ∃ (x : V) (tp : Addr) (t : Value) (ns : List String) (b : Bool), xs = [x, .ref tp] ∧ TyB X.K H x t ∧ SqT X.K H tp (ns.map V.ty) ∧ PySem.W.kitAny X.K t (ns.map Value.type) = some b ∧ Q (.bl b) H) := by
  intro pins s σ H xs us Q I r h
  obtain ⟨x, tp, t, ns, b, rfl, ty, ht, e, q⟩ := h
  obtain ⟨u, u', rfl, rx, r2⟩ := vals2 r
  cases (show u' = Value.ref tp from r2)
  obtain ⟨its, rv, ⟨⟨cl, dd, da, sl⟩, g1, g2, n, g3⟩, _⟩ := I.tuple ht
  cases vals_types rv
  simp only at g2 g3
  subst g2 g3
  have fin : ∀ tk, ∃ y H', Inv X pins σ H' { s with toks := tk } ∧ RelV y (.bool b) ∧ Q y H' := fun tk => ⟨.bl b, H, I.tok tk, rfl, q⟩
  cases ty with
  | non => cases (show u = Value.none from rx); exact PySem.W.kia_tup PySem.W.kitx_none I.kIn True.intro g1 e (fun z => nomatch z) fin
  | bl y => cases (show u = Value.bool y from rx); exact PySem.W.kia_tup PySem.W.kitx_bool I.kIn True.intro g1 e (fun z => nomatch z) fin
  | int i => obtain ⟨t, z⟩ := (show ∃ t, u = Value.int i t from rx); cases z; exact PySem.W.kia_tup PySem.W.kitx_int I.kIn True.intro g1 e (fun z => nomatch z) fin
  | str y => obtain ⟨t, z⟩ := (show ∃ t, u = Value.str y t from rx); cases z; exact PySem.W.kia_tup PySem.W.kitx_str I.kIn True.intro g1 e (fun z => nomatch z) fin
  | @lst a xs el =>
    cases (show u = Value.ref a from rx)
    obtain ⟨_, _, pl, _⟩ := I.list el
    obtain ⟨o, h1, h2, _⟩ := pl.isList
    exact PySem.W.kia_tup PySem.W.kitx_list I.kIn ⟨o, h1, h2⟩ g1 e (fun z => nomatch z) fin
  | @tup a xs el =>
    cases (show u = Value.ref a from rx)
    obtain ⟨_, _, ⟨o, h1, h2, _⟩, _⟩ := I.tuple el
    exact PySem.W.kia_tup PySem.W.kitx_tuple I.kIn ⟨o, h1, h2⟩ g1 e (fun z => nomatch z) fin
theorem ix_seqK (K : PySem.W.Frag) (hK : X.K = K := by rfl) : IxR X (rIx K) := hK ▸ ix_seq
theorem eq_self (A : Around) (s : Shared) (a : Addr) : SeqAt.EqAt A s (.ref a) (.ref a) true := fun pr wo E R h => by
  unfold eqBool
  refine wpAny_holding ?_
  rw [if_pos (by simp)]
  exact wpAny_bind (wpAny_rule (wpAny_pure h))
theorem same_items {us : List V} (hu : ∀ u ∈ us, ∃ a, u = .ref a) {v w : List Value} (h1 : Vals us v) (h2 : Vals us w) : v = w ∧ ∀ x ∈ v, ∃ a, x = .ref a := by
  induction h1 generalizing w with
  | nil => cases h2; exact ⟨rfl, by simp⟩
  | cons r t ih =>
    cases h2 with
    | cons r' t' =>
      obtain ⟨a, rfl⟩ := hu _ List.mem_cons_self
      obtain ⟨e, m⟩ := ih (fun u z => hu u (List.mem_cons_of_mem _ z)) t'
      cases r
      cases r'
      refine ⟨by rw [e], ?_⟩
      intro x hx
      rcases List.mem_cons.mp hx with z | z
      · exact ⟨a, z⟩
      · exact m x z
theorem all_true (n : Nat) : (List.range n).all (fun _ => true) = true := by simp
theorem op_eqI (hu : X.A.units + 64 < cLine) : OpR X (compareOp .Eq) (fun x y H Q => ∃ a b us, x = .ref a ∧ y = .ref b ∧ SqL X.K H a us ∧ SqL X.K H b us ∧ (∀ u ∈ us, ∃ c, u = .ref c) ∧ Q (.bl true) H) := by
  intro pins s σ H x y v u Q I rx ry h
  obtain ⟨a, b, us, rfl, rfl, ha, hb, hr, q⟩ := h
  cases rx
  cases ry
  obtain ⟨i1, v1, p1, _⟩ := I.list ha
  obtain ⟨i2, v2, p2, _⟩ := I.list hb
  obtain ⟨rfl, hm⟩ := same_items hr v1 v2
  have z := SeqAt.RcAt.lists (A := X.A) (s := s) (e := fun _ => true) p1.isList p2.isList rfl (by omega) fun j h1 h2 => by
    obtain ⟨c, e⟩ := hm i1.toArray[j] (by simp)
    rw [e]
    exact eq_self _ _ c
  rw [all_true] at z
  exact z X.prog X.w X.xe _ ⟨.bl true, H, I, rfl, q⟩
theorem op_neI (hu : X.A.units + 64 < cLine) : OpR X (compareOp .NotEq) (fun x y H Q => ∃ a b us, x = .ref a ∧ y = .ref b ∧ SqL X.K H a us ∧ SqL X.K H b us ∧ (∀ u ∈ us, ∃ c, u = .ref c) ∧ Q (.bl false) H) := by
  intro pins s σ H x y v u Q I rx ry h
  obtain ⟨a, b, us, rfl, rfl, ha, hb, hr, q⟩ := h
  cases rx
  cases ry
  obtain ⟨i1, v1, p1, _⟩ := I.list ha
  obtain ⟨i2, v2, p2, _⟩ := I.list hb
  obtain ⟨rfl, hm⟩ := same_items hr v1 v2
  have z := SeqAt.RcNeAt.lists (A := X.A) (s := s) (e := fun _ => true) p1.isList p2.isList rfl (by omega) fun j h1 h2 => by
    obtain ⟨c, e⟩ := hm i1.toArray[j] (by simp)
    rw [e]
    exact eq_self _ _ c
  rw [all_true] at z
  exact z X.prog X.w X.xe _ ⟨.bl false, H, I, rfl, q⟩
def rInsert : V → List V → Hp → VK → Prop := fun x vs H Q => ∃ l xs i y, x = .ref l ∧ vs = [.int i, y] ∧ H l = some (.lst xs) ∧ 0 ≤ i ∧ i ≤ (xs.length : Int) ∧ xs.length < 1000 ∧ Q .non (upd H l (.lst (xs.take i.toNat ++ y :: xs.drop i.toNat)))
theorem mt_insert : MtM X "list.insert" rInsert := by
  intro pins s σ H x vs v us Q I rx rv h
  obtain ⟨l, xs, i, y, rfl, rfl, hH, h0, h1, hz, q⟩ := h
  cases rx
  obtain ⟨u, u', rfl, ⟨t, rfl⟩, ru⟩ := vals2 rv
  obtain ⟨z, its, n, r, hl, e⟩ := I.lstM hH
  have len : its.length = xs.length := r.length.symm
  refine call_meets F.slot_list_insert ⟨_, e, rfl⟩ F.entry_list_insert (F.args_list_insert_3 _ _ _) (AutoListH.list_insert_list_int_val_1 l its.toArray n i t u' ?_ (by rw [List.size_toArray]; omega)) ⟨e, ?_⟩
  · unfold Builtin.List.listFitsIndex
    have a : decide (-(2 ^ 63 : Int) ≤ i) = true := decide_eq_true (by omega)
    have b : decide (i < 2 ^ 63) = true := decide_eq_true (by omega)
    rw [a, b]
    decide
  · refine ⟨.non, _, I.lset (its' := its.take i.toNat ++ u' :: its.drop i.toNat) hH e ?_ ((r.take _).append (.cons ru (r.drop _))) ?_, rfl, q⟩
    · have k : (if i < 0 then (i + ((its.toArray.size : Nat) : Int)).toNat else min i.toNat its.toArray.size) = i.toNat := by
        rw [if_neg (by omega), List.size_toArray]
        omega
      show ((its.toArray.extract 0 _).push u' ++ its.toArray.extract _) = _
      rw [k]
      apply Array.toList_inj.mp
      simp
      exact List.take_of_length_le (by rw [List.length_drop]; exact Nat.le_refl _)
    · rw [List.length_append, List.length_cons, List.length_take, List.length_drop]
      have : 1001 ≤ sizeLine := by decide
      omega
end
end L2
namespace L2
open PySem PySem.Spec PyProof.Rows
section
variable {κ : Type} [DecidableEq κ]
def valV (kvs : List (κ × V)) (k : κ) : Option V := (kvs.find? fun kv => decide (kv.1 = k)).map (·.2)
def putK (kvs : List (κ × V)) (k : κ) (v : V) : List (κ × V) :=
  if (kvs.any fun kv => decide (kv.1 = k)) = true then kvs.map (fun kv => if kv.1 = k then (kv.1, v) else kv) else kvs ++ [(k, v)]
def dropK (kvs : List (κ × V)) (k : κ) : List (κ × V) := kvs.filter fun kv => decide (kv.1 ≠ k)
theorem valV_pos {p : κ × V} {r : List (κ × V)} {k : κ} (e : p.1 = k) : valV (p :: r) k = some p.2 := by simp [valV, List.find?_cons, e]
theorem valV_neg {p : κ × V} {r : List (κ × V)} {k : κ} (e : ¬ p.1 = k) : valV (p :: r) k = valV r k := by simp [valV, List.find?_cons, e]
theorem valV_any (k : κ) : ∀ kvs : List (κ × V), (kvs.any fun kv => decide (kv.1 = k)) = (valV kvs k).isSome
  | [] => rfl
  | p :: r => by
    rw [List.any_cons]
    by_cases e : p.1 = k
    · simp only [valV_pos e, decide_eq_true e, Bool.true_or, Option.isSome_some]
    · rw [valV_neg e, decide_eq_false e, Bool.false_or]; exact valV_any k r
theorem RelO.isSome_eq {o : Option V} {u : Option Value} (r : RelO o u) : o.isSome = u.isSome := by
  cases o with
  | none => cases u with
    | none => rfl
    | some _ => exact (show False from r).elim
  | some _ => cases u with
    | none => exact (show False from r).elim
    | some _ => rfl
theorem RelO.getD {o : Option V} {u : Option Value} {d : V} {d' : Value} (r : RelO o u) (rd : RelV d d') : RelV (o.getD d) (u.getD d') := by
  cases o with
  | none => cases u with
    | none => exact rd
    | some _ => exact (show False from r).elim
  | some _ => cases u with
    | none => exact (show False from r).elim
    | some _ => exact r
theorem KV.val {kvs : List (κ × V)} {vs : List (κ × Value)} (r : KV kvs vs) (k : κ) : RelO (valV kvs k) (valueAt vs k) := by
  unfold KV at r
  induction r with
  | nil => exact True.intro
  | @cons p q ps qs h t ih =>
    obtain ⟨h1, h2⟩ := h
    by_cases e : p.1 = k
    · have e' : q.1 = k := h1.symm.trans e
      have b : valueAt (q :: qs) k = some q.2 := by simp [valueAt, List.find?_cons, e']
      rw [valV_pos e, b]; exact h2
    · have e' : ¬ q.1 = k := fun z => e (h1.trans z)
      have b : valueAt (q :: qs) k = valueAt qs k := by simp [valueAt, List.find?_cons, e']
      rw [valV_neg e, b]; exact ih
theorem KV.any {kvs : List (κ × V)} {vs : List (κ × Value)} (r : KV kvs vs) (k : κ) : (kvs.any fun kv => decide (kv.1 = k)) = vs.any fun kv => decide (kv.1 = k) := by
  unfold KV at r
  induction r with
  | nil => rfl
  | cons h t ih => rw [List.any_cons, List.any_cons, ih, h.1]
theorem KV.repl {kvs : List (κ × V)} {vs : List (κ × Value)} (r : KV kvs vs) (k : κ) {y : V} {u : Value} (ry : RelV y u) :
    KV (kvs.map fun kv => if kv.1 = k then (kv.1, y) else kv) (vs.map fun kv => if kv.1 = k then (kv.1, u) else kv) := by
  unfold KV at r ⊢
  induction r with
  | nil => exact .nil
  | @cons p q ps qs h t ih =>
    rw [List.map_cons, List.map_cons]
    refine .cons ?_ ih
    obtain ⟨h1, h2⟩ := h
    by_cases e : p.1 = k
    · rw [if_pos e, if_pos (h1.symm.trans e)]; exact ⟨h1, ry⟩
    · rw [if_neg e, if_neg (fun z => e (h1.trans z))]; exact ⟨h1, h2⟩
theorem KV.put {kvs : List (κ × V)} {vs : List (κ × Value)} (r : KV kvs vs) (k : κ) {y : V} {u : Value} (ry : RelV y u) : KV (putK kvs k y) (stored vs k u) := by
  unfold putK stored
  rw [r.any k]
  by_cases e : (vs.any fun kv => decide (kv.1 = k)) = true
  · rw [if_pos e, if_pos e]; exact r.repl k ry
  · rw [if_neg e, if_neg e]; exact Paired.snoc r ⟨rfl, ry⟩
theorem KV.drop {kvs : List (κ × V)} {vs : List (κ × Value)} (r : KV kvs vs) (k : κ) : KV (dropK kvs k) (without vs k) := by
  unfold KV at r ⊢
  unfold dropK without
  induction r with
  | nil => exact .nil
  | @cons p q ps qs h t ih =>
    obtain ⟨h1, h2⟩ := h
    rw [List.filter_cons, List.filter_cons]
    by_cases e : p.1 = k
    · have a : ¬ decide (p.1 ≠ k) = true := by simp [e]
      have b : ¬ decide (q.1 ≠ k) = true := by simp [h1.symm.trans e]
      rw [if_neg a, if_neg b]; exact ih
    · have e' : ¬ q.1 = k := fun z => e (h1.trans z)
      have a : decide (p.1 ≠ k) = true := by simp [e]
      have b : decide (q.1 ≠ k) = true := by simp [e']
      rw [if_pos a, if_pos b]; exact .cons ⟨h1, h2⟩ ih
theorem KV.keys {kvs : List (κ × V)} {vs : List (κ × Value)} (r : KV kvs vs) : kvs.map (·.1) = vs.map (·.1) := by
  unfold KV at r
  induction r with
  | nil => rfl
  | cons h t ih => rw [List.map_cons, List.map_cons, ih, h.1]
theorem KV.length {kvs : List (κ × V)} {vs : List (κ × Value)} (r : KV kvs vs) : kvs.length = vs.length := Paired.length r
end
abbrev KT (H : Hp) : List (List Key × V) → List (List Key × Addr × Value) → Prop := Paired fun p q => p.1 = q.1 ∧ H q.2.1 = some (.tup (p.1.map kV)) ∧ RelV p.2 q.2.2
theorem KT.val {H : Hp} {kvs : List (List Key × V)} {xs : List (List Key × Addr × Value)} (r : KT H kvs xs) (k : List Key) : RelO (valV kvs k) ((atKey xs k).map (·.2)) := by
  induction r with
  | nil => exact True.intro
  | @cons p q ps qs h t ih =>
    obtain ⟨h1, _, h2⟩ := h
    by_cases e : p.1 = k
    · have e' : q.1 = k := h1.symm.trans e
      have b : atKey (q :: qs) k = some q.2 := by simp [atKey, List.find?_cons, e']
      rw [valV_pos e, b]; exact h2
    · have e' : ¬ q.1 = k := fun z => e (h1.trans z)
      have b : atKey (q :: qs) k = atKey qs k := by simp [atKey, List.find?_cons, e']
      rw [valV_neg e, b]; exact ih
theorem KT.repl {H : Hp} {kvs : List (List Key × V)} {xs : List (List Key × Addr × Value)} (r : KT H kvs xs) (k : List Key) {y : V} {u : Value} (ry : RelV y u) :
    KT H (kvs.map fun kv => if kv.1 = k then (kv.1, y) else kv) (xs.map (putAt k u)) := by
  induction r with
  | nil => exact .nil
  | @cons p q ps qs h t ih =>
    rw [List.map_cons, List.map_cons]
    refine .cons ?_ ih
    obtain ⟨h1, h2, h3⟩ := h
    unfold putAt
    by_cases e : p.1 = k
    · rw [if_pos e, if_pos (h1.symm.trans e)]; exact ⟨h1, h2, ry⟩
    · rw [if_neg e, if_neg (fun z => e (h1.trans z))]; exact ⟨h1, h2, h3⟩
theorem KT.put {H : Hp} {kvs : List (List Key × V)} {xs : List (List Key × Addr × Value)} (r : KT H kvs xs) (k : List Key) {b : Addr} {y : V} {u : Value} (hb : H b = some (.tup (k.map kV))) (ry : RelV y u) :
    KT H (putK kvs k y) (storedH xs k b u) := by
  have e : (kvs.any fun kv => decide (kv.1 = k)) = (atKey xs k).isSome := by
    rw [valV_any, (r.val k).isSome_eq, Option.isSome_map]
  unfold putK storedH
  rw [e]
  by_cases q : (atKey xs k).isSome = true
  · rw [if_pos q, if_pos q]; exact r.repl k ry
  · rw [if_neg q, if_neg q]; exact Paired.snoc r ⟨rfl, hb, ry⟩
theorem KT.keeps {H H' : Hp} {kvs : List (List Key × V)} {xs : List (List Key × Addr × Value)} (r : KT H kvs xs) (ht : ∀ b ys, H b = some (.tup ys) → H' b = some (.tup ys)) : KT H' kvs xs :=
  Paired.mapP r fun _ _ z => ⟨z.1, ht _ _ z.2.1, z.2.2⟩
section
variable {P : Program} {w : World} {H : Hp} {h : Heap} {a : Addr}
end
def DGet (H : Hp) (a : Addr) (y : V) (r : Option V) : Prop :=
  (∃ kvs k, Rd H a (.dK kvs) ∧ y = kV k ∧ r = valV kvs k) ∨ ∃ kvs k b, Rd H a (.dT kvs) ∧ y = .ref b ∧ H b = some (.tup (k.map kV)) ∧ r = valV kvs k
def DPut (H : Hp) (a : Addr) (y v : V) (H' : Hp) : Prop :=
  (∃ kvs k, H a = some (.dK kvs) ∧ y = kV k ∧ kvs.length < sizeLine ∧ H' = upd H a (.dK (putK kvs k v))) ∨
  ∃ kvs k b, H a = some (.dT kvs) ∧ y = .ref b ∧ H b = some (.tup (k.map kV)) ∧ kvs.length < sizeLine ∧ H' = upd H a (.dT (putK kvs k v))
theorem DGet.k {H : Hp} {a : Addr} {kvs : List (Key × V)} {k : Key} (e : H a = some (.dK kvs)) : DGet H a (kV k) (valV kvs k) := .inl ⟨kvs, k, .inl e, rfl, rfl⟩
theorem DGet.t {H : Hp} {a b : Addr} {kvs : List (List Key × V)} {k : List Key} (e : H a = some (.dT kvs)) (eb : H b = some (.tup (k.map kV))) : DGet H a (.ref b) (valV kvs k) := .inr ⟨kvs, k, b, .inl e, rfl, eb, rfl⟩
theorem DPut.k {H : Hp} {a : Addr} {kvs : List (Key × V)} {k : Key} {v : V} (e : H a = some (.dK kvs)) (hl : kvs.length < sizeLine) : DPut H a (kV k) v (upd H a (.dK (putK kvs k v))) := .inl ⟨kvs, k, e, rfl, hl, rfl⟩
theorem DPut.t {H : Hp} {a b : Addr} {kvs : List (List Key × V)} {k : List Key} {v : V} (e : H a = some (.dT kvs)) (eb : H b = some (.tup (k.map kV))) (hl : kvs.length < sizeLine) :
    DPut H a (.ref b) v (upd H a (.dT (putK kvs k v))) := .inr ⟨kvs, k, b, e, rfl, eb, hl, rfl⟩
section
variable {X : Cx} {pins : List (Addr × Obj)} {σ : St} {H : Hp} {s : Shared} {a : Addr} {y v : V} {u r : Value} {o : Option V} {A : Around} {E : Value → Shared → Prop}
end
section
variable {X : Cx} {pins : List (Addr × Obj)} {σ : St} {H : Hp} {s : Shared} {a : Addr} {kvs : List (Key × V)} {k : Key} {u : Value} {A : Around} {E : Value → Shared → Prop}
end
section
variable {X : Cx} {o i e value : Expr} {pos pos' tpos : Pos} {td ty tv : TE}
end
section
variable {X : Cx} {pos : Pos}
end
structure M1 (X : Cx) (o : Expr) (m : Str) (apos : Pos) (e : Expr) (cpos : Pos) : Prop where
  base : attributeBase o m X.env (eval o X.env) = eval o X.env
  few : ((backTo cpos (starEach [e] X.env)).all (fun x => !x.1) && (backToKw cpos (keywordEach [] X.env)).all (fun x => x.1.isSome)
    && decide (([e] : List Expr).length + ([] : List Keyword).length + (if ([] : List Keyword).isEmpty then 0 else 1) < 30)) = true
  line : (apos.endLine == cpos.line) = true
  trees : backTo cpos (starEach [e] X.env) = [(false, eval e X.env)]
structure M2 (X : Cx) (o : Expr) (m : Str) (apos : Pos) (e f : Expr) (cpos : Pos) : Prop where
  base : attributeBase o m X.env (eval o X.env) = eval o X.env
  few : ((backTo cpos (starEach [e, f] X.env)).all (fun x => !x.1) && (backToKw cpos (keywordEach [] X.env)).all (fun x => x.1.isSome)
    && decide (([e, f] : List Expr).length + ([] : List Keyword).length + (if ([] : List Keyword).isEmpty then 0 else 1) < 30)) = true
  line : (apos.endLine == cpos.line) = true
  trees : backTo cpos (starEach [e, f] X.env) = [(false, eval e X.env), (false, eval f X.env)]
section
variable {X : Cx} {pins : List (Addr × Obj)} {σ : St} {H : Hp} {s : Shared} {a : Addr} {y d : V} {u r : Value} {o : Option V} {A : Around} {E : Value → Shared → Prop}
end
section
variable {X : Cx} {o e f : Expr} {apos cpos : Pos} {td ty tx : TE}
end
section
variable {X : Cx} {pins : List (Addr × Obj)} {σ : St} {H : Hp} {s : Shared} {a : Addr} {kvs : List (Key × V)} {A : Around} {E : Value → Shared → Prop}
end
section
variable {X : Cx} {pins : List (Addr × Obj)} {σ : St} {H : Hp} {s : Shared} {a : Addr} {y : V} {u : Value} {A : Around} {E : Value → Shared → Prop}
end
end L2
namespace L2
open PySem PyProof.Rows
section
variable {pr : Program} {wo : World} {Ar : Around} {Ex : Value → Shared → Prop} {sh : Shared}
end
section
variable {X : Cx} {pins : List (Addr × Obj)} {σ : St} {H : Hp} {s : Shared} {h' : Heap}
end
section
variable {X : Cx}
end
end L2
namespace L2
open PySem PyProof.Rows
section
variable {X : Cx} {e st : Expr} {te ts : TE} {p2 pos : Pos}
end
end L2
namespace Wm
open PySem
theorem cut_inj {c : Nat} : ∀ {x y a b : List Nat}, c ∉ x → c ∉ y → x ++ c :: a = y ++ c :: b → x = y ∧ a = b
  | [], [], a, b, _, _, h => ⟨rfl, by simpa using h⟩
  | [], y :: ys, a, b, _, hy, h => by
    exfalso
    simp only [List.nil_append, List.cons_append, List.cons.injEq] at h
    exact hy (by rw [← h.1]; exact List.mem_cons_self)
  | x :: xs, [], a, b, hx, _, h => by
    exfalso
    simp only [List.nil_append, List.cons_append, List.cons.injEq] at h
    exact hx (by rw [h.1]; exact List.mem_cons_self)
  | x :: xs, y :: ys, a, b, hx, hy, h => by
    simp only [List.cons_append, List.cons.injEq] at h
    obtain ⟨h1, h2⟩ := h
    obtain ⟨e1, e2⟩ := cut_inj (fun z => hx (List.mem_cons_of_mem _ z)) (fun z => hy (List.mem_cons_of_mem _ z)) h2
    exact ⟨by rw [h1, e1], e2⟩
def jl (c : Nat) : List (List Nat) → List Nat
  | [] => []
  | [x] => x
  | x :: y :: r => x ++ c :: jl c (y :: r)
theorem jl_inj {c : Nat} : ∀ {xs ys : List (List Nat)}, xs ≠ [] → ys ≠ [] → (∀ x ∈ xs, c ∉ x) → (∀ y ∈ ys, c ∉ y) → jl c xs = jl c ys → xs = ys
  | [], _, h, _, _, _, _ => absurd rfl h
  | _, [], _, h, _, _, _ => absurd rfl h
  | [x], [y], _, _, _, _, h => by
    have h' : x = y := h
    rw [h']
  | [x], y :: z :: r, _, _, hx, _, h => by
    exfalso
    have h' : x = y ++ c :: jl c (z :: r) := h
    exact hx x List.mem_cons_self (by rw [h']; simp)
  | x :: z :: r, [y], _, _, _, hy, h => by
    exfalso
    have h' : x ++ c :: jl c (z :: r) = y := h
    exact hy y List.mem_cons_self (by rw [← h']; simp)
  | x :: z :: r, y :: z' :: r', _, _, hx, hy, h => by
    have h' : x ++ c :: jl c (z :: r) = y ++ c :: jl c (z' :: r') := h
    obtain ⟨e1, e2⟩ := cut_inj (hx x List.mem_cons_self) (hy y List.mem_cons_self) h'
    rw [e1, jl_inj (by simp) (by simp) (fun q hq => hx q (List.mem_cons_of_mem _ hq)) (fun q hq => hy q (List.mem_cons_of_mem _ hq)) e2]
theorem join_toList (c : Nat) : ∀ ws : List Str, (Str.join ⟨#[c]⟩ ws).cps.toList = jl c (ws.map fun w => w.cps.toList)
  | [] => rfl
  | [x] => rfl
  | x :: y :: r => by
    have ih := join_toList c (y :: r)
    show (x ++ (⟨#[c]⟩ : Str) ++ Str.join ⟨#[c]⟩ (y :: r)).cps.toList = x.cps.toList ++ c :: jl c ((y :: r).map fun w => w.cps.toList)
    rw [← ih]
    show ((x.cps ++ #[c]) ++ (Str.join ⟨#[c]⟩ (y :: r)).cps).toList = _
    simp
theorem toList_inj {xs ys : List Str} (h : (xs.map fun w => w.cps.toList) = (ys.map fun w => w.cps.toList)) : xs = ys := by
  induction xs generalizing ys with
  | nil => cases ys with
    | nil => rfl
    | cons y r => simp at h
  | cons x r ih => cases ys with
    | nil => simp at h
    | cons y s =>
      simp only [List.map_cons, List.cons.injEq] at h
      have e : x = y := by
        obtain ⟨a⟩ := x
        obtain ⟨b⟩ := y
        have h1 : a.toList = b.toList := h.1
        rw [Array.toList_inj.mp h1]
      rw [e, ih h.2]
theorem split_ne (x y : Str) : Txt.split x y ≠ [] := by
  unfold Txt.split
  split
  · simp
  · split
    · simp
    · unfold Builtin.Str.partsBetween
      cases Builtin.Str.occurrences x y 0 x.length (x.length + 1) <;> simp
theorem split_join {c : Nat} {ws : List Str} (hne : ws ≠ []) (hf : ∀ w ∈ ws, c ∉ w.cps.toList) : Txt.split (Str.join ⟨#[c]⟩ ws) ⟨#[c]⟩ = ws := by
  refine toList_inj (jl_inj (c := c) (by simpa using split_ne _ _) (by simpa using hne) (fun x hx => ?_) (fun x hx => ?_) ?_)
  · obtain ⟨w, hw, rfl⟩ := List.mem_map.mp hx
    exact StrLaws.split_free _ c w hw
  · obtain ⟨w, hw, rfl⟩ := List.mem_map.mp hx
    exact hf w hw
  · rw [← join_toList, ← join_toList, StrLaws.join_split]
theorem join_len (s : Str) : ∀ ws : List Str, (Str.join s ws).length ≤ (ws.map (·.length)).sum + ws.length * s.length
  | [] => Nat.zero_le _
  | [x] => by
    show x.length ≤ _
    simp only [List.map_cons, List.map_nil, List.sum_cons, List.sum_nil, List.length_singleton]
    omega
  | x :: y :: r => by
    have ih := join_len s (y :: r)
    show (x ++ s ++ Str.join s (y :: r)).length ≤ _
    rw [Str.length_append, Str.length_append]
    simp only [List.map_cons, List.sum_cons, List.length_cons, Nat.add_mul, Nat.one_mul] at ih ⊢
    omega
theorem join_cons (s x : Str) {r : List Str} (h : r ≠ []) : Str.join s (x :: r) = x ++ s ++ Str.join s r := by
  cases r with
  | nil => exact absurd rfl h
  | cons y r => rfl
theorem join_app (s : Str) : ∀ {xs ys : List Str}, xs ≠ [] → ys ≠ [] → Str.join s (xs ++ ys) = Str.join s xs ++ s ++ Str.join s ys
  | [], _, h, _ => absurd rfl h
  | [x], ys, _, h => by rw [List.singleton_append, join_cons s x h]; rfl
  | x :: y :: r, ys, _, h => by
    have ih := join_app s (xs := y :: r) (by simp) h
    rw [List.cons_append, join_cons s x (by simp), ih, join_cons s x (by simp)]
    simp only [Str.append_assoc]
inductive Wh where
  | all | self | mine | mark (n : Str) | force (i : Nat) | not (a : Wh) | both (a b : Wh) | any (a b : Wh)
def Wh.word : Wh → Str
  | .all => "all"
  | .self => "self"
  | .mine => "mine"
  | .mark _ => "mark"
  | .force _ => "force"
  | .not _ => "not"
  | .both _ _ => "both"
  | .any _ _ => "any"
inductive Wv where
  | non | name (n : Str) | num (i : Nat)
def Wh.val : Wh → Wv
  | .mark n => .name n
  | .force i => .num i
  | _ => .non
def Wh.parts : Wh → List Wh
  | .not a => [a]
  | .both a b => [a, b]
  | .any a b => [a, b]
  | _ => []
def Wv.words : Wv → List Str
  | .non => []
  | .name n => [n]
  | .num i => [toString (i : Int)]
def Wh.words : Wh → List Str
  | .all => ["all"]
  | .self => ["self"]
  | .mine => ["mine"]
  | .mark n => ["mark", n]
  | .force i => ["force", toString (i : Int)]
  | .not a => "not" :: a.words
  | .both a b => "both" :: (a.words ++ b.words)
  | .any a b => "any" :: (a.words ++ b.words)
def Wh.size : Wh → Nat
  | .not a => a.size + 1
  | .both a b => a.size + b.size + 1
  | .any a b => a.size + b.size + 1
  | _ => 1
theorem Wh.words_eq (w : Wh) : w.words = w.word :: (w.val.words ++ (w.parts.map Wh.words).flatten) := by
  cases w <;> simp [Wh.words, Wh.word, Wh.val, Wv.words, Wh.parts]
theorem Wh.words_ne (w : Wh) : w.words ≠ [] := by
  rw [w.words_eq]
  simp
theorem Wh.size_eq (w : Wh) : w.size = 1 + (w.parts.map Wh.size).sum := by
  cases w <;> simp [Wh.size, Wh.parts] <;> omega
theorem Wh.size_pos (w : Wh) : 0 < w.size := by
  rw [w.size_eq]
  omega
def Wh.flat : Wh → List (Str × Wv)
  | .not a => ("not", .non) :: a.flat
  | .both a b => ("both", .non) :: (a.flat ++ b.flat)
  | .any a b => ("any", .non) :: (a.flat ++ b.flat)
  | w => [(w.word, w.val)]
theorem Wh.flat_eq (w : Wh) : w.flat = (w.word, w.val) :: (w.parts.map Wh.flat).flatten := by
  cases w <;> simp [Wh.flat, Wh.word, Wh.val, Wh.parts]
theorem Wh.flat_len (w : Wh) : w.flat.length = w.size := by
  induction w <;> simp [Wh.flat, Wh.size, *]
def flatF (ws : List Wh) : List (Str × Wv) := (ws.map Wh.flat).flatten
def wordsF (ws : List Wh) : List Str := (ws.map Wh.words).flatten
def sizeF (ws : List Wh) : Nat := (ws.map Wh.size).sum
theorem flatF_cons (w : Wh) (ws : List Wh) : flatF (w :: ws) = (w.word, w.val) :: flatF (w.parts ++ ws) := by
  unfold flatF
  rw [List.map_cons, List.flatten_cons, w.flat_eq, List.map_append, List.flatten_append]
  rfl
theorem wordsF_cons (w : Wh) (ws : List Wh) : wordsF (w :: ws) = w.word :: (w.val.words ++ wordsF (w.parts ++ ws)) := by
  unfold wordsF
  rw [List.map_cons, List.flatten_cons, w.words_eq, List.map_append, List.flatten_append]
  simp
theorem sizeF_cons (w : Wh) (ws : List Wh) : sizeF (w :: ws) = 1 + sizeF (w.parts ++ ws) := by
  unfold sizeF
  rw [List.map_cons, List.sum_cons, w.size_eq, List.map_append, List.sum_append]
  omega
theorem sizeF_pos {ws : List Wh} (h : ws ≠ []) : 0 < sizeF ws := by
  cases ws with
  | nil => exact absurd rfl h
  | cons w r => rw [sizeF_cons]; omega
def NameOk (n : Str) : Prop := 1 ≤ n.length ∧ n.length ≤ 8 ∧ ∀ c ∈ n.cps.toList, 97 ≤ c ∧ c ≤ 122
def Wh.ok : Wh → Prop
  | .mark n => NameOk n
  | .force i => i < 1000
  | .not a => a.ok
  | .both a b => a.ok ∧ b.ok
  | .any a b => a.ok ∧ b.ok
  | _ => True
theorem Wh.ok_parts {w : Wh} (h : w.ok) : ∀ p ∈ w.parts, p.ok := by
  cases w with
  | not a =>
    intro p hp
    have e : p = a := by simpa [Wh.parts] using hp
    rw [e]; exact h
  | both a b =>
    intro p hp
    have e : p = a ∨ p = b := by simpa [Wh.parts] using hp
    rcases e with e | e <;> rw [e]
    · exact h.1
    · exact h.2
  | any a b =>
    intro p hp
    have e : p = a ∨ p = b := by simpa [Wh.parts] using hp
    rcases e with e | e <;> rw [e]
    · exact h.1
    · exact h.2
  | _ => intro p hp; simp [Wh.parts] at hp
theorem num_plain : ∀ i : Nat, i < 1000 → ∀ c ∈ (toString (i : Int) : Str).cps.toList, 48 ≤ c ∧ c ≤ 57 := by decide +kernel
theorem num_len : ∀ i : Nat, i < 1000 → 1 ≤ (toString (i : Int) : Str).length ∧ (toString (i : Int) : Str).length ≤ 3 := by decide +kernel
def WordOk (u : Str) : Prop := 32 ∉ u.cps.toList ∧ 1 ≤ u.length ∧ u.length ≤ 8
theorem name_word {n : Str} (h : NameOk n) : WordOk n := ⟨fun z => absurd (h.2.2 32 z).1 (by decide), h.1, h.2.1⟩
theorem num_word {i : Nat} (h : i < 1000) : WordOk (toString (i : Int) : Str) := by
  have q := num_len i h
  exact ⟨fun z => absurd (num_plain i h 32 z).1 (by decide), q.1, by omega⟩
theorem Wh.word_ok (w : Wh) : WordOk w.word := by
  have h : ∀ u ∈ (["all", "self", "mine", "mark", "force", "not", "both", "any"] : List Str), 32 ∉ u.cps.toList ∧ 1 ≤ u.length ∧ u.length ≤ 8 := by decide +kernel
  refine h _ ?_
  cases w <;> simp [Wh.word]
theorem Wh.words_ok {w : Wh} (h : w.ok) : ∀ u ∈ w.words, WordOk u := by
  induction w with
  | not a ih =>
    intro u hu
    rcases List.mem_cons.mp hu with e | e
    · rw [e]; exact Wh.word_ok (.not a)
    · exact ih h u e
  | both a b iha ihb =>
    intro u hu
    rcases List.mem_cons.mp hu with e | e
    · rw [e]; exact Wh.word_ok (.both a b)
    · rcases List.mem_append.mp e with e | e
      · exact iha h.1 u e
      · exact ihb h.2 u e
  | any a b iha ihb =>
    intro u hu
    rcases List.mem_cons.mp hu with e | e
    · rw [e]; exact Wh.word_ok (.any a b)
    · rcases List.mem_append.mp e with e | e
      · exact iha h.1 u e
      · exact ihb h.2 u e
  | mark n =>
    intro u hu
    have e : u = "mark" ∨ u = n := by simpa [Wh.words] using hu
    rcases e with e | e <;> rw [e]
    · exact Wh.word_ok (.mark n)
    · exact name_word h
  | force i =>
    intro u hu
    have e : u = "force" ∨ u = toString (i : Int) := by simpa [Wh.words] using hu
    rcases e with e | e <;> rw [e]
    · exact Wh.word_ok (.force i)
    · exact num_word h
  | all => intro u hu; have e : u = "all" := by simpa [Wh.words] using hu
           rw [e]; exact Wh.word_ok .all
  | self => intro u hu; have e : u = "self" := by simpa [Wh.words] using hu
            rw [e]; exact Wh.word_ok .self
  | mine => intro u hu; have e : u = "mine" := by simpa [Wh.words] using hu
            rw [e]; exact Wh.word_ok .mine
theorem Wh.words_len (w : Wh) : w.words.length ≤ 2 * w.size := by
  induction w <;> simp [Wh.words, Wh.size] <;> omega
theorem sum_le {l : List Nat} {k : Nat} (h : ∀ x ∈ l, x ≤ k) : l.sum ≤ l.length * k := by
  induction l with
  | nil => simp
  | cons x r ih =>
    have a := h x List.mem_cons_self
    have b := ih fun y hy => h y (List.mem_cons_of_mem _ hy)
    rw [List.sum_cons, List.length_cons, Nat.add_mul, Nat.one_mul]
    omega
def step : List Wh → List Wh
  | [] => []
  | h :: t => h.parts ++ t
def pend (w : Wh) : Nat → List Wh
  | 0 => [w]
  | j + 1 => step (pend w j)
theorem flatF_one (w : Wh) : flatF [w] = w.flat := by simp [flatF]
theorem wordsF_one (w : Wh) : wordsF [w] = w.words := by simp [wordsF]
theorem pend_flat (w : Wh) : ∀ j, flatF (pend w j) = w.flat.drop j
  | 0 => by rw [List.drop_zero]; exact flatF_one w
  | j + 1 => by
    have ih := pend_flat w j
    show flatF (step (pend w j)) = _
    cases e : pend w j with
    | nil =>
      rw [e] at ih
      have z : w.flat.drop j = [] := ih.symm
      rw [← List.drop_drop (i := 1), z]
      rfl
    | cons h t =>
      rw [e, flatF_cons] at ih
      show flatF (h.parts ++ t) = _
      have z := congrArg (List.drop 1) ih
      rw [List.drop_drop] at z
      simpa using z
theorem pend_size (w : Wh) (j : Nat) : sizeF (pend w j) = w.size - j := by
  have a : ∀ ws : List Wh, (flatF ws).length = sizeF ws := by
    intro ws
    induction ws with
    | nil => rfl
    | cons x r ih =>
      have e1 : flatF (x :: r) = x.flat ++ flatF r := by simp [flatF]
      have e2 : sizeF (x :: r) = x.size + sizeF r := by simp [sizeF]
      rw [e1, e2, List.length_append, x.flat_len, ih]
  rw [← a, pend_flat, List.length_drop, w.flat_len]
theorem pend_ne {w : Wh} {j : Nat} (h : j < w.size) : ∃ x t, pend w j = x :: t := by
  cases e : pend w j with
  | nil =>
    have z := pend_size w j
    rw [e] at z
    have z' : 0 = w.size - j := z
    omega
  | cons x t => exact ⟨x, t, rfl⟩
theorem pend_end (w : Wh) : pend w w.size = [] := by
  cases e : pend w w.size with
  | nil => rfl
  | cons x t =>
    have z := pend_size w w.size
    rw [e] at z
    have p := sizeF_pos (ws := x :: t) (by simp)
    omega
theorem pend_at {w x : Wh} {t : List Wh} {j : Nat} (e : pend w j = x :: t) : w.flat[j]? = some (x.word, x.val) := by
  have z := pend_flat w j
  rw [e, flatF_cons] at z
  have q : (w.flat.drop j)[0]? = some (x.word, x.val) := by rw [← z]; rfl
  rw [List.getElem?_drop] at q
  simpa using q
theorem pend_ok {w : Wh} (h : w.ok) : ∀ j, ∀ x ∈ pend w j, x.ok
  | 0 => fun x hx => by
    have e : x = w := by simpa [pend] using hx
    rw [e]; exact h
  | j + 1 => fun x hx => by
    have ih := pend_ok h j
    cases e : pend w j with
    | nil =>
      have hx' : x ∈ step (pend w j) := hx
      rw [e] at hx'
      simp [step] at hx'
    | cons y t =>
      have hx' : x ∈ step (pend w j) := hx
      rw [e] at hx' ih
      rcases List.mem_append.mp hx' with q | q
      · exact Wh.ok_parts (ih y List.mem_cons_self) x q
      · exact ih x (List.mem_cons_of_mem _ q)
def Wh.depth : Wh → Nat
  | .not a => a.depth + 1
  | .both a b => max a.depth b.depth + 1
  | .any a b => max a.depth b.depth + 1
  | _ => 1
end Wm
namespace Wm
open PySem
def plain (w : Wh) : Prop := w.ok ∧ w.size ≤ 9
structure Deed where
  each : Str
  kind : Str
  amt : Wv
  whom : Wh
def eaches : List Str := ["each", "one"]
def deedKinds : List Str := ["leave", "hurt", "gain", "lack", "lose", "score", "draw"]
def whenKinds : List Str := ["come", "leave", "hurt", "gain", "lack", "lose", "score", "draw"]
def playerKinds : List Str := ["lose", "score", "draw"]
def changes : List Str := ["mute", "steal", "gain", "lack", "be", "more", "less", "per"]
def sorts : List Str := ["hold", "when", "instead", "may"]
inductive AmtOk : Str → Wv → Prop
  | leave : AmtOk "leave" .non
  | gain {n : Str} : NameOk n → AmtOk "gain" (.name n)
  | lack {n : Str} : NameOk n → AmtOk "lack" (.name n)
  | hurt {i : Nat} : i < 1000 → AmtOk "hurt" (.num i)
  | lose {i : Nat} : i < 1000 → AmtOk "lose" (.num i)
  | score {i : Nat} : i < 1000 → AmtOk "score" (.num i)
  | draw {i : Nat} : i < 1000 → AmtOk "draw" (.num i)
structure Deed.ok (d : Deed) : Prop where
  each : d.each ∈ eaches
  amt : AmtOk d.kind d.amt
  whom : plain d.whom
def Deed.words (d : Deed) : List Str := d.each :: d.kind :: (d.amt.words ++ d.whom.words)
inductive Hv where
  | v (x : Wv) | w (y : Wh)
def Hv.words : Hv → List Str
  | .v x => x.words
  | .w y => y.words
inductive HoldOk : Str → Hv → Prop
  | mute : HoldOk "mute" (.v .non)
  | steal : HoldOk "steal" (.v .non)
  | gain {n : Str} : NameOk n → HoldOk "gain" (.v (.name n))
  | lack {n : Str} : NameOk n → HoldOk "lack" (.v (.name n))
  | be {i : Nat} : i < 1000 → HoldOk "be" (.v (.num i))
  | more {i : Nat} : i < 1000 → HoldOk "more" (.v (.num i))
  | less {i : Nat} : i < 1000 → HoldOk "less" (.v (.num i))
  | per {y : Wh} : plain y → HoldOk "per" (.w y)
inductive TurnOk : Str → Wv → Prop
  | none : TurnOk "none" .non
  | here : TurnOk "here" .non
  | less {i : Nat} : i < 1000 → TurnOk "less" (.num i)
  | more {i : Nat} : i < 1000 → TurnOk "more" (.num i)
  | as {n : Str} : n ∈ playerKinds → TurnOk "as" (.name n)
def turns : Str → List Str := fun k =>
  if k = "leave" then ["none", "here"] else if k = "hurt" then ["none", "here", "less", "more"] else if k = "gain" then ["none", "here"] else if k = "lack" then ["none", "here"]
  else ["none", "less", "more", "as"]
inductive Rule where
  | hold (word : Str) (val : Hv) (whom : Wh)
  | wen (kind : Str) (whom : Wh) (deed : Deed)
  | instead (kind : Str) (whom : Wh) (word : Str) (val : Wv)
  | may (cost : Nat) (deed : Deed)
def Rule.ok : Rule → Prop
  | .hold w v y => HoldOk w v ∧ plain y
  | .wen k y d => k ∈ whenKinds ∧ plain y ∧ d.ok
  | .instead k y w v => k ∈ deedKinds ∧ plain y ∧ w ∈ turns k ∧ TurnOk w v
  | .may c d => c < 1000 ∧ d.ok
def Rule.words : Rule → List Str
  | .hold w v y => "hold" :: w :: (v.words ++ y.words)
  | .wen k y d => "when" :: k :: (y.words ++ ("do" : Str) :: d.words)
  | .instead k y w v => "instead" :: k :: (y.words ++ ("do" : Str) :: w :: v.words)
  | .may c d => "may" :: toString (c : Int) :: "do" :: d.words
theorem AmtOk.kind {k : Str} {v : Wv} (h : AmtOk k v) : k ∈ deedKinds := by cases h <;> decide
theorem HoldOk.word {k : Str} {v : Hv} (h : HoldOk k v) : k ∈ changes := by cases h <;> decide
theorem Rule.words_ne (r : Rule) : r.words ≠ [] := by cases r <;> exact List.cons_ne_nil _ _
def WordS (u : Str) : Prop := WordOk u ∧ 47 ∉ u.cps.toList
theorem name_S {n : Str} (h : NameOk n) : WordS n := ⟨name_word h, fun z => absurd (h.2.2 47 z).1 (by decide)⟩
theorem num_S {i : Nat} (h : i < 1000) : WordS (toString (i : Int) : Str) := ⟨num_word h, fun z => absurd (num_plain i h 47 z).1 (by decide)⟩
def goodW (u : Str) : Bool := !u.cps.toList.contains 32 && !u.cps.toList.contains 47 && decide (1 ≤ u.length) && decide (u.length ≤ 8)
theorem good_S {u : Str} (h : goodW u = true) : WordS u := by
  unfold goodW at h
  rw [Bool.and_eq_true, Bool.and_eq_true, Bool.and_eq_true] at h
  obtain ⟨⟨⟨a, b⟩, c⟩, d⟩ := h
  refine ⟨⟨fun z => ?_, of_decide_eq_true c, of_decide_eq_true d⟩, fun z => ?_⟩
  · rw [List.contains_iff_mem.mpr z] at a; cases a
  · rw [List.contains_iff_mem.mpr z] at b; cases b
theorem goods {l : List Str} (h : l.all goodW = true) {u : Str} (hu : u ∈ l) : WordS u := good_S (List.all_eq_true.mp h u hu)
theorem Wh.words_S {w : Wh} (h : w.ok) : ∀ u ∈ w.words, WordS u := by
  induction w with
  | all => intro u hu; exact goods (l := ["all"]) (by decide +kernel) hu
  | self => intro u hu; exact goods (l := ["self"]) (by decide +kernel) hu
  | mine => intro u hu; exact goods (l := ["mine"]) (by decide +kernel) hu
  | mark n =>
    intro u hu
    rcases List.mem_cons.mp hu with rfl | hu
    · exact good_S (by decide +kernel)
    · rw [List.mem_singleton.mp hu]; exact name_S h
  | force i =>
    intro u hu
    rcases List.mem_cons.mp hu with rfl | hu
    · exact good_S (by decide +kernel)
    · rw [List.mem_singleton.mp hu]; exact num_S h
  | not a ih =>
    intro u hu
    rcases List.mem_cons.mp hu with rfl | hu
    · exact good_S (by decide +kernel)
    · exact ih h u hu
  | both a b ia ib =>
    intro u hu
    rcases List.mem_cons.mp hu with rfl | hu
    · exact good_S (by decide +kernel)
    · rcases List.mem_append.mp hu with hu | hu
      · exact ia h.1 u hu
      · exact ib h.2 u hu
  | any a b ia ib =>
    intro u hu
    rcases List.mem_cons.mp hu with rfl | hu
    · exact good_S (by decide +kernel)
    · rcases List.mem_append.mp hu with hu | hu
      · exact ia h.1 u hu
      · exact ib h.2 u hu
theorem AmtOk.words {k : Str} {v : Wv} (h : AmtOk k v) : ∀ u ∈ v.words, WordS u := by
  intro u hu
  cases h with
  | leave => cases hu
  | gain h => rw [List.mem_singleton.mp hu]; exact name_S h
  | lack h => rw [List.mem_singleton.mp hu]; exact name_S h
  | hurt h => rw [List.mem_singleton.mp hu]; exact num_S h
  | lose h => rw [List.mem_singleton.mp hu]; exact num_S h
  | score h => rw [List.mem_singleton.mp hu]; exact num_S h
  | draw h => rw [List.mem_singleton.mp hu]; exact num_S h
theorem TurnOk.words {k : Str} {v : Wv} (h : TurnOk k v) : ∀ u ∈ v.words, WordS u := by
  intro u hu
  cases h with
  | none => cases hu
  | here => cases hu
  | less h => rw [List.mem_singleton.mp hu]; exact num_S h
  | more h => rw [List.mem_singleton.mp hu]; exact num_S h
  | as h => rw [List.mem_singleton.mp hu]; exact goods (l := playerKinds) (by decide +kernel) h
theorem TurnOk.word {k : Str} {v : Wv} (h : TurnOk k v) : WordS k := by cases h <;> exact good_S (by decide +kernel)
theorem HoldOk.words {k : Str} {v : Hv} (h : HoldOk k v) : ∀ u ∈ v.words, WordS u := by
  intro u hu
  cases h with
  | mute => cases hu
  | steal => cases hu
  | gain h => rw [List.mem_singleton.mp hu]; exact name_S h
  | lack h => rw [List.mem_singleton.mp hu]; exact name_S h
  | be h => rw [List.mem_singleton.mp hu]; exact num_S h
  | more h => rw [List.mem_singleton.mp hu]; exact num_S h
  | less h => rw [List.mem_singleton.mp hu]; exact num_S h
  | per h => exact Wh.words_S h.1 u hu
theorem Deed.words_S {d : Deed} (h : d.ok) : ∀ u ∈ d.words, WordS u := by
  intro u hu
  rcases List.mem_cons.mp hu with rfl | hu
  · exact goods (l := eaches) (by decide +kernel) h.each
  rcases List.mem_cons.mp hu with rfl | hu
  · exact goods (l := deedKinds) (by decide +kernel) h.amt.kind
  rcases List.mem_append.mp hu with hu | hu
  · exact h.amt.words u hu
  · exact Wh.words_S h.whom.1 u hu
theorem Rule.words_S {r : Rule} (h : r.ok) : ∀ u ∈ r.words, WordS u := by
  intro u hu
  cases r with
  | hold w v y =>
    rcases List.mem_cons.mp hu with rfl | hu
    · exact good_S (by decide +kernel)
    rcases List.mem_cons.mp hu with rfl | hu
    · exact goods (l := changes) (by decide +kernel) h.1.word
    rcases List.mem_append.mp hu with hu | hu
    · exact h.1.words u hu
    · exact Wh.words_S h.2.1 u hu
  | wen k y d =>
    rcases List.mem_cons.mp hu with rfl | hu
    · exact good_S (by decide +kernel)
    rcases List.mem_cons.mp hu with rfl | hu
    · exact goods (l := whenKinds) (by decide +kernel) h.1
    rcases List.mem_append.mp hu with hu | hu
    · exact Wh.words_S h.2.1.1 u hu
    rcases List.mem_cons.mp hu with rfl | hu
    · exact good_S (by decide +kernel)
    · exact Deed.words_S h.2.2 u hu
  | instead k y w v =>
    rcases List.mem_cons.mp hu with rfl | hu
    · exact good_S (by decide +kernel)
    rcases List.mem_cons.mp hu with rfl | hu
    · exact goods (l := deedKinds) (by decide +kernel) h.1
    rcases List.mem_append.mp hu with hu | hu
    · exact Wh.words_S h.2.1.1 u hu
    rcases List.mem_cons.mp hu with rfl | hu
    · exact good_S (by decide +kernel)
    rcases List.mem_cons.mp hu with rfl | hu
    · exact h.2.2.2.word
    · exact h.2.2.2.words u hu
  | may c d =>
    rcases List.mem_cons.mp hu with rfl | hu
    · exact good_S (by decide +kernel)
    rcases List.mem_cons.mp hu with rfl | hu
    · exact num_S h.1
    rcases List.mem_cons.mp hu with rfl | hu
    · exact good_S (by decide +kernel)
    · exact Deed.words_S h.2 u hu
end Wm
namespace Wm
open PySem PySem.StrLaws PySem.Builtin.Str
def SL : Str := ⟨#[32, 47, 32]⟩
theorem chain_uniq {s sub : Str} {hi : Nat} : ∀ {cuts cuts' : List Nat} {a f f' : Nat}, ChainG s sub hi a cuts f → (∀ k, f ≤ k → ¬ At s sub hi k) → ChainG s sub hi a cuts' f' → (∀ k, f' ≤ k → ¬ At s sub hi k) → cuts = cuts'
  | [], [], _, _, _, _, _, _, _ => rfl
  | [], c :: r, a, f, f', h, n, h', n' => by
    have e : f = a := h
    subst e
    exact absurd h'.2.1 (n c h'.1)
  | c :: r, [], a, f, f', h, n, h', n' => by
    have e : f' = a := h'
    subst e
    exact absurd h.2.1 (n' c h.1)
  | c :: r, c' :: r', a, f, f', h, n, h', n' => by
    rcases Nat.lt_trichotomy c c' with z | z | z
    · exact absurd h.2.1 (h'.2.2.1 c h.1 z)
    · subst z
      rw [chain_uniq h.2.2.2 n h'.2.2.2 n']
    · exact absurd h'.2.1 (h.2.2.1 c' h'.1 z)
theorem ext_list (x : Str) (a b : Nat) : (x.cps.extract a b).toList = (x.cps.toList.drop a).take (b - a) := by
  rw [Array.toList_extract, List.extract_eq_take_drop]
theorem at_mid {x : Str} {hi k : Nat} (h : At x SL hi k) : x.cps.toList[k + 1]? = some 47 := by
  have e : x.cps.extract k (k + 3) = #[32, 47, 32] := by
    have := h.2
    unfold subAt at this
    exact beq_iff_eq.mp this
  have q := congrArg (fun z => z.toList[1]?) e
  simp only [ext_list] at q
  rw [List.getElem?_take_of_lt (by omega), List.getElem?_drop] at q
  exact q
theorem at_of {x : Str} {pre r : List Nat} (e : x.cps.toList = pre ++ 32 :: 47 :: 32 :: r) : At x SL x.length pre.length := by
  have hl := congrArg List.length e
  rw [List.length_append] at hl
  simp only [List.length_cons, Array.length_toList] at hl
  refine ⟨?_, ?_⟩
  · show pre.length + 3 ≤ x.cps.size
    omega
  · unfold subAt
    rw [beq_iff_eq]
    apply Array.toList_inj.mp
    rw [ext_list, e, List.drop_left]
    show ((32 :: 47 :: 32 :: r : List Nat).take (pre.length + 3 - pre.length)) = [32, 47, 32]
    rw [Nat.add_sub_cancel_left]
    rfl
def jl3 : List (List Nat) → List Nat
  | [] => []
  | [p] => p
  | p :: q :: r => p ++ 32 :: 47 :: 32 :: jl3 (q :: r)
def cutsOf : Nat → List (List Nat) → List Nat
  | a, p :: q :: r => (a + p.length) :: cutsOf (a + p.length + 3) (q :: r)
  | _, _ => []
def lastOf : Nat → List (List Nat) → Nat
  | a, p :: q :: r => lastOf (a + p.length + 3) (q :: r)
  | a, _ => a
theorem join3 : ∀ ws : List Str, (Str.join SL ws).cps.toList = jl3 (ws.map fun w => w.cps.toList)
  | [] => rfl
  | [x] => rfl
  | x :: y :: r => by
    have e : Str.join SL (x :: y :: r) = x ++ SL ++ Str.join SL (y :: r) := rfl
    rw [e]
    show ((x.cps ++ SL.cps) ++ (Str.join SL (y :: r)).cps).toList = _
    rw [Array.toList_append, Array.toList_append, join3 (y :: r), List.append_assoc]
    rfl
theorem sub_is {x : Str} {pre p r : List Nat} {b : Nat} (e : x.cps.toList = pre ++ (p ++ r)) (hb : b = pre.length + p.length) (q : Str) (hq : q.cps.toList = p) : strSub x pre.length b = q := by
  obtain ⟨c⟩ := q
  have z : x.cps.extract pre.length b = c := by
    apply Array.toList_inj.mp
    rw [ext_list, e, List.drop_left, hb, Nat.add_sub_cancel_left, List.take_left]
    exact hq.symm
  show (⟨x.cps.extract pre.length b⟩ : Str) = ⟨c⟩
  rw [z]
theorem cuts_all {x : Str} : ∀ {ps : List Str} {pre : List Nat}, ps ≠ [] → (∀ p ∈ ps, 47 ∉ p.cps.toList) → x.cps.toList = pre ++ jl3 (ps.map fun w => w.cps.toList) →
    ChainG x SL x.length pre.length (cutsOf pre.length (ps.map fun w => w.cps.toList)) (lastOf pre.length (ps.map fun w => w.cps.toList)) ∧ (∀ k, lastOf pre.length (ps.map fun w => w.cps.toList) ≤ k → ¬ At x SL x.length k) ∧ partsFrom x 3 pre.length (cutsOf pre.length (ps.map fun w => w.cps.toList)) = ps
  | [], _, h, _, _ => absurd rfl h
  | [p], pre, _, hf, e => by
    have e' : x.cps.toList = pre ++ p.cps.toList := e
    refine ⟨rfl, fun k hk hA => ?_, ?_⟩
    · have hk' : pre.length ≤ k := hk
      have m := at_mid hA
      rw [e', List.getElem?_append_right (by omega)] at m
      exact hf p (List.mem_singleton.mpr rfl) (List.mem_of_getElem? m)
    · show [strSub x pre.length x.length] = [p]
      rw [sub_is (r := []) (by rw [List.append_nil]; exact e') ?_ p rfl]
      have hl := congrArg List.length e'
      rw [List.length_append, Array.length_toList] at hl
      exact hl
  | p :: q :: r, pre, _, hf, e => by
    have e' : x.cps.toList = pre ++ (p.cps.toList ++ 32 :: 47 :: 32 :: jl3 ((q :: r).map fun w => w.cps.toList)) := e
    have e1 : x.cps.toList = (pre ++ p.cps.toList) ++ 32 :: 47 :: 32 :: jl3 ((q :: r).map fun w => w.cps.toList) := by rw [e', List.append_assoc]
    have e2 : x.cps.toList = (pre ++ p.cps.toList ++ [32, 47, 32]) ++ jl3 ((q :: r).map fun w => w.cps.toList) := by rw [e1, List.append_assoc (pre ++ p.cps.toList)]; rfl
    obtain ⟨c1, c2, c3⟩ := cuts_all (ps := q :: r) (pre := pre ++ p.cps.toList ++ [32, 47, 32]) (List.cons_ne_nil _ _) (fun y hy => hf y (List.mem_cons_of_mem _ hy)) e2
    have el : (pre ++ p.cps.toList ++ [32, 47, 32]).length = pre.length + p.cps.toList.length + 3 := by
      rw [List.length_append, List.length_append]
      rfl
    rw [el] at c1 c2 c3
    have eA := at_of e1
    rw [List.length_append] at eA
    refine ⟨⟨Nat.le_add_right _ _, eA, fun k h1 h2 hA => ?_, c1⟩, c2, ?_⟩
    · have m := at_mid hA
      rcases Nat.lt_or_ge (k + 1) (pre.length + p.cps.toList.length) with z | z
      · rw [e', List.getElem?_append_right (by omega), List.getElem?_append_left (by omega)] at m
        exact hf p List.mem_cons_self (List.mem_of_getElem? m)
      · have h2' : k < pre.length + p.cps.toList.length := h2
        have ek : k + 1 = (pre ++ p.cps.toList).length := by rw [List.length_append]; omega
        rw [e1, ek, List.getElem?_append_right (Nat.le_refl _), Nat.sub_self] at m
        exact absurd m (by simp)
    · show strSub x pre.length (pre.length + p.cps.toList.length) :: partsFrom x 3 (pre.length + p.cps.toList.length + 3) (cutsOf (pre.length + p.cps.toList.length + 3) ((q :: r).map fun w => w.cps.toList)) = p :: q :: r
      rw [c3, sub_is e' rfl p rfl]
theorem split3 {ps : List Str} (hne : ps ≠ []) (hf : ∀ p ∈ ps, 47 ∉ p.cps.toList) : Txt.split (Str.join SL ps) SL = ps := by
  obtain ⟨f, hG, hn⟩ := occ_tight (Str.join SL ps) SL (by decide)
  obtain ⟨c1, c2, c3⟩ := cuts_all (x := Str.join SL ps) (ps := ps) (pre := []) hne hf (join3 ps)
  have u := chain_uniq hG hn c1 c2
  unfold Txt.split
  rw [u]
  have one : cutsOf ([] : List Nat).length (ps.map fun w => w.cps.toList) = [] → [Str.join SL ps] = ps := fun z => by
    cases ps with
    | nil => exact absurd rfl hne
    | cons p r =>
      cases r with
      | nil => rfl
      | cons q r => cases z
  split
  · rename_i hc
    rw [Bool.or_eq_true, decide_eq_true_eq, decide_eq_true_eq] at hc
    apply one
    rcases hc with h | h
    · cases hcut : cutsOf ([] : List Nat).length (ps.map fun w => w.cps.toList) with
      | nil => rfl
      | cons c r =>
        rw [hcut] at c1
        have := c1.2.1.1
        omega
    · exfalso
      have ek : Builtin.Str.strKind SL = 1 := by decide +kernel
      rw [ek] at h
      unfold Builtin.Str.strKind at h
      split at h
      · omega
      · split at h
        · omega
        · omega
  · split
    · rename_i he
      exact one (List.isEmpty_iff.mp he)
    · rw [partsBetween_eq]
      exact c3
end Wm
namespace Wm
open PySem PySem.Spec PyProof.Rows
def leS (a b : Str) : Prop := a.cps.toList ≤ b.cps.toList
theorem leS_of {a b : Str} (h : ltCps b.cps.toList a.cps.toList = false) : leS a b := by
  rw [ltCps_eq] at h
  exact List.not_lt.mp (of_decide_eq_false h)
theorem leS_trans {a b c : Str} (h : leS a b) (g : leS b c) : leS a c := List.le_trans h g
theorem leS_anti {a b : Str} (h : leS a b) (g : leS b a) : a = b := by
  have e := List.le_antisymm h g
  obtain ⟨x⟩ := a
  obtain ⟨y⟩ := b
  rw [show x = y from Array.toList_inj.mp e]
theorem rising_pw : ∀ (p : Str) (l : List Str), risingS p l = true → (p :: l).Pairwise leS
  | p, [], _ => List.pairwise_singleton _ _
  | p, x :: r, h => by
    have h' : (!ltCps x.cps.toList p.cps.toList && risingS x r) = true := h
    rw [Bool.and_eq_true] at h'
    have h1 : leS p x := leS_of (by have := h'.1; revert this; cases ltCps x.cps.toList p.cps.toList <;> simp)
    have h2 := rising_pw x r h'.2
    rw [List.pairwise_cons]
    refine ⟨fun b hb => ?_, h2⟩
    rcases List.mem_cons.mp hb with rfl | hb
    · exact h1
    · exact leS_trans h1 ((List.pairwise_cons.mp h2).1 b hb)
theorem sorted_pw : ∀ {l : List Str}, sortedS l = true → l.Pairwise leS
  | [], _ => .nil
  | x :: r, h => rising_pw x r h
theorem sorted_uniq {xs ys : List Str} (hp : xs.Perm ys) (hx : sortedS xs = true) (hy : sortedS ys = true) : xs = ys :=
  List.Perm.eq_of_pairwise (le := leS) (fun _ _ _ _ h g => leS_anti h g) (sorted_pw hx) (sorted_pw hy) hp
theorem dd_nodup {xs : List Str} (h : xs.Nodup) : SSet.dd xs = xs := by
  have key : ∀ n, n ≤ xs.length → SSet.dd (xs.take n) = xs.take n := by
    intro n
    induction n with
    | zero => intro _; rfl
    | succ n ih =>
      intro hn
      have hlt : n < xs.length := hn
      rw [List.take_add_one, List.getElem?_eq_getElem hlt]
      show SSet.dd (xs.take n ++ [xs[n]]) = xs.take n ++ [xs[n]]
      rw [SSet.dd_snoc, ih (by omega), if_neg]
      intro hm
      obtain ⟨i, hi, e⟩ := List.getElem_of_mem hm
      rw [List.length_take] at hi
      rw [List.getElem_take] at e
      exact (List.pairwise_iff_getElem.mp h) i n (by omega) hlt (by omega) e
  have := key xs.length (Nat.le_refl _)
  rwa [List.take_length] at this
structure Marks (ms : List Str) : Prop where
  ok : ∀ m ∈ ms, NameOk m
  nd : ms.Nodup
  so : sortedS ms = true
  le : ms.length ≤ 20
theorem Marks.same {ms ys : List Str} (h : Marks ms) (hp : ys.Perm (SSet.dd ms)) (hs : sortedS ys = true) : ys = ms := by
  rw [dd_nodup h.nd] at hp
  exact sorted_uniq hp hs h.so
def CM : Str := ⟨#[44]⟩
def marksT : List Str → Str
  | [] => "-"
  | m :: r => Str.join CM (m :: r)
theorem join_chars {c : Nat} : ∀ {ws : List Str} {d : Nat}, d ∈ (Str.join ⟨#[c]⟩ ws).cps.toList → d = c ∨ ∃ w ∈ ws, d ∈ w.cps.toList
  | [], d, h => by cases h
  | [x], d, h => .inr ⟨x, List.mem_singleton.mpr rfl, h⟩
  | x :: y :: r, d, h => by
    have e : Str.join ⟨#[c]⟩ (x :: y :: r) = x ++ ⟨#[c]⟩ ++ Str.join ⟨#[c]⟩ (y :: r) := rfl
    rw [e] at h
    have h' : d ∈ ((x.cps ++ #[c]) ++ (Str.join ⟨#[c]⟩ (y :: r)).cps).toList := h
    rw [Array.toList_append, Array.toList_append] at h'
    rcases List.mem_append.mp h' with h' | h'
    · rcases List.mem_append.mp h' with h' | h'
      · exact .inr ⟨x, List.mem_cons_self, h'⟩
      · exact .inl (List.mem_singleton.mp h')
    · rcases join_chars h' with z | ⟨w, hw, z⟩
      · exact .inl z
      · exact .inr ⟨w, List.mem_cons_of_mem _ hw, z⟩
theorem marksT_chars {ms : List Str} (h : Marks ms) (hne : ms ≠ []) : ∀ d ∈ (marksT ms).cps.toList, d = 44 ∨ (97 ≤ d ∧ d ≤ 122) := by
  cases ms with
  | nil => exact absurd rfl hne
  | cons m r =>
    intro d hd
    rcases join_chars (c := 44) hd with z | ⟨w, hw, z⟩
    · exact .inl z
    · exact .inr ((h.ok w hw).2.2 d z)
theorem marksT_ne {ms : List Str} (h : Marks ms) (hne : ms ≠ []) : marksT ms ≠ "-" := by
  intro z
  have := marksT_chars h hne 45 (by rw [z]; decide +kernel)
  omega
theorem marksT_len {ms : List Str} (h : Marks ms) : 1 ≤ (marksT ms).length ∧ (marksT ms).length ≤ 180 := by
  cases ms with
  | nil => exact ⟨by decide, by decide⟩
  | cons m r =>
    have a := join_len CM (m :: r)
    have c := sum_le (l := (m :: r).map (·.length)) (k := 8) (fun x hx => by
      obtain ⟨u, hu, rfl⟩ := List.mem_map.mp hx
      exact (h.ok u hu).2.1)
    rw [List.length_map] at c
    have e : CM.length = 1 := rfl
    rw [e] at a
    have l := h.le
    refine ⟨?_, ?_⟩
    · have m1 := (h.ok m List.mem_cons_self).1
      cases r with
      | nil => exact m1
      | cons y r =>
        have e2 : Str.join CM (m :: y :: r) = m ++ CM ++ Str.join CM (y :: r) := rfl
        show 1 ≤ (Str.join CM (m :: y :: r)).length
        rw [e2]
        show 1 ≤ ((m.cps ++ CM.cps) ++ (Str.join CM (y :: r)).cps).size
        rw [Array.size_append, Array.size_append]
        have : m.length = m.cps.size := rfl
        omega
    · show (Str.join CM (m :: r)).length ≤ 180
      omega
theorem marks_split {ms : List Str} (h : Marks ms) (hne : ms ≠ []) : Txt.split (marksT ms) CM = ms := by
  cases ms with
  | nil => exact absurd rfl hne
  | cons m r => exact split_join (c := 44) (List.cons_ne_nil _ _) (fun w hw z => absurd ((h.ok w hw).2.2 44 z).1 (by decide))
structure Crd where
  name : Str
  cost : Nat
  force : Nat
  marks : List Str
  rules : List Rule
structure Crd.ok (c : Crd) : Prop where
  name : NameOk c.name
  cost : c.cost < 1000
  force : c.force < 1000
  marks : Marks c.marks
  rules : ∀ r ∈ c.rules, r.ok
  few : c.rules.length ≤ 3
def Crd.head (c : Crd) : List Str := [c.name, toString (c.cost : Int), toString (c.force : Int), marksT c.marks]
def ruleT (r : Rule) : Str := Str.join " " r.words
def Crd.text (c : Crd) : Str := Str.join SL (Str.join " " c.head :: c.rules.map ruleT)
theorem free_join {c d : Nat} {ws : List Str} (h : ∀ w ∈ ws, d ∉ w.cps.toList) (n : d ≠ c) : d ∉ (Str.join ⟨#[c]⟩ ws).cps.toList := fun z => by
  rcases join_chars z with e | ⟨w, hw, z⟩
  · exact n e
  · exact h w hw z
theorem marksT_free {ms : List Str} (h : Marks ms) : 32 ∉ (marksT ms).cps.toList ∧ 47 ∉ (marksT ms).cps.toList := by
  by_cases e : ms = []
  · subst e
    exact ⟨by decide, by decide⟩
  · exact ⟨fun z => by have := marksT_chars h e 32 z; omega, fun z => by have := marksT_chars h e 47 z; omega⟩
theorem Crd.head_free {c : Crd} (h : c.ok) : ∀ u ∈ c.head, 32 ∉ u.cps.toList ∧ 47 ∉ u.cps.toList := by
  intro u hu
  simp only [Crd.head, List.mem_cons, List.not_mem_nil, or_false] at hu
  rcases hu with rfl | rfl | rfl | rfl
  · exact ⟨(name_S h.name).1.1, (name_S h.name).2⟩
  · exact ⟨(num_S h.cost).1.1, (num_S h.cost).2⟩
  · exact ⟨(num_S h.force).1.1, (num_S h.force).2⟩
  · exact marksT_free h.marks
theorem Crd.head_split {c : Crd} (h : c.ok) : Txt.split (Str.join " " c.head) " " = c.head := split_join (c := 32) (List.cons_ne_nil _ _) (fun u hu => (Crd.head_free h u hu).1)
theorem Crd.head_len {c : Crd} (h : c.ok) : (Str.join " " c.head).length ≤ 300 := by
  have a := join_len " " c.head
  have c' := sum_le (l := c.head.map (·.length)) (k := 180) (fun x hx => by
    obtain ⟨u, hu, rfl⟩ := List.mem_map.mp hx
    simp only [Crd.head, List.mem_cons, List.not_mem_nil, or_false] at hu
    rcases hu with rfl | rfl | rfl | rfl
    · have := h.name.2.1; omega
    · have := (num_len _ h.cost).2; omega
    · have := (num_len _ h.force).2; omega
    · exact (marksT_len h.marks).2)
  have e : (" " : Str).length = 1 := rfl
  rw [e] at a
  have s : (c.head.map (·.length)).sum = c.name.length + ((toString (c.cost : Int) : Str).length + ((toString (c.force : Int) : Str).length + ((marksT c.marks).length + 0))) := rfl
  have hl : c.head.length = 4 := rfl
  rw [s, hl] at a
  have b1 := h.name.2.1
  have b2 := (num_len _ h.cost).2
  have b3 := (num_len _ h.force).2
  have b4 := (marksT_len h.marks).2
  omega
theorem Crd.split {c : Crd} (h : c.ok) : Txt.split c.text SL = Str.join " " c.head :: c.rules.map ruleT := by
  refine split3 (List.cons_ne_nil _ _) fun p hp => ?_
  rcases List.mem_cons.mp hp with rfl | hp
  · exact free_join (fun u hu => (Crd.head_free h u hu).2) (by decide)
  · obtain ⟨r, hr, rfl⟩ := List.mem_map.mp hp
    exact free_join (fun u hu => (Rule.words_S (h.rules r hr) u hu).2) (by decide)
end Wm
namespace K08
open PySem L2 PyProof.Rows Wm
def top (i : Nat) : Stmt := PySem.Challenge.pw_turnstack_k08_first_sight.main.body.getD i (.Pass ⟨0, 0, 0, 0⟩)
abbrev s_is_name : Stmt := top 9
abbrev N_is_name : List Str := ["word"]
abbrev P_is_name : List Str := ["word"]
theorem sc_is_name : FnScope N_is_name P_is_name (defScope s_is_name) := ⟨rfl, rfl, rfl, by decide +kernel, rfl, by decide +kernel, by decide +kernel⟩
abbrev s_is_number : Stmt := top 10
abbrev N_is_number : List Str := ["word"]
abbrev P_is_number : List Str := ["word"]
theorem sc_is_number : FnScope N_is_number P_is_number (defScope s_is_number) := ⟨rfl, rfl, rfl, by decide +kernel, rfl, by decide +kernel, by decide +kernel⟩
abbrev s_is_whole : Stmt := top 11
abbrev N_is_whole : List Str := ["word", "most"]
abbrev P_is_whole : List Str := ["word", "most"]
theorem sc_is_whole : FnScope N_is_whole P_is_whole (defScope s_is_whole) := ⟨rfl, rfl, rfl, by decide +kernel, rfl, by decide +kernel, by decide +kernel⟩
abbrev s_Words___init__ : Stmt := inClass (top 12) 0
abbrev N_Words___init__ : List Str := ["self", "text"]
abbrev P_Words___init__ : List Str := ["self", "text"]
theorem sc_Words___init__ : FnScope N_Words___init__ P_Words___init__ (defScope s_Words___init__) := ⟨rfl, rfl, rfl, by decide +kernel, rfl, by decide +kernel, by decide +kernel⟩
abbrev s_Words_take : Stmt := inClass (top 12) 1
abbrev N_Words_take : List Str := ["self"]
abbrev P_Words_take : List Str := ["self"]
theorem sc_Words_take : FnScope N_Words_take P_Words_take (defScope s_Words_take) := ⟨rfl, rfl, rfl, by decide +kernel, rfl, by decide +kernel, by decide +kernel⟩
abbrev s_Words_take_one_of : Stmt := inClass (top 12) 2
abbrev N_Words_take_one_of : List Str := ["self", "known", "word"]
abbrev P_Words_take_one_of : List Str := ["self", "known"]
theorem sc_Words_take_one_of : FnScope N_Words_take_one_of P_Words_take_one_of (defScope s_Words_take_one_of) := ⟨rfl, rfl, rfl, by decide +kernel, rfl, by decide +kernel, by decide +kernel⟩
abbrev s_Words_take_name : Stmt := inClass (top 12) 3
abbrev N_Words_take_name : List Str := ["self", "word"]
abbrev P_Words_take_name : List Str := ["self"]
theorem sc_Words_take_name : FnScope N_Words_take_name P_Words_take_name (defScope s_Words_take_name) := ⟨rfl, rfl, rfl, by decide +kernel, rfl, by decide +kernel, by decide +kernel⟩
abbrev s_Words_take_number : Stmt := inClass (top 12) 4
abbrev N_Words_take_number : List Str := ["self", "word"]
abbrev P_Words_take_number : List Str := ["self"]
theorem sc_Words_take_number : FnScope N_Words_take_number P_Words_take_number (defScope s_Words_take_number) := ⟨rfl, rfl, rfl, by decide +kernel, rfl, by decide +kernel, by decide +kernel⟩
abbrev s_Words_finish : Stmt := inClass (top 12) 5
abbrev N_Words_finish : List Str := ["self"]
abbrev P_Words_finish : List Str := ["self"]
theorem sc_Words_finish : FnScope N_Words_finish P_Words_finish (defScope s_Words_finish) := ⟨rfl, rfl, rfl, by decide +kernel, rfl, by decide +kernel, by decide +kernel⟩
abbrev s_Whom___init__ : Stmt := inClass (top 13) 0
abbrev N_Whom___init__ : List Str := ["self", "word", "value", "parts"]
abbrev P_Whom___init__ : List Str := ["self", "word", "value", "parts"]
theorem sc_Whom___init__ : FnScope N_Whom___init__ P_Whom___init__ (defScope s_Whom___init__) := ⟨rfl, rfl, rfl, by decide +kernel, rfl, by decide +kernel, by decide +kernel⟩
abbrev s_Whom_told : Stmt := inClass (top 13) 1
abbrev s_take_whom : Stmt := top 14
abbrev N_take_whom : List Str := ["words", "taken", "missing", "word"]
abbrev P_take_whom : List Str := ["words"]
theorem sc_take_whom : FnScope N_take_whom P_take_whom (defScope s_take_whom) := ⟨rfl, rfl, rfl, by decide +kernel, rfl, by decide +kernel, by decide +kernel⟩
abbrev s_take_value : Stmt := top 15
abbrev N_take_value : List Str := ["words", "word"]
abbrev P_take_value : List Str := ["words", "word"]
theorem sc_take_value : FnScope N_take_value P_take_value (defScope s_take_value) := ⟨rfl, rfl, rfl, by decide +kernel, rfl, by decide +kernel, by decide +kernel⟩
abbrev s_built : Stmt := top 16
abbrev N_built : List Str := ["taken", "whoms", "word", "value", "many"]
abbrev P_built : List Str := ["taken"]
theorem sc_built : FnScope N_built P_built (defScope s_built) := ⟨rfl, rfl, rfl, by decide +kernel, rfl, by decide +kernel, by decide +kernel⟩
abbrev s_first_sight : Stmt := top 18
abbrev N_first_sight : List Str := ["lying"]
abbrev P_first_sight : List Str := ["lying"]
theorem sc_first_sight : FnScope N_first_sight P_first_sight (defScope s_first_sight) := ⟨rfl, rfl, rfl, by decide +kernel, rfl, by decide +kernel, by decide +kernel⟩
abbrev s_Card___init__ : Stmt := inClass (top 27) 0
abbrev N_Card___init__ : List Str := ["self", "name", "cost", "force", "marks", "rules"]
abbrev P_Card___init__ : List Str := ["self", "name", "cost", "force", "marks", "rules"]
theorem sc_Card___init__ : FnScope N_Card___init__ P_Card___init__ (defScope s_Card___init__) := ⟨rfl, rfl, rfl, by decide +kernel, rfl, by decide +kernel, by decide +kernel⟩
abbrev s_Card___eq__ : Stmt := inClass (top 27) 1
abbrev s_read_card : Stmt := top 28
abbrev N_read_card : List Str := ["text", "texts", "words", "name", "cost", "force", "marks"]
abbrev P_read_card : List Str := ["text"]
theorem sc_read_card : FnScope N_read_card P_read_card (defScope s_read_card) := ⟨rfl, rfl, rfl, by decide +kernel, rfl, by decide +kernel, by decide +kernel⟩
abbrev s_read_marks : Stmt := top 29
abbrev N_read_marks : List Str := ["word", "marks"]
abbrev P_read_marks : List Str := ["word"]
theorem sc_read_marks : FnScope N_read_marks P_read_marks (defScope s_read_marks) := ⟨rfl, rfl, rfl, by decide +kernel, rfl, by decide +kernel, by decide +kernel⟩
abbrev s_read_rule : Stmt := top 30
abbrev N_read_rule : List Str := ["text", "words", "first", "rule"]
abbrev P_read_rule : List Str := ["text"]
theorem sc_read_rule : FnScope N_read_rule P_read_rule (defScope s_read_rule) := ⟨rfl, rfl, rfl, by decide +kernel, rfl, by decide +kernel, by decide +kernel⟩
abbrev s_take_hold : Stmt := top 31
abbrev N_take_hold : List Str := ["words", "word", "value", "whom"]
abbrev P_take_hold : List Str := ["words"]
theorem sc_take_hold : FnScope N_take_hold P_take_hold (defScope s_take_hold) := ⟨rfl, rfl, rfl, by decide +kernel, rfl, by decide +kernel, by decide +kernel⟩
abbrev s_take_change_value : Stmt := top 32
abbrev N_take_change_value : List Str := ["words", "word"]
abbrev P_take_change_value : List Str := ["words", "word"]
theorem sc_take_change_value : FnScope N_take_change_value P_take_change_value (defScope s_take_change_value) := ⟨rfl, rfl, rfl, by decide +kernel, rfl, by decide +kernel, by decide +kernel⟩
abbrev s_take_when : Stmt := top 33
abbrev N_take_when : List Str := ["words", "kind", "whom"]
abbrev P_take_when : List Str := ["words"]
theorem sc_take_when : FnScope N_take_when P_take_when (defScope s_take_when) := ⟨rfl, rfl, rfl, by decide +kernel, rfl, by decide +kernel, by decide +kernel⟩
abbrev s_take_instead : Stmt := top 34
abbrev N_take_instead : List Str := ["words", "kind", "whom", "word"]
abbrev P_take_instead : List Str := ["words"]
theorem sc_take_instead : FnScope N_take_instead P_take_instead (defScope s_take_instead) := ⟨rfl, rfl, rfl, by decide +kernel, rfl, by decide +kernel, by decide +kernel⟩
abbrev s_take_turn_value : Stmt := top 35
abbrev N_take_turn_value : List Str := ["words", "word"]
abbrev P_take_turn_value : List Str := ["words", "word"]
theorem sc_take_turn_value : FnScope N_take_turn_value P_take_turn_value (defScope s_take_turn_value) := ⟨rfl, rfl, rfl, by decide +kernel, rfl, by decide +kernel, by decide +kernel⟩
abbrev s_take_may : Stmt := top 36
abbrev N_take_may : List Str := ["words", "cost"]
abbrev P_take_may : List Str := ["words"]
theorem sc_take_may : FnScope N_take_may P_take_may (defScope s_take_may) := ⟨rfl, rfl, rfl, by decide +kernel, rfl, by decide +kernel, by decide +kernel⟩
abbrev s_take_deed : Stmt := top 37
abbrev N_take_deed : List Str := ["words", "each", "kind", "amount", "whom"]
abbrev P_take_deed : List Str := ["words"]
theorem sc_take_deed : FnScope N_take_deed P_take_deed (defScope s_take_deed) := ⟨rfl, rfl, rfl, by decide +kernel, rfl, by decide +kernel, by decide +kernel⟩
abbrev s_take_amount : Stmt := top 38
abbrev N_take_amount : List Str := ["words", "kind"]
abbrev P_take_amount : List Str := ["words", "kind"]
theorem sc_take_amount : FnScope N_take_amount P_take_amount (defScope s_take_amount) := ⟨rfl, rfl, rfl, by decide +kernel, rfl, by decide +kernel, by decide +kernel⟩
abbrev s_show_card : Stmt := top 39
abbrev s_show_marks : Stmt := top 40
abbrev s_show_rule : Stmt := top 41
abbrev s_show_value : Stmt := top 42
abbrev s_show_deed : Stmt := top 43
abbrev s__law_at : Stmt := top 45
abbrev N__law_at : List Str := ["_law_script", "_law_k", "_law_mixed"]
abbrev P__law_at : List Str := ["_law_script", "_law_k"]
theorem sc__law_at : FnScope N__law_at P__law_at (defScope s__law_at) := ⟨rfl, rfl, rfl, by decide +kernel, rfl, by decide +kernel, by decide +kernel⟩
abbrev s__law_names : Stmt := top 46
abbrev N__law_names : List Str := ["_law_script", "_law_letters", "_law_cell", "_law_size", "_law_at_here", "_law_names_here", "_law_k", "_law_signs"]
abbrev P__law_names : List Str := ["_law_script"]
theorem sc__law_names : FnScope N__law_names P__law_names (defScope s__law_names) := ⟨rfl, rfl, rfl, by decide +kernel, rfl, by decide +kernel, by decide +kernel⟩
abbrev s__law_whom : Stmt := top 47
abbrev N__law_whom : List Str := ["_law_cell", "_law_names_here", "_law_depth", "_law_way", "_law_rest", "_law_other"]
abbrev P__law_whom : List Str := ["_law_cell", "_law_names_here", "_law_depth"]
theorem sc__law_whom : FnScope N__law_whom P__law_whom (defScope s__law_whom) := ⟨rfl, rfl, rfl, by decide +kernel, rfl, by decide +kernel, by decide +kernel⟩
abbrev s__law_words : Stmt := top 48
abbrev N__law_words : List Str := ["_law_whom_here", "_law_words_here", "_law_part"]
abbrev P__law_words : List Str := ["_law_whom_here"]
theorem sc__law_words : FnScope N__law_words P__law_words (defScope s__law_words) := ⟨rfl, rfl, rfl, by decide +kernel, rfl, by decide +kernel, by decide +kernel⟩
abbrev s__law_hold : Stmt := top 49
abbrev N__law_hold : List Str := ["_law_cell", "_law_names_here", "_law_kind", "_law_way", "_law_number", "_law_whom_here"]
abbrev P__law_hold : List Str := ["_law_cell", "_law_names_here", "_law_kind"]
theorem sc__law_hold : FnScope N__law_hold P__law_hold (defScope s__law_hold) := ⟨rfl, rfl, rfl, by decide +kernel, rfl, by decide +kernel, by decide +kernel⟩
abbrev s__law_rule_text : Stmt := top 50
abbrev N__law_rule_text : List Str := ["_law_rule", "_law_word", "_law_value", "_law_whom_here"]
abbrev P__law_rule_text : List Str := ["_law_rule"]
theorem sc__law_rule_text : FnScope N__law_rule_text P__law_rule_text (defScope s__law_rule_text) := ⟨rfl, rfl, rfl, by decide +kernel, rfl, by decide +kernel, by decide +kernel⟩
abbrev s__law_rules : Stmt := top 51
abbrev N__law_rules : List Str := ["_law_cell", "_law_names_here", "_law_room", "_law_kind", "_law_rules_here", "_law_k", "_law_mixed"]
abbrev P__law_rules : List Str := ["_law_cell", "_law_names_here", "_law_room", "_law_kind"]
theorem sc__law_rules : FnScope N__law_rules P__law_rules (defScope s__law_rules) := ⟨rfl, rfl, rfl, by decide +kernel, rfl, by decide +kernel, by decide +kernel⟩
abbrev s__law_rows : Stmt := top 52
abbrev N__law_rows : List Str := ["_law_script", "_law_names_here", "_law_many", "_law_most", "_law_rows_here", "_law_numbers", "_law_k", "_law_cell", "_law_mixed", "_law_spare", "_law_room", "_law_rules_here", "_law_came", "_law_marks", "_law_force", "_law_own", "_law_head"]
abbrev P__law_rows : List Str := ["_law_script", "_law_names_here", "_law_many", "_law_most"]
theorem sc__law_rows : FnScope N__law_rows P__law_rows (defScope s__law_rows) := ⟨rfl, rfl, rfl, by decide +kernel, rfl, by decide +kernel, by decide +kernel⟩
abbrev s__law_card : Stmt := top 53
abbrev N__law_card : List Str := ["_law_row", "_law_text", "_law_other", "_law_rule"]
abbrev P__law_card : List Str := ["_law_row"]
theorem sc__law_card : FnScope N__law_card P__law_card (defScope s__law_card) := ⟨rfl, rfl, rfl, by decide +kernel, rfl, by decide +kernel, by decide +kernel⟩
abbrev s__law_lying : Stmt := top 54
abbrev N__law_lying : List Str := ["_law_rows_here"]
abbrev P__law_lying : List Str := ["_law_rows_here"]
theorem sc__law_lying : FnScope N__law_lying P__law_lying (defScope s__law_lying) := ⟨rfl, rfl, rfl, by decide +kernel, rfl, by decide +kernel, by decide +kernel⟩
abbrev s__law_whole : Stmt := top 55
abbrev N__law_whole : List Str := ["_law_found"]
abbrev P__law_whole : List Str := ["_law_found"]
theorem sc__law_whole : FnScope N__law_whole P__law_whole (defScope s__law_whole) := ⟨rfl, rfl, rfl, by decide +kernel, rfl, by decide +kernel, by decide +kernel⟩
abbrev s__law_alike : Stmt := top 56
abbrev N__law_alike : List Str := ["_law_found", "_law_due"]
abbrev P__law_alike : List Str := ["_law_found", "_law_due"]
theorem sc__law_alike : FnScope N__law_alike P__law_alike (defScope s__law_alike) := ⟨rfl, rfl, rfl, by decide +kernel, rfl, by decide +kernel, by decide +kernel⟩
abbrev s__law_first : Stmt := top 57
abbrev N__law_first : List Str := ["_law_rows_here"]
abbrev P__law_first : List Str := ["_law_rows_here"]
theorem sc__law_first : FnScope N__law_first P__law_first (defScope s__law_first) := ⟨rfl, rfl, rfl, by decide +kernel, rfl, by decide +kernel, by decide +kernel⟩
abbrev s_law : Stmt := top 58
abbrev N_law : List Str := ["_law_script", "_law_names_here", "_law_rows_here", "_law_lying_here", "_law_handed", "_law_due", "_law_found"]
abbrev P_law : List Str := ["_law_script"]
theorem sc_law : FnScope N_law P_law (defScope s_law) := ⟨rfl, rfl, rfl, by decide +kernel, rfl, by decide +kernel, by decide +kernel⟩
abbrev V_LETTERS : Str := "abcdefghijklmnopqrstuvwxyz"
abbrev V_FIGURES : Str := "0123456789"
abbrev D_PARTS : List (Str × KTD.Dat) := [("all", .flat (.int 0)), ("self", .flat (.int 0)), ("mine", .flat (.int 0)), ("mark", .flat (.int 0)), ("force", .flat (.int 0)), ("not", .flat (.int 1)), ("both", .flat (.int 2)), ("any", .flat (.int 2))]
abbrev D_TURNS : List (Str × KTD.Dat) := [("leave", .tup ((["none", "here"] : List Str).map PyData.str)), ("hurt", .tup ((["none", "here", "less", "more"] : List Str).map PyData.str)), ("gain", .tup ((["none", "here"] : List Str).map PyData.str)), ("lack", .tup ((["none", "here"] : List Str).map PyData.str)), ("lose", .tup ((["none", "less", "more", "as"] : List Str).map PyData.str)), ("score", .tup ((["none", "less", "more", "as"] : List Str).map PyData.str)), ("draw", .tup ((["none", "less", "more", "as"] : List Str).map PyData.str))]
set_option genInjectivity false in
structure Tx (K : PySem.W.Frag) (mg : Str → Option Value) where
  f_is_name : Addr
  d_is_name : FuncData
  F_is_name : Fun K "is_name" "is_name" s_is_name f_is_name d_is_name
  m_is_name : mg "is_name" = some (.ref f_is_name)
  f_is_number : Addr
  d_is_number : FuncData
  F_is_number : Fun K "is_number" "is_number" s_is_number f_is_number d_is_number
  m_is_number : mg "is_number" = some (.ref f_is_number)
  f_is_whole : Addr
  d_is_whole : FuncData
  F_is_whole : Fun K "is_whole" "is_whole" s_is_whole f_is_whole d_is_whole
  m_is_whole : mg "is_whole" = some (.ref f_is_whole)
  f_Words___init__ : Addr
  d_Words___init__ : FuncData
  F_Words___init__ : Fun K "__init__" "Words.__init__" s_Words___init__ f_Words___init__ d_Words___init__
  f_Words_take : Addr
  d_Words_take : FuncData
  F_Words_take : Fun K "take" "Words.take" s_Words_take f_Words_take d_Words_take
  f_Words_take_one_of : Addr
  d_Words_take_one_of : FuncData
  F_Words_take_one_of : Fun K "take_one_of" "Words.take_one_of" s_Words_take_one_of f_Words_take_one_of d_Words_take_one_of
  f_Words_take_name : Addr
  d_Words_take_name : FuncData
  F_Words_take_name : Fun K "take_name" "Words.take_name" s_Words_take_name f_Words_take_name d_Words_take_name
  f_Words_take_number : Addr
  d_Words_take_number : FuncData
  F_Words_take_number : Fun K "take_number" "Words.take_number" s_Words_take_number f_Words_take_number d_Words_take_number
  f_Words_finish : Addr
  d_Words_finish : FuncData
  F_Words_finish : Fun K "finish" "Words.finish" s_Words_finish f_Words_finish d_Words_finish
  f_Whom___init__ : Addr
  d_Whom___init__ : FuncData
  F_Whom___init__ : Fun K "__init__" "Whom.__init__" s_Whom___init__ f_Whom___init__ d_Whom___init__
  f_Whom_told : Addr
  d_Whom_told : FuncData
  F_Whom_told : Fun K "told" "Whom.told" s_Whom_told f_Whom_told d_Whom_told
  f_take_whom : Addr
  d_take_whom : FuncData
  F_take_whom : Fun K "take_whom" "take_whom" s_take_whom f_take_whom d_take_whom
  m_take_whom : mg "take_whom" = some (.ref f_take_whom)
  f_take_value : Addr
  d_take_value : FuncData
  F_take_value : Fun K "take_value" "take_value" s_take_value f_take_value d_take_value
  m_take_value : mg "take_value" = some (.ref f_take_value)
  f_built : Addr
  d_built : FuncData
  F_built : Fun K "built" "built" s_built f_built d_built
  m_built : mg "built" = some (.ref f_built)
  f_first_sight : Addr
  d_first_sight : FuncData
  F_first_sight : Fun K "first_sight" "first_sight" s_first_sight f_first_sight d_first_sight
  m_first_sight : mg "first_sight" = some (.ref f_first_sight)
  f_Card___init__ : Addr
  d_Card___init__ : FuncData
  F_Card___init__ : Fun K "__init__" "Card.__init__" s_Card___init__ f_Card___init__ d_Card___init__
  f_Card___eq__ : Addr
  d_Card___eq__ : FuncData
  F_Card___eq__ : Fun K "__eq__" "Card.__eq__" s_Card___eq__ f_Card___eq__ d_Card___eq__
  f_read_card : Addr
  d_read_card : FuncData
  F_read_card : Fun K "read_card" "read_card" s_read_card f_read_card d_read_card
  m_read_card : mg "read_card" = some (.ref f_read_card)
  f_read_marks : Addr
  d_read_marks : FuncData
  F_read_marks : Fun K "read_marks" "read_marks" s_read_marks f_read_marks d_read_marks
  m_read_marks : mg "read_marks" = some (.ref f_read_marks)
  f_read_rule : Addr
  d_read_rule : FuncData
  F_read_rule : Fun K "read_rule" "read_rule" s_read_rule f_read_rule d_read_rule
  m_read_rule : mg "read_rule" = some (.ref f_read_rule)
  f_take_hold : Addr
  d_take_hold : FuncData
  F_take_hold : Fun K "take_hold" "take_hold" s_take_hold f_take_hold d_take_hold
  m_take_hold : mg "take_hold" = some (.ref f_take_hold)
  f_take_change_value : Addr
  d_take_change_value : FuncData
  F_take_change_value : Fun K "take_change_value" "take_change_value" s_take_change_value f_take_change_value d_take_change_value
  m_take_change_value : mg "take_change_value" = some (.ref f_take_change_value)
  f_take_when : Addr
  d_take_when : FuncData
  F_take_when : Fun K "take_when" "take_when" s_take_when f_take_when d_take_when
  m_take_when : mg "take_when" = some (.ref f_take_when)
  f_take_instead : Addr
  d_take_instead : FuncData
  F_take_instead : Fun K "take_instead" "take_instead" s_take_instead f_take_instead d_take_instead
  m_take_instead : mg "take_instead" = some (.ref f_take_instead)
  f_take_turn_value : Addr
  d_take_turn_value : FuncData
  F_take_turn_value : Fun K "take_turn_value" "take_turn_value" s_take_turn_value f_take_turn_value d_take_turn_value
  m_take_turn_value : mg "take_turn_value" = some (.ref f_take_turn_value)
  f_take_may : Addr
  d_take_may : FuncData
  F_take_may : Fun K "take_may" "take_may" s_take_may f_take_may d_take_may
  m_take_may : mg "take_may" = some (.ref f_take_may)
  f_take_deed : Addr
  d_take_deed : FuncData
  F_take_deed : Fun K "take_deed" "take_deed" s_take_deed f_take_deed d_take_deed
  m_take_deed : mg "take_deed" = some (.ref f_take_deed)
  f_take_amount : Addr
  d_take_amount : FuncData
  F_take_amount : Fun K "take_amount" "take_amount" s_take_amount f_take_amount d_take_amount
  m_take_amount : mg "take_amount" = some (.ref f_take_amount)
  f_show_card : Addr
  d_show_card : FuncData
  F_show_card : Fun K "show_card" "show_card" s_show_card f_show_card d_show_card
  m_show_card : mg "show_card" = some (.ref f_show_card)
  f_show_marks : Addr
  d_show_marks : FuncData
  F_show_marks : Fun K "show_marks" "show_marks" s_show_marks f_show_marks d_show_marks
  m_show_marks : mg "show_marks" = some (.ref f_show_marks)
  f_show_rule : Addr
  d_show_rule : FuncData
  F_show_rule : Fun K "show_rule" "show_rule" s_show_rule f_show_rule d_show_rule
  m_show_rule : mg "show_rule" = some (.ref f_show_rule)
  f_show_value : Addr
  d_show_value : FuncData
  F_show_value : Fun K "show_value" "show_value" s_show_value f_show_value d_show_value
  m_show_value : mg "show_value" = some (.ref f_show_value)
  f_show_deed : Addr
  d_show_deed : FuncData
  F_show_deed : Fun K "show_deed" "show_deed" s_show_deed f_show_deed d_show_deed
  m_show_deed : mg "show_deed" = some (.ref f_show_deed)
  f__law_at : Addr
  d__law_at : FuncData
  F__law_at : Fun K "_law_at" "_law_at" s__law_at f__law_at d__law_at
  m__law_at : mg "_law_at" = some (.ref f__law_at)
  f__law_names : Addr
  d__law_names : FuncData
  F__law_names : Fun K "_law_names" "_law_names" s__law_names f__law_names d__law_names
  m__law_names : mg "_law_names" = some (.ref f__law_names)
  f__law_whom : Addr
  d__law_whom : FuncData
  F__law_whom : Fun K "_law_whom" "_law_whom" s__law_whom f__law_whom d__law_whom
  m__law_whom : mg "_law_whom" = some (.ref f__law_whom)
  f__law_words : Addr
  d__law_words : FuncData
  F__law_words : Fun K "_law_words" "_law_words" s__law_words f__law_words d__law_words
  m__law_words : mg "_law_words" = some (.ref f__law_words)
  f__law_hold : Addr
  d__law_hold : FuncData
  F__law_hold : Fun K "_law_hold" "_law_hold" s__law_hold f__law_hold d__law_hold
  m__law_hold : mg "_law_hold" = some (.ref f__law_hold)
  f__law_rule_text : Addr
  d__law_rule_text : FuncData
  F__law_rule_text : Fun K "_law_rule_text" "_law_rule_text" s__law_rule_text f__law_rule_text d__law_rule_text
  m__law_rule_text : mg "_law_rule_text" = some (.ref f__law_rule_text)
  f__law_rules : Addr
  d__law_rules : FuncData
  F__law_rules : Fun K "_law_rules" "_law_rules" s__law_rules f__law_rules d__law_rules
  m__law_rules : mg "_law_rules" = some (.ref f__law_rules)
  f__law_rows : Addr
  d__law_rows : FuncData
  F__law_rows : Fun K "_law_rows" "_law_rows" s__law_rows f__law_rows d__law_rows
  m__law_rows : mg "_law_rows" = some (.ref f__law_rows)
  f__law_card : Addr
  d__law_card : FuncData
  F__law_card : Fun K "_law_card" "_law_card" s__law_card f__law_card d__law_card
  m__law_card : mg "_law_card" = some (.ref f__law_card)
  f__law_lying : Addr
  d__law_lying : FuncData
  F__law_lying : Fun K "_law_lying" "_law_lying" s__law_lying f__law_lying d__law_lying
  m__law_lying : mg "_law_lying" = some (.ref f__law_lying)
  f__law_whole : Addr
  d__law_whole : FuncData
  F__law_whole : Fun K "_law_whole" "_law_whole" s__law_whole f__law_whole d__law_whole
  m__law_whole : mg "_law_whole" = some (.ref f__law_whole)
  f__law_alike : Addr
  d__law_alike : FuncData
  F__law_alike : Fun K "_law_alike" "_law_alike" s__law_alike f__law_alike d__law_alike
  m__law_alike : mg "_law_alike" = some (.ref f__law_alike)
  f__law_first : Addr
  d__law_first : FuncData
  F__law_first : Fun K "_law_first" "_law_first" s__law_first f__law_first d__law_first
  m__law_first : mg "_law_first" = some (.ref f__law_first)
  f_law : Addr
  d_law : FuncData
  F_law : Fun K "law" "law" s_law f_law d_law
  m_law : mg "law" = some (.ref f_law)
  c_Words : Addr
  cl_Words : Cls K c_Words
  m_Words : mg "Words" = some (.ref c_Words)
  Mk_Words : Mk K c_Words f_Words___init__
  M_Words_take : Meth K c_Words "take" f_Words_take
  M_Words_take_one_of : Meth K c_Words "take_one_of" f_Words_take_one_of
  M_Words_take_name : Meth K c_Words "take_name" f_Words_take_name
  M_Words_take_number : Meth K c_Words "take_number" f_Words_take_number
  M_Words_finish : Meth K c_Words "finish" f_Words_finish
  n_Words_words : NoAttr K c_Words "words"
  n_Words_place : NoAttr K c_Words "place"
  c_Whom : Addr
  cl_Whom : Cls K c_Whom
  m_Whom : mg "Whom" = some (.ref c_Whom)
  Mk_Whom : Mk K c_Whom f_Whom___init__
  M_Whom_told : Meth K c_Whom "told" f_Whom_told
  n_Whom_word : NoAttr K c_Whom "word"
  n_Whom_value : NoAttr K c_Whom "value"
  n_Whom_parts : NoAttr K c_Whom "parts"
  i_Whom : Isi K c_Whom
  c_Card : Addr
  cl_Card : Cls K c_Card
  m_Card : mg "Card" = some (.ref c_Card)
  Mk_Card : Mk K c_Card f_Card___init__
  M_Card___eq__ : Meth K c_Card "__eq__" f_Card___eq__
  n_Card_name : NoAttr K c_Card "name"
  n_Card_cost : NoAttr K c_Card "cost"
  n_Card_force : NoAttr K c_Card "force"
  n_Card_marks : NoAttr K c_Card "marks"
  n_Card_rules : NoAttr K c_Card "rules"
  z_all : mg "all" = none
  z_bool : mg "bool" = none
  z_int : mg "int" = none
  z_isinstance : mg "isinstance" = none
  z_len : mg "len" = none
  z_list : mg "list" = none
  z_max : mg "max" = none
  z_min : mg "min" = none
  z_range : mg "range" = none
  z_reversed : mg "reversed" = none
  z_set : mg "set" = none
  z_sorted : mg "sorted" = none
  z_str : mg "str" = none
  z_tuple : mg "tuple" = none
  k_LETTERS : Tok
  g_LETTERS : mg "LETTERS" = some (.str V_LETTERS k_LETTERS)
  k_FIGURES : Tok
  g_FIGURES : mg "FIGURES" = some (.str V_FIGURES k_FIGURES)
  k_MOST_WORDS : Tok
  g_MOST_WORDS : mg "MOST_WORDS" = some (.int 9 k_MOST_WORDS)
  a_PARTS : Addr
  g_PARTS : mg "PARTS" = some (.ref a_PARTS)
  l_PARTS : KTD.tabLook (KTD.datLooks fun b => K.lookup b) (fun b => K.lookup b) a_PARTS D_PARTS = true
  k_MOST_RULES : Tok
  g_MOST_RULES : mg "MOST_RULES" = some (.int 3 k_MOST_RULES)
  a_SORTS : Addr
  g_SORTS : mg "SORTS" = some (.ref a_SORTS)
  l_SORTS : TupK K a_SORTS ["hold", "when", "instead", "may"]
  a_CHANGES : Addr
  g_CHANGES : mg "CHANGES" = some (.ref a_CHANGES)
  l_CHANGES : TupK K a_CHANGES ["mute", "steal", "gain", "lack", "be", "more", "less", "per"]
  a_WHEN_KINDS : Addr
  g_WHEN_KINDS : mg "WHEN_KINDS" = some (.ref a_WHEN_KINDS)
  l_WHEN_KINDS : TupK K a_WHEN_KINDS ["come", "leave", "hurt", "gain", "lack", "lose", "score", "draw"]
  a_DEED_KINDS : Addr
  g_DEED_KINDS : mg "DEED_KINDS" = some (.ref a_DEED_KINDS)
  l_DEED_KINDS : TupK K a_DEED_KINDS ["leave", "hurt", "gain", "lack", "lose", "score", "draw"]
  a_PLAYER_KINDS : Addr
  g_PLAYER_KINDS : mg "PLAYER_KINDS" = some (.ref a_PLAYER_KINDS)
  l_PLAYER_KINDS : TupK K a_PLAYER_KINDS ["lose", "score", "draw"]
  a_TURNS : Addr
  g_TURNS : mg "TURNS" = some (.ref a_TURNS)
  l_TURNS : TabK K a_TURNS D_TURNS
section
variable {K : PySem.W.Frag} {mg : Str → Option Value} {base : Heap}
theorem b_is_name (T : Tx K mg) : Binds K T.d_is_name P_is_name [] := T.F_is_name.binds fun _ _ _ _ _ _ us hl => match us, hl with | [_], _ => rfl
theorem b_is_number (T : Tx K mg) : Binds K T.d_is_number P_is_number [] := T.F_is_number.binds fun _ _ _ _ _ _ us hl => match us, hl with | [_], _ => rfl
theorem b_is_whole (T : Tx K mg) : Binds K T.d_is_whole P_is_whole [] := T.F_is_whole.binds fun _ _ _ _ _ _ us hl => match us, hl with | [_, _], _ => rfl
theorem b_Words___init__ (T : Tx K mg) : Binds K T.d_Words___init__ P_Words___init__ [] := T.F_Words___init__.binds fun _ _ _ _ _ _ us hl => match us, hl with | [_, _], _ => rfl
theorem b_Words_take (T : Tx K mg) : Binds K T.d_Words_take P_Words_take [] := T.F_Words_take.binds fun _ _ _ _ _ _ us hl => match us, hl with | [_], _ => rfl
theorem b_Words_take_one_of (T : Tx K mg) : Binds K T.d_Words_take_one_of P_Words_take_one_of [] := T.F_Words_take_one_of.binds fun _ _ _ _ _ _ us hl => match us, hl with | [_, _], _ => rfl
theorem b_Words_take_name (T : Tx K mg) : Binds K T.d_Words_take_name P_Words_take_name [] := T.F_Words_take_name.binds fun _ _ _ _ _ _ us hl => match us, hl with | [_], _ => rfl
theorem b_Words_take_number (T : Tx K mg) : Binds K T.d_Words_take_number P_Words_take_number [] := T.F_Words_take_number.binds fun _ _ _ _ _ _ us hl => match us, hl with | [_], _ => rfl
theorem b_Words_finish (T : Tx K mg) : Binds K T.d_Words_finish P_Words_finish [] := T.F_Words_finish.binds fun _ _ _ _ _ _ us hl => match us, hl with | [_], _ => rfl
theorem b_Whom___init__ (T : Tx K mg) : Binds K T.d_Whom___init__ P_Whom___init__ [] := T.F_Whom___init__.binds fun _ _ _ _ _ _ us hl => match us, hl with | [_, _, _, _], _ => rfl
theorem b_take_whom (T : Tx K mg) : Binds K T.d_take_whom P_take_whom [] := T.F_take_whom.binds fun _ _ _ _ _ _ us hl => match us, hl with | [_], _ => rfl
theorem b_take_value (T : Tx K mg) : Binds K T.d_take_value P_take_value [] := T.F_take_value.binds fun _ _ _ _ _ _ us hl => match us, hl with | [_, _], _ => rfl
theorem b_built (T : Tx K mg) : Binds K T.d_built P_built [] := T.F_built.binds fun _ _ _ _ _ _ us hl => match us, hl with | [_], _ => rfl
theorem b_first_sight (T : Tx K mg) : Binds K T.d_first_sight P_first_sight [] := T.F_first_sight.binds fun _ _ _ _ _ _ us hl => match us, hl with | [_], _ => rfl
theorem b_Card___init__ (T : Tx K mg) : Binds K T.d_Card___init__ P_Card___init__ [] := T.F_Card___init__.binds fun _ _ _ _ _ _ us hl => match us, hl with | [_, _, _, _, _, _], _ => rfl
theorem b_read_card (T : Tx K mg) : Binds K T.d_read_card P_read_card [] := T.F_read_card.binds fun _ _ _ _ _ _ us hl => match us, hl with | [_], _ => rfl
theorem b_read_marks (T : Tx K mg) : Binds K T.d_read_marks P_read_marks [] := T.F_read_marks.binds fun _ _ _ _ _ _ us hl => match us, hl with | [_], _ => rfl
theorem b_read_rule (T : Tx K mg) : Binds K T.d_read_rule P_read_rule [] := T.F_read_rule.binds fun _ _ _ _ _ _ us hl => match us, hl with | [_], _ => rfl
theorem b_take_hold (T : Tx K mg) : Binds K T.d_take_hold P_take_hold [] := T.F_take_hold.binds fun _ _ _ _ _ _ us hl => match us, hl with | [_], _ => rfl
theorem b_take_change_value (T : Tx K mg) : Binds K T.d_take_change_value P_take_change_value [] := T.F_take_change_value.binds fun _ _ _ _ _ _ us hl => match us, hl with | [_, _], _ => rfl
theorem b_take_when (T : Tx K mg) : Binds K T.d_take_when P_take_when [] := T.F_take_when.binds fun _ _ _ _ _ _ us hl => match us, hl with | [_], _ => rfl
theorem b_take_instead (T : Tx K mg) : Binds K T.d_take_instead P_take_instead [] := T.F_take_instead.binds fun _ _ _ _ _ _ us hl => match us, hl with | [_], _ => rfl
theorem b_take_turn_value (T : Tx K mg) : Binds K T.d_take_turn_value P_take_turn_value [] := T.F_take_turn_value.binds fun _ _ _ _ _ _ us hl => match us, hl with | [_, _], _ => rfl
theorem b_take_may (T : Tx K mg) : Binds K T.d_take_may P_take_may [] := T.F_take_may.binds fun _ _ _ _ _ _ us hl => match us, hl with | [_], _ => rfl
theorem b_take_deed (T : Tx K mg) : Binds K T.d_take_deed P_take_deed [] := T.F_take_deed.binds fun _ _ _ _ _ _ us hl => match us, hl with | [_], _ => rfl
theorem b_take_amount (T : Tx K mg) : Binds K T.d_take_amount P_take_amount [] := T.F_take_amount.binds fun _ _ _ _ _ _ us hl => match us, hl with | [_, _], _ => rfl
theorem b__law_at (T : Tx K mg) : Binds K T.d__law_at P__law_at [] := T.F__law_at.binds fun _ _ _ _ _ _ us hl => match us, hl with | [_, _], _ => rfl
theorem b__law_names (T : Tx K mg) : Binds K T.d__law_names P__law_names [] := T.F__law_names.binds fun _ _ _ _ _ _ us hl => match us, hl with | [_], _ => rfl
theorem b__law_whom (T : Tx K mg) : Binds K T.d__law_whom P__law_whom [] := T.F__law_whom.binds fun _ _ _ _ _ _ us hl => match us, hl with | [_, _, _], _ => rfl
theorem b__law_words (T : Tx K mg) : Binds K T.d__law_words P__law_words [] := T.F__law_words.binds fun _ _ _ _ _ _ us hl => match us, hl with | [_], _ => rfl
theorem b__law_hold (T : Tx K mg) : Binds K T.d__law_hold P__law_hold [] := T.F__law_hold.binds fun _ _ _ _ _ _ us hl => match us, hl with | [_, _, _], _ => rfl
theorem b__law_rule_text (T : Tx K mg) : Binds K T.d__law_rule_text P__law_rule_text [] := T.F__law_rule_text.binds fun _ _ _ _ _ _ us hl => match us, hl with | [_], _ => rfl
theorem b__law_rules (T : Tx K mg) : Binds K T.d__law_rules P__law_rules [] := T.F__law_rules.binds fun _ _ _ _ _ _ us hl => match us, hl with | [_, _, _, _], _ => rfl
theorem b__law_rows (T : Tx K mg) : Binds K T.d__law_rows P__law_rows [] := T.F__law_rows.binds fun _ _ _ _ _ _ us hl => match us, hl with | [_, _, _, _], _ => rfl
theorem b__law_card (T : Tx K mg) : Binds K T.d__law_card P__law_card [] := T.F__law_card.binds fun _ _ _ _ _ _ us hl => match us, hl with | [_], _ => rfl
theorem b__law_lying (T : Tx K mg) : Binds K T.d__law_lying P__law_lying [] := T.F__law_lying.binds fun _ _ _ _ _ _ us hl => match us, hl with | [_], _ => rfl
theorem b__law_whole (T : Tx K mg) : Binds K T.d__law_whole P__law_whole [] := T.F__law_whole.binds fun _ _ _ _ _ _ us hl => match us, hl with | [_], _ => rfl
theorem b__law_alike (T : Tx K mg) : Binds K T.d__law_alike P__law_alike [] := T.F__law_alike.binds fun _ _ _ _ _ _ us hl => match us, hl with | [_, _], _ => rfl
theorem b__law_first (T : Tx K mg) : Binds K T.d__law_first P__law_first [] := T.F__law_first.binds fun _ _ _ _ _ _ us hl => match us, hl with | [_], _ => rfl
theorem tab_PARTS (T : Tx K mg) (kb : K.In base) : KTD.TextTab base T.a_PARTS D_PARTS := KTD.text_of_look (fun b o q => kb b o q) T.l_PARTS
end
abbrev LL : Str := "abcdefghijklmnopqrstuvwxyz"
abbrev FF : Str := "0123456789"
def inS (c : Nat) (u : Str) : Bool := !(Builtin.Str.occurrences u ⟨#[c]⟩ 0 u.length 1).isEmpty
def allIn (t u : Str) : Bool := (t.cps.toList.map fun c => inS c u).all id
def noZero (t : Str) : Bool := decide (V.str t = V.str "0") || (!decide (V.str ⟨#[t.cps.getD 0 0]⟩ = V.str "0"))
def short (t : Str) (n : Int) : Bool := decide ((1 : Int) ≤ ((t.length : Nat) : Int)) && decide (((t.length : Nat) : Int) ≤ n)
def isName (t : Str) : Bool := short t 8 && allIn t LL
def isWhole (t : Str) (n : Int) : Bool := short t n && (allIn t FF && noZero t)
def isNumber (t : Str) : Bool := isWhole t 3
theorem small {n : Nat} (h : n ≤ 1000) : n ≤ sizeLine := Nat.le_of_lt (small1000 h)
theorem first_sign {t : Str} (h : (1 : Int) ≤ ((t.length : Nat) : Int)) : atI t.cps.toList 0 = some (t.cps.getD 0 0) := by
  have hl : 0 < t.cps.size := by
    have e : t.length = t.cps.size := rfl
    omega
  have e : t.cps.toList[0]? = some (t.cps.getD 0 0) := by
    rw [Array.getElem?_toList, Array.getD_eq_getD_getElem?, Array.getElem?_eq_getElem hl]
    rfl
  exact atI_nat (j := 0) e
theorem at_get {α : Type} {xs : List α} {i : Int} (h0 : 0 ≤ i) (h : i < (xs.length : Int)) : ∃ v, atI xs i = some v ∧ v ∈ xs := by
  have hk : i.toNat < xs.length := by omega
  have e : xs[i.toNat]? = some xs[i.toNat] := List.getElem?_eq_getElem hk
  have q := atI_nat e
  rw [show ((i.toNat : Nat) : Int) = i by omega] at q
  exact ⟨_, q, List.mem_of_getElem? e⟩
theorem len_app (a b : Str) : (a ++ b).length = a.length + b.length := by
  show (a.cps ++ b.cps).size = a.cps.size + b.cps.size
  rw [Array.size_append]
def But (p : Addr) (H H' : Hp) : Prop := ∀ b o, b ≠ p → H b = some o → H' b = some o
theorem But.refl (p : Addr) (H : Hp) : But p H H := fun _ _ _ h => h
theorem But.trans {p : Addr} {H H1 H2 : Hp} (a : But p H H1) (b : But p H1 H2) : But p H H2 := fun c o n h => b c o n (a c o n h)
theorem But.laid {p q : Addr} {H : Hp} {o : HO} (h : H q = none) : But p H (upd H q o) := fun b u n e => by rw [upd_ne (ne_of_none e h)]; exact e
theorem But.put {p : Addr} {H : Hp} {o : HO} : But p H (upd H p o) := fun b u n e => by rw [upd_ne n]; exact e
theorem But.same {p : Addr} {H H' : Hp} (h : Same H H') : But p H H' := fun b o _ e => h b o e
theorem same_new {H : Hp} {p : Addr} (h : H p = none) (o : HO) : Same H (upd H p o) := fun b u q => by rw [upd_ne (ne_of_none q h)]; exact q
def SqF (K : PySem.W.Frag) (H : Hp) (a : Addr) (xs : List V) : Prop :=
  (∃ o, H a = some (.frz o (.lst xs))) ∨ ∃ (o : Obj) (its : Array Value) (n : Nat), K.lookup a = some o ∧ o.cls = .type "list" ∧ o.dict = none ∧ o.data = .seq its n ∧ its.size ≤ sizeLine ∧ Vals xs its.toList
theorem SqF.sq {K : PySem.W.Frag} {H : Hp} {a : Addr} {xs : List V} (h : SqF K H a xs) : SqL K H a xs := by
  rcases h with ⟨o, h⟩ | h
  · exact .inl (.inr ⟨o, h⟩)
  · exact .inr h
theorem SqF.of {K : PySem.W.Frag} {H : Hp} {a : Addr} {xs : List V} (O : Only H) (h : SqL K H a xs) : SqF K H a xs := by
  rcases h with (h | ⟨o, h⟩) | h
  · rcases O a with z | ⟨o, ys, z⟩
    · rw [z] at h; cases h
    · rw [z] at h; cases h
  · exact .inl ⟨o, h⟩
  · exact .inr h
theorem SqF.keep {K : PySem.W.Frag} {H H' : Hp} {a : Addr} {xs : List V} (h : SqF K H a xs) (k : ∀ o u, H a = some (.frz o u) → H' a = some (.frz o u)) : SqF K H' a xs := by
  rcases h with ⟨o, h⟩ | h
  · exact .inl ⟨o, k _ _ h⟩
  · exact .inr h
structure Tk (K : PySem.W.Frag) (H : Hp) (p : Addr) (k : Int) : Prop where
  ex : ∃ (a : Addr) (ns : List Int), H p = some (.lst [.ref a, .int k]) ∧ SqF K H a (ns.map V.int) ∧ ns.length ≤ 63
  lo : 0 ≤ k
theorem Tk.go {K : PySem.W.Frag} {H H' : Hp} {p : Addr} {k : Int} (T : Tk K H p k) (h : But p H H') (e : H' p = H p) : Tk K H' p k := by
  obtain ⟨⟨a, ns, h1, h2, h3⟩, lo⟩ := T
  exact ⟨⟨a, ns, e.trans h1, h2.keep fun o u z => h a _ (ne_of z h1 (by intro y; cases y)) z, h3⟩, lo⟩
theorem Tk.ne {K : PySem.W.Frag} {H : Hp} {p q : Addr} {k : Int} (T : Tk K H p k) (h : H q = none) : p ≠ q := by
  obtain ⟨⟨a, ns, h1, _⟩, _⟩ := T
  exact ne_of_none h1 h
theorem Tk.laid {K : PySem.W.Frag} {H : Hp} {p q : Addr} {k : Int} {o : HO} (T : Tk K H p k) (h : H q = none) : Tk K (upd H q o) p k := T.go (But.laid h) (upd_ne (T.ne h))
theorem Tk.same {K : PySem.W.Frag} {H H' : Hp} {p : Addr} {k : Int} (T : Tk K H p k) (h : Same H H') : Tk K H' p k := by
  obtain ⟨⟨a, ns, h1, h2, h3⟩, lo⟩ := T
  exact ⟨⟨a, ns, h p _ h1, h2.keep fun o u z => h _ _ z, h3⟩, lo⟩
def spName : Sp := fun vs H Q _ => ∃ t : Str, vs = [.str t] ∧ t.length ≤ 1000 ∧ ∀ H', Same H H' → Q (.bl (isName t)) H'
def spNumber : Sp := fun vs H Q _ => ∃ t : Str, vs = [.str t] ∧ t.length ≤ 1000 ∧ ∀ H', Same H H' → Q (.bl (isNumber t)) H'
def spWhole : Sp := fun vs H Q _ => ∃ (t : Str) (n : Int), vs = [.str t, .int n] ∧ t.length ≤ 1000 ∧ ∀ H', Same H H' → Q (.bl (isWhole t n)) H'
def spLaw (K : PySem.W.Frag) : Sp := fun vs H Q _ => ∃ (a : Addr) (ns : List Int), vs = [.ref a] ∧ SqF K H a (ns.map V.int) ∧ ns.length ≤ 63 ∧ ∀ H', Q (.bl true) H'
abbrev rInStr : R2 := fun x y H Q => ∃ i j, x = .str i ∧ y = .str j ∧ Q (.bl (!(Builtin.Str.occurrences j i 0 j.length 1).isEmpty)) H
theorem comp_signs {t L : Str} {σ : L2.St} {H : Hp} {Q : VK} (hz : t.length ≤ sizeLine) (q : ∀ p, H p = none → Q (.ref p) (upd H p (.lst ((t.cps.toList.map fun c => inS c L).map V.bl)))) :
    CompW (Its t) H (gName 0) tTrue (tOp rInStr (tVar 0) (tC (.str L))) 1 [] σ Q := by
  refine comp_str (fun i ys H' => H' = H ∧ i ≤ t.cps.size ∧ ys = ((t.cps.toList.take i).map fun c => inS c L).map V.bl) ⟨rfl, Nat.zero_le _, rfl⟩ ?_ ?_ ?_
  · rintro i ys H' ⟨_, hi, rfl⟩
    rw [List.length_map, List.length_map, List.length_take]
    have e : t.length = t.cps.toList.length := by simp [Str.length]
    omega
  · rintro i c ys H' hc ⟨rfl, hi, rfl⟩
    refine ⟨rfl, _, rfl, _, _, rfl, rfl, rfl, ?_, ?_⟩
    · have hlt : i < t.cps.size := (Array.getElem?_eq_some_iff.mp hc).1
      exact hlt
    · have e : t.cps.toList[i]? = some c := by simpa using hc
      rw [List.take_add_one, e, List.map_append, List.map_append]
      rfl
  · rintro ys H' ⟨rfl, _, rfl⟩ p hp
    have q' := q p hp
    rw [List.take_of_length_le (by simp)]
    exact q'
section
variable {P : Program} {w : World} {K : PySem.W.Frag} {mg : Str → Option Value} {base : Heap} {f : Addr} {fd : FuncData}
theorem ok_is_name (T : Tx K mg) : FnOk P w K mg base CX0 2 T.f_is_name T.d_is_name P_is_name spName := by
  refine T.F_is_name.ok sc_is_name (fun vs H Q E h => ?_) (fun cdv A outer s H vs Q E hr h => ?_)
  · obtain ⟨t, rfl, _⟩ := h
    rfl
  obtain ⟨t, rfl, hz, q⟩ := h
  have hz' := small hz
  refine ⟨_,   (pss_one (ps_ret (pe_and (pe_chain op_le op_le pe_int (pe_callB call_len_str rfl T.z_len PySem.boot_len (pa_cons (pv 0) pa_nil)) pe_int) (pe_one (pe_callB (call_all rfl) rfl T.z_all boot_all (pa_cons (pe_comp (own := ["sign"]) (cap := []) rfl (BlkScope.chk rfl rfl) .nil (pi_str (pv 0)) (fun _ _ _ _ => (pg_name (i := 0) (show List.Nodup (["sign"] : List Str) by decide +kernel) rfl (Or.inl rfl))) (fun _ _ _ _ => pts_nil) (fun _ _ _ _ => by exact (pe_cmpR op_in_str (pv 0) (pe_glob (v := .str V_LETTERS) rfl T.g_LETTERS ⟨_, rfl⟩) rfl))) pa_nil)))))), ?_⟩
  refine ⟨_, rfl, t, rfl, hz', _, _, rfl, rfl, _, rfl, ?_⟩
  refine ite2 (fun c1 => ?_) (fun c1 => ?_)
  · refine ⟨_, _, rfl, rfl, _, rfl, ?_⟩
    refine ite2 (fun c2 => ?_) (fun c2 => ?_)
    · refine ⟨_, rfl, t, rfl, ?_⟩
      refine comp_signs hz' fun p hp => ?_
      refine ⟨p, _, rfl, SqL.of upd_same, ?_⟩
      have q' := q (upd H p (.lst ((t.cps.toList.map fun c => inS c LL).map V.bl))) (same_new hp _)
      have e : isName t = allIn t LL := by
        unfold isName short
        rw [c1, c2, Bool.true_and, Bool.true_and]
      rw [e] at q'
      exact q'
    · have q' := q H (Same.refl H)
      have e : isName t = false := by
        unfold isName short
        rw [Bool.eq_false_iff.mpr c2, Bool.and_false, Bool.false_and]
      rw [e] at q'
      exact q'
  · refine ⟨_, rfl, iteF ?_⟩
    have q' := q H (Same.refl H)
    have e : isName t = false := by
      unfold isName short
      rw [Bool.eq_false_iff.mpr c1, Bool.false_and, Bool.false_and]
    rw [e] at q'
    exact q'
theorem ok_is_whole (T : Tx K mg) : FnOk P w K mg base CX0 1 T.f_is_whole T.d_is_whole P_is_whole spWhole := by
  refine T.F_is_whole.ok sc_is_whole (fun vs H Q E h => ?_) (fun cdv A outer s H vs Q E hr h => ?_)
  · obtain ⟨t, n, rfl, _⟩ := h
    rfl
  obtain ⟨t, n, rfl, hz, q⟩ := h
  have hz' := small hz
  refine ⟨_,   (pss_cons (ps_if (PW.pt (pw_or (pt_not (pt_chain op_le op_le pe_int (pe_callB call_len_str rfl T.z_len PySem.boot_len (pa_cons (pv 0) pa_nil)) (pv 1))) (pw_or1 (pt_not (pt_val (pe_callB (call_all rfl) rfl T.z_all boot_all (pa_cons (pe_comp (own := ["sign"]) (cap := []) rfl (BlkScope.chk rfl rfl) .nil (pi_str (pv 0)) (fun _ _ _ _ => (pg_name (i := 0) (show List.Nodup (["sign"] : List Str) by decide +kernel) rfl (Or.inl rfl))) (fun _ _ _ _ => pts_nil) (fun _ _ _ _ => by exact (pe_cmpR op_in_str (pv 0) (pe_glob (v := .str V_FIGURES) rfl T.g_FIGURES ⟨_, rfl⟩) rfl))) pa_nil)))))))
      (pss_one (ps_ret pe_bl))
      pss_nil)
    (pss_one (ps_ret (pe_or (pe_cmpR op_eq (pv 0) pe_str (nomark _)) (pe_one (pe_cmpR op_ne (pe_ix ix_str (pv 0) pe_int (fun _ _ => rfl)) pe_str (nomark _))))))), ?_⟩
  refine ⟨_, rfl, t, rfl, hz', _, _, rfl, rfl, _, rfl, ?_⟩
  refine ite2 (fun c1 => ?_) (fun c1 => ?_)
  · refine ⟨_, rfl, _, _, rfl, rfl, _, rfl, ?_⟩
    refine ite2 (fun c2 => ?_) (fun c2 => ?_)
    · refine iteT ?_
      have q' := q H (Same.refl H)
      have c2' : decide (((t.length : Nat) : Int) ≤ n) = false := by simpa using c2
      have e : isWhole t n = false := by
        unfold isWhole short
        rw [c2', Bool.and_false, Bool.false_and]
      rw [e] at q'
      exact q'
    · have c2' : decide (((t.length : Nat) : Int) ≤ n) = true := by simpa using c2
      refine ⟨_, rfl, t, rfl, ?_⟩
      refine comp_signs hz' fun p hp => ?_
      refine ⟨p, _, rfl, SqL.of upd_same, _, rfl, ?_⟩
      have S1 := same_new hp (.lst ((t.cps.toList.map fun c => inS c FF).map V.bl))
      have q' := q _ S1
      have e0 : isWhole t n = (allIn t FF && noZero t) := by
        unfold isWhole short
        rw [c1, c2', Bool.true_and, Bool.true_and]
      rw [e0] at q'
      refine ite2 (fun c3 => ?_) (fun c3 => ?_)
      · have c3' : allIn t FF = false := by simpa [allIn] using c3
        rw [c3', Bool.false_and] at q'
        exact q'
      · have c3' : allIn t FF = true := by simpa [allIn] using c3
        rw [c3', Bool.true_and] at q'
        refine ⟨_, rfl, rfl, _, rfl, ?_⟩
        refine ite2 (fun c4 => ?_) (fun c4 => ?_)
        · have e : noZero t = true := by
            unfold noZero
            rw [c4, Bool.true_or]
          rw [e] at q'
          exact q'
        · refine ⟨_, rfl, t, _, _, rfl, rfl, hz', first_sign (of_decide_eq_true c1), rfl, ?_⟩
          have e : noZero t = (!decide (V.str ⟨#[t.cps.getD 0 0]⟩ = V.str "0")) := by
            unfold noZero
            rw [Bool.eq_false_iff.mpr c4, Bool.false_or]
          rw [e] at q'
          exact q'
  · refine ⟨_, rfl, iteT (iteT ?_)⟩
    have q' := q H (Same.refl H)
    have e : isWhole t n = false := by
      unfold isWhole short
      rw [Bool.eq_false_iff.mpr c1, Bool.false_and, Bool.false_and]
    rw [e] at q'
    exact q'
theorem ok_is_number (T : Tx K mg) : FnOk P w K mg base CX0 2 T.f_is_number T.d_is_number P_is_number spNumber := by
  have G_is_whole := ok_is_whole (P := P) (w := w) (base := base) T
  refine T.F_is_number.ok sc_is_number (fun vs H Q E h => ?_) (fun cdv A outer s H vs Q E hr h => ?_)
  · obtain ⟨t, rfl, _⟩ := h
    rfl
  obtain ⟨t, rfl, hz, q⟩ := h
  refine ⟨_,   (pss_one (ps_ret (pe_call G_is_whole hr rfl T.m_is_whole T.F_is_whole.kp (b_is_whole T) .nil pass0 (pa_cons (pv 0) (pa_cons pe_int pa_nil))))), ?_⟩
  exact ⟨_, rfl, t, 3, rfl, hz, q⟩
end
theorem inS_LL : ∀ c : Nat, c < 123 → 97 ≤ c → inS c LL = true := by decide +kernel
theorem name_isName {n : Str} (h : NameOk n) : isName n = true := by
  unfold isName short allIn
  obtain ⟨h1, h2, h3⟩ := h
  rw [decide_eq_true (by omega), decide_eq_true (by omega), Bool.true_and, Bool.true_and, List.all_eq_true]
  intro b hb
  obtain ⟨c, hc, rfl⟩ := List.mem_map.mp hb
  exact inS_LL c (by have := h3 c hc; omega) (h3 c hc).1
theorem num_isNumber : ∀ i : Nat, i < 1000 → isNumber (toString (i : Int) : Str) = true := by decide +kernel
theorem num_int : ∀ i : Nat, i < 1000 → PySem.intText? (toString (i : Int) : Str) = some (i : Int) := by decide +kernel
theorem look_hit {f : Str} {v : V} {r : List (Str × V)} : List.lookup f ((f, v) :: r) = some v := by rw [List.lookup_cons, beq_self_eq_true]
theorem look_miss {f g : Str} {v : V} {r : List (Str × V)} (h : ¬ f = g) : List.lookup f ((g, v) :: r) = List.lookup f r := by
  have e : (f == g) = false := by simpa using h
  rw [List.lookup_cons, e]
theorem put_nil {f : Str} {v : V} : putF f v [] = [(f, v)] := rfl
theorem put_hit {f : Str} {v u : V} {r : List (Str × V)} : putF f v ((f, u) :: r) = (f, v) :: r := by
  show (if f = f then (f, v) :: r else (f, u) :: putF f v r) = _
  rw [if_pos rfl]
theorem put_miss {f g : Str} {v u : V} {r : List (Str × V)} (h : ¬ g = f) : putF f v ((g, u) :: r) = (g, u) :: putF f v r := by
  show (if g = f then (g, v) :: r else (g, u) :: putF f v r) = _
  rw [if_neg h]
def wfs (l : Addr) (k : Int) : List (Str × V) := [("words", .ref l), ("place", .int k)]
theorem ne_wp : ¬ (("words" : Str) = "place") := by decide +kernel
theorem ne_pw : ¬ (("place" : Str) = "words") := by decide +kernel
theorem wfs_words (l : Addr) (k : Int) : (wfs l k).lookup ("words" : Str) = some (.ref l) := look_hit
theorem wfs_place (l : Addr) (k : Int) : (wfs l k).lookup ("place" : Str) = some (.int k) := (look_miss ne_pw).trans look_hit
theorem wfs_put (l : Addr) (k j : Int) : putF "place" (.int j) (wfs l k) = wfs l j := (put_miss ne_wp).trans (congrArg _ put_hit)
theorem wfs_init (l : Addr) (j : Int) : putF "place" (.int j) (putF "words" (.ref l) []) = wfs l j := (put_miss ne_wp).trans rfl
theorem wfs_no (l : Addr) (k : Int) {m : Str} (h1 : ¬ m = "words") (h2 : ¬ m = "place") : (wfs l k).lookup m = none := (look_miss h1).trans ((look_miss h2).trans rfl)
def WAt (C : Addr) (H : Hp) (p : Addr) (ws : List Str) (k : Nat) : Prop := ∃ dx l, H p = some (.ins C dx (wfs l (k : Int))) ∧ H l = some (.lst (ws.map V.str))
theorem WAt.at {C : Addr} {H H' : Hp} {p : Addr} {ws : List Str} {k : Nat} (h : WAt C H p ws k) (s : Same H H') : WAt C H' p ws k := by
  obtain ⟨dx, l, h1, h2⟩ := h
  exact ⟨dx, l, s _ _ h1, s _ _ h2⟩
theorem WAt.go {C : Addr} {H : Hp} {p dx l : Addr} {ws : List Str} {k j : Nat} (h1 : H p = some (.ins C dx (wfs l (k : Int)))) (h2 : H l = some (.lst (ws.map V.str))) : WAt C (upd H p (.ins C dx (wfs l (j : Int)))) p ws j := by
  have n : l ≠ p := ne_of h2 h1 (by intro z; cases z)
  exact ⟨dx, l, upd_same, by rw [upd_ne n]; exact h2⟩
theorem But.of_same {p : Addr} {H H1 H2 : Hp} (a : But p H H1) (b : Same H1 H2) : But p H H2 := a.trans (But.same b)
theorem But.new {p : Addr} {H H1 : Hp} (b : But p H H1) (h : H p = none) : Same H H1 := fun c o e => b c o (ne_of_none e h) e
theorem at_str {ws : List Str} {k : Nat} {u : Str} (h : ws[k]? = some u) : atI (ws.map V.str) (k : Int) = some (.str u) := atI_nat (by rw [List.getElem?_map, h]; rfl)
def spWords (C : Addr) : Sp := fun vs H Q _ => ∃ (p dx : Addr) (t : Str), vs = [.ref p, .str t] ∧ H p = some (.ins C dx []) ∧ t.length ≤ 1000 ∧ ∀ H', WAt C H' p (Txt.split t " ") 0 → But p H H' → Q .non H'
def spWTake (C : Addr) : Sp := fun vs H Q _ => ∃ (p : Addr) (ws : List Str) (k : Nat) (u : Str), vs = [.ref p] ∧ WAt C H p ws k ∧ ws[k]? = some u ∧ ∀ H', WAt C H' p ws (k + 1) → But p H H' → Q (.str u) H'
def spWName (C : Addr) : Sp := fun vs H Q _ => ∃ (p : Addr) (ws : List Str) (k : Nat) (u : Str), vs = [.ref p] ∧ WAt C H p ws k ∧ ws[k]? = some u ∧ NameOk u ∧ ∀ H', WAt C H' p ws (k + 1) → But p H H' → Q (.str u) H'
def spWNumber (C : Addr) : Sp := fun vs H Q _ => ∃ (p : Addr) (ws : List Str) (k i : Nat), vs = [.ref p] ∧ WAt C H p ws k ∧ ws[k]? = some (toString (i : Int) : Str) ∧ i < 1000 ∧ ∀ H', WAt C H' p ws (k + 1) → But p H H' → Q (.int i) H'
def spWFinish (C : Addr) : Sp := fun vs H Q _ => ∃ (p : Addr) (ws : List Str), vs = [.ref p] ∧ WAt C H p ws ws.length ∧ Q .non H
section
variable {P : Program} {w : World} {K : PySem.W.Frag} {mg : Str → Option Value} {base : Heap}
theorem ok_Words (T : Tx K mg) : FnOk P w K mg base CX0 2 T.f_Words___init__ T.d_Words___init__ P_Words___init__ (spWords T.c_Words) := by
  refine T.F_Words___init__.ok sc_Words___init__ (fun vs H Q E h => ?_) (fun cdv A outer s H vs Q E hr h => ?_)
  · obtain ⟨p, dx, t, rfl, _⟩ := h
    rfl
  obtain ⟨p, dx, t, rfl, hp, ht, q⟩ := h
  refine ⟨_,   (pss_cons (ps_fld (pv 0) (pe_bm PySem.F.plainAttrs_str PySem.F.slot_str_split PySem.F.type_str_split mt_split (pv 1) (pa_cons pe_str pa_nil)) rfl)
    (pss_one (ps_fld (pv 0) pe_int rfl))), ?_⟩
  refine ⟨_, rfl, rfl, t, _, rfl, rfl, (by decide +kernel), (Nat.le_trans (Nat.add_le_add_right ht 2) (by decide)), fun l hl => ?_⟩
  have npl : p ≠ l := ne_of_none hp hl
  refine ⟨_, rfl, p, _, dx, _, rfl, (by rw [upd_ne npl]; exact hp), T.cl_Words, T.n_Words_words, (by show 0 < 1000; decide), ?_⟩
  refine ⟨_, rfl, p, _, dx, _, rfl, upd_same, T.cl_Words, T.n_Words_place, (by show 1 < 1000; decide), ?_⟩
  refine q _ ⟨dx, l, ?_, ?_⟩ ?_
  · rw [upd_same, wfs_init]
    rfl
  · rw [upd_ne npl.symm, upd_ne npl.symm, upd_same]
  · exact (But.laid hl).trans (But.put.trans But.put)
theorem ok_Words_take (T : Tx K mg) : FnOk P w K mg base CX0 2 T.f_Words_take T.d_Words_take P_Words_take (spWTake T.c_Words) := by
  refine T.F_Words_take.ok sc_Words_take (fun vs H Q E h => ?_) (fun cdv A outer s H vs Q E hr h => ?_)
  · obtain ⟨p, ws, k, u, rfl, _⟩ := h
    rfl
  obtain ⟨p, ws, k, u, rfl, ⟨dx, l, h1, h2⟩, hu, q⟩ := h
  refine ⟨_,   (pss_cons (ps_if (pt_cmpR op_eq (pe_fld (pv 0) rfl) (pe_callB call_len_seq rfl T.z_len PySem.boot_len (pa_cons (pe_fld (pv 0) rfl) pa_nil)) (nomark _))
      (pss_one ps_never)
      pss_nil)
    (pss_cons (ps_fldaug (pv 0) pe_int in_add)
    (pss_one (ps_ret (pe_ix ix_list (pe_fld (pv 0) rfl) (pe_op op_sub (pe_fld (pv 0) rfl) pe_int) (fun _ _ => rfl)))))), ?_⟩
  have hk : k < ws.length := (List.getElem?_eq_some_iff.mp hu).1
  have n : l ≠ p := ne_of h2 h1 (by intro z; cases z)
  refine ⟨_, rfl, p, _, dx, _, _, rfl, h1, T.cl_Words, T.n_Words_place, wfs_place _ _, _, rfl, p, _, dx, _, _, rfl, h1, T.cl_Words, T.n_Words_words, wfs_words _ _, l, _, rfl, .inl (SqL.of h2), rfl, _, rfl, ?_⟩
  refine ite2 (fun c => ?_) (fun c => ?_)
  · exfalso
    have c' := of_decide_eq_true c
    injection c' with c'
    rw [List.length_map] at c'
    omega
  · refine ⟨_, rfl, p, _, dx, _, _, rfl, h1, T.cl_Words, T.n_Words_place, wfs_place _ _, _, _, rfl, rfl, dx, _, h1, (by show 2 < 1000; decide), ?_⟩
    rw [wfs_put]
    refine ⟨_, rfl, p, _, dx, _, _, rfl, upd_same, T.cl_Words, T.n_Words_words, wfs_words _ _, _, rfl, p, _, dx, _, _, rfl, upd_same, T.cl_Words, T.n_Words_place, wfs_place _ _, _, _, rfl, rfl, l, _, _, _, rfl, rfl, SqL.of (by rw [upd_ne n]; exact h2), (by rw [Int.add_sub_cancel]; exact at_str hu), ?_⟩
    exact q _ (WAt.go (j := k + 1) h1 h2) But.put
theorem ok_Words_finish (T : Tx K mg) : FnOk P w K mg base CX0 2 T.f_Words_finish T.d_Words_finish P_Words_finish (spWFinish T.c_Words) := by
  refine T.F_Words_finish.ok sc_Words_finish (fun vs H Q E h => ?_) (fun cdv A outer s H vs Q E hr h => ?_)
  · obtain ⟨p, ws, rfl, _⟩ := h
    rfl
  obtain ⟨p, ws, rfl, ⟨dx, l, h1, h2⟩, q⟩ := h
  refine ⟨_,   (pss_one (ps_if (pt_cmpR op_lt (pe_fld (pv 0) rfl) (pe_callB call_len_seq rfl T.z_len PySem.boot_len (pa_cons (pe_fld (pv 0) rfl) pa_nil)) (nomark _))
      (pss_one ps_never)
      pss_nil)), ?_⟩
  refine ⟨_, rfl, p, _, dx, _, _, rfl, h1, T.cl_Words, T.n_Words_place, wfs_place _ _, _, rfl, p, _, dx, _, _, rfl, h1, T.cl_Words, T.n_Words_words, wfs_words _ _, l, _, rfl, .inl (SqL.of h2), _, _, rfl, rfl, _, rfl, ?_⟩
  refine ite2 (fun c => ?_) (fun c => ?_)
  · exfalso
    have c' := of_decide_eq_true c
    rw [List.length_map] at c'
    omega
  · exact q
theorem ok_Words_take_name (T : Tx K mg) : FnOk P w K mg base CX0 3 T.f_Words_take_name T.d_Words_take_name P_Words_take_name (spWName T.c_Words) := by
  have G_Words_take := ok_Words_take (P := P) (w := w) (base := base) T
  have G_is_name := ok_is_name (P := P) (w := w) (base := base) T
  refine T.F_Words_take_name.ok sc_Words_take_name (fun vs H Q E h => ?_) (fun cdv A outer s H vs Q E hr h => ?_)
  · obtain ⟨p, ws, k, u, rfl, _⟩ := h
    rfl
  obtain ⟨p, ws, k, u, rfl, W, hu, hn, q⟩ := h
  refine ⟨_,   (pss_cons (ps_set (i := 1) sc_Words_take_name.nd rfl (Or.inl rfl) (pe_meth0 (pv 0) T.cl_Words T.M_Words_take G_Words_take hr (b_Words_take T) .nil pass0))
    (pss_cons (ps_if (pt_not (pt_val (pe_call G_is_name hr rfl T.m_is_name T.F_is_name.kp (b_is_name T) .nil pass0 (pa_cons (pv 1) pa_nil))))
      (pss_one ps_never)
      pss_nil)
    (pss_one (ps_ret (pv 1))))), ?_⟩
  obtain ⟨dx, l, h1, h2⟩ := id W
  refine ⟨_, rfl, p, dx, _, rfl, h1, wfs_no _ _ (by decide +kernel) (by decide +kernel), p, ws, k, u, rfl, W, hu, fun H1 W1 B1 => ?_⟩
  refine ⟨_, rfl, u, rfl, (Nat.le_trans hn.2.1 (by decide)), fun H2 S2 => ?_⟩
  rw [name_isName hn]
  refine ⟨_, rfl, iteF ?_⟩
  exact ⟨_, rfl, q H2 (W1.at S2) (B1.of_same S2)⟩
theorem ok_Words_take_number (T : Tx K mg) : FnOk P w K mg base CX0 3 T.f_Words_take_number T.d_Words_take_number P_Words_take_number (spWNumber T.c_Words) := by
  have G_Words_take := ok_Words_take (P := P) (w := w) (base := base) T
  have G_is_number := ok_is_number (P := P) (w := w) (base := base) T
  refine T.F_Words_take_number.ok sc_Words_take_number (fun vs H Q E h => ?_) (fun cdv A outer s H vs Q E hr h => ?_)
  · obtain ⟨p, ws, k, i, rfl, _⟩ := h
    rfl
  obtain ⟨p, ws, k, i, rfl, W, hu, hi, q⟩ := h
  refine ⟨_,   (pss_cons (ps_set (i := 1) sc_Words_take_number.nd rfl (Or.inl rfl) (pe_meth0 (pv 0) T.cl_Words T.M_Words_take G_Words_take hr (b_Words_take T) .nil pass0))
    (pss_cons (ps_if (pt_not (pt_val (pe_call G_is_number hr rfl T.m_is_number T.F_is_number.kp (b_is_number T) .nil pass0 (pa_cons (pv 1) pa_nil))))
      (pss_one ps_never)
      pss_nil)
    (pss_one (ps_ret (pe_callTy call_int_text rfl T.z_int boot_int (pa_cons (pv 1) pa_nil)))))), ?_⟩
  obtain ⟨dx, l, h1, h2⟩ := id W
  refine ⟨_, rfl, p, dx, _, rfl, h1, wfs_no _ _ (by decide +kernel) (by decide +kernel), p, ws, k, _, rfl, W, hu, fun H1 W1 B1 => ?_⟩
  have hl := num_len i hi
  refine ⟨_, rfl, _, rfl, (by omega), fun H2 S2 => ?_⟩
  rw [num_isNumber i hi]
  refine ⟨_, rfl, iteF ?_⟩
  exact ⟨_, rfl, _, _, rfl, num_int i hi, (by omega), q H2 (W1.at S2) (B1.of_same S2)⟩
end
def valV : Wv → V
  | .non => .non
  | .name n => .str n
  | .num i => .int i
def hfs (w : Str) (v : V) (t : Addr) : List (Str × V) := [("word", .str w), ("value", v), ("parts", .ref t)]
theorem ne_wv : ¬ (("word" : Str) = "value") := by decide +kernel
theorem ne_wpt : ¬ (("word" : Str) = "parts") := by decide +kernel
theorem ne_vpt : ¬ (("value" : Str) = "parts") := by decide +kernel
theorem hfs_init (w : Str) (v : V) (t : Addr) : putF "parts" (.ref t) (putF "value" v (putF "word" (.str w) [])) = hfs w v t := by
  rw [put_nil, put_miss ne_wv, put_nil, put_miss ne_wpt, put_miss ne_vpt, put_nil]
  rfl
theorem hfs_wfs {C D dx dy t l : Addr} {w : Str} {v : V} {k : Int} : HO.ins D dx (hfs w v t) ≠ HO.ins C dy (wfs l k) := by
  intro z
  injection z with _ _ z
  exact absurd (congrArg List.length z) (by show ¬ (3 = 2); decide)
mutual
inductive IsW (D : Addr) (H : Hp) : V → Wh → Prop where
  | mk {a dx t : Addr} {vs : List V} {w : Wh} (h1 : H a = some (.ins D dx (hfs w.word (valV w.val) t))) (h2 : H t = some (.tup vs)) (h3 : IsWs D H vs w.parts) : IsW D H (.ref a) w
inductive IsWs (D : Addr) (H : Hp) : List V → List Wh → Prop where
  | nil : IsWs D H [] []
  | cons {v : V} {w : Wh} {vs : List V} {ws : List Wh} : IsW D H v w → IsWs D H vs ws → IsWs D H (v :: vs) (w :: ws)
end
mutual
theorem IsW.same {D : Addr} {H H' : Hp} (s : Same H H') : ∀ {v : V} {w : Wh}, IsW D H v w → IsW D H' v w
  | _, _, .mk h1 h2 h3 => .mk (s _ _ h1) (s _ _ h2) (h3.same s)
theorem IsWs.same {D : Addr} {H H' : Hp} (s : Same H H') : ∀ {vs : List V} {ws : List Wh}, IsWs D H vs ws → IsWs D H' vs ws
  | _, _, .nil => .nil
  | _, _, .cons h t => .cons (h.same s) (t.same s)
end
mutual
theorem IsW.but {D C p dy l : Addr} {k : Int} {H H' : Hp} (b : But p H H') (hp : H p = some (.ins C dy (wfs l k))) : ∀ {v : V} {w : Wh}, IsW D H v w → IsW D H' v w
  | _, _, .mk h1 h2 h3 => .mk (b _ _ (ne_of h1 hp hfs_wfs) h1) (b _ _ (ne_of h2 hp (by intro z; cases z)) h2) (h3.but b hp)
theorem IsWs.but {D C p dy l : Addr} {k : Int} {H H' : Hp} (b : But p H H') (hp : H p = some (.ins C dy (wfs l k))) : ∀ {vs : List V} {ws : List Wh}, IsWs D H vs ws → IsWs D H' vs ws
  | _, _, .nil => .nil
  | _, _, .cons h t => .cons (h.but b hp) (t.but b hp)
end
theorem IsWs.length {D : Addr} {H : Hp} : ∀ {vs : List V} {ws : List Wh}, IsWs D H vs ws → vs.length = ws.length
  | _, _, .nil => rfl
  | _, _, .cons _ t => by rw [List.length_cons, List.length_cons, t.length]
theorem IsWs.split {D : Addr} {H : Hp} : ∀ {xs : List Wh} {vs : List V} {ys : List Wh}, IsWs D H vs (xs ++ ys) → IsWs D H (vs.take xs.length) xs ∧ IsWs D H (vs.drop xs.length) ys
  | [], vs, ys, h => ⟨by rw [List.length_nil, List.take_zero]; exact .nil, by rw [List.length_nil, List.drop_zero]; exact h⟩
  | x :: xs, _, ys, .cons h t => by
    obtain ⟨a, b⟩ := IsWs.split (xs := xs) t
    exact ⟨.cons h a, b⟩
theorem IsWs.get {D : Addr} {H : Hp} : ∀ {vs : List V} {ws : List Wh} {i : Nat} {v : V}, IsWs D H vs ws → vs[i]? = some v → ∃ w, ws[i]? = some w ∧ IsW D H v w
  | _, _, _, _, .nil, e => by simp at e
  | _, _, 0, _, .cons h t, e => by
    rw [List.getElem?_cons_zero] at e
    cases e
    exact ⟨_, rfl, h⟩
  | _, _, i + 1, _, .cons h t, e => by
    rw [List.getElem?_cons_succ] at e
    obtain ⟨w, h1, h2⟩ := t.get e
    exact ⟨w, by rw [List.getElem?_cons_succ]; exact h1, h2⟩
theorem cutV_take (xs : List V) (n : Nat) : cutV xs none (some (n : Int)) = xs.take n := by
  unfold cutV
  rw [HT.sIx_none, HT.sIx_nat, List.drop_zero, Nat.sub_zero]
  by_cases h : n ≤ xs.length
  · rw [Nat.min_eq_left h]
  · rw [Nat.min_eq_right (by omega), List.take_of_length_le (Nat.le_refl _), List.take_of_length_le (by omega)]
theorem cutV_drop (xs : List V) (n : Nat) : cutV xs (some (n : Int)) none = xs.drop n := by
  unfold cutV
  rw [HT.sIx_none, HT.sIx_nat]
  by_cases h : n ≤ xs.length
  · rw [Nat.min_eq_left h, List.take_of_length_le (by rw [List.length_drop]; exact Nat.le_refl _)]
  · rw [Nat.min_eq_right (by omega), Nat.sub_self, List.take_zero, List.drop_eq_nil_of_le (by omega)]
theorem txt_len {w : Wh} (h : w.ok) (hs : w.size ≤ 9) : (Str.join " " w.words).length ≤ 200 := by
  have a := join_len " " w.words
  have b := w.words_len
  have c := sum_le (l := w.words.map (·.length)) (k := 8) (fun x hx => by
    obtain ⟨u, hu, rfl⟩ := List.mem_map.mp hx
    exact (Wh.words_ok h u hu).2.2)
  rw [List.length_map] at c
  have e : (" " : Str).length = 1 := rfl
  rw [e] at a
  omega
theorem log_small : ∀ i : Nat, i < 1000 → i.log2 < 1920 := by decide +kernel
theorem part_dat (w : Wh) : KTD.datumAt w.word D_PARTS = some (.flat (.int (w.parts.length : Nat))) := by
  cases w <;> rfl
theorem part_in (w : Wh) : KTD.inKeys w.word D_PARTS = true := by
  cases w <;> rfl
def spWhom (D : Addr) : Sp := fun vs H Q _ => ∃ (x dx t : Addr) (u : Str) (v : V), vs = [.ref x, .str u, v, .ref t] ∧ H x = some (.ins D dx []) ∧ Q .non (upd H x (.ins D dx (hfs u v t)))
section
variable {P : Program} {w : World} {K : PySem.W.Frag} {mg : Str → Option Value} {base : Heap}
theorem ok_Whom (T : Tx K mg) : FnOk P w K mg base CX0 2 T.f_Whom___init__ T.d_Whom___init__ P_Whom___init__ (spWhom T.c_Whom) := by
  refine T.F_Whom___init__.ok sc_Whom___init__ (fun vs H Q E h => ?_) (fun cdv A outer s H vs Q E hr h => ?_)
  · obtain ⟨x, dx, t, u, v, rfl, _⟩ := h
    rfl
  obtain ⟨x, dx, t, u, v, rfl, hx, q⟩ := h
  refine ⟨_,   (pss_cons (ps_fld (pv 0) (pv 1) rfl)
    (pss_cons (ps_fld (pv 0) (pv 2) rfl)
    (pss_one (ps_fld (pv 0) (pv 3) rfl)))), ?_⟩
  refine ⟨_, rfl, _, rfl, x, _, dx, _, rfl, hx, T.cl_Whom, T.n_Whom_word, (by show 0 < 1000; decide), ?_⟩
  refine ⟨_, rfl, _, rfl, x, _, dx, _, rfl, upd_same, T.cl_Whom, T.n_Whom_value, (by show 1 < 1000; decide), ?_⟩
  refine ⟨_, rfl, _, rfl, x, _, dx, _, rfl, upd_same, T.cl_Whom, T.n_Whom_parts, (by rw [put_nil, put_miss ne_wv, put_nil]; show 2 < 1000; decide), ?_⟩
  show Q .non _
  rw [upd_upd, upd_upd, hfs_init]
  exact q
end
def TkAt (H : Hp) (l : Addr) (fl : List (Str × Wv)) : Prop := ∃ as : List Addr, H l = some (.lst (as.map V.ref)) ∧ as.length = fl.length ∧ ∀ (i : Nat) (a : Addr) (x : Str × Wv), as[i]? = some a → fl[i]? = some x → H a = some (.tup [.str x.1, valV x.2])
theorem TkAt.same {H H' : Hp} {l : Addr} {fl : List (Str × Wv)} (h : TkAt H l fl) (s : Same H H') : TkAt H' l fl := by
  obtain ⟨as, h1, h2, h3⟩ := h
  exact ⟨as, s _ _ h1, h2, fun i a x e1 e2 => s _ _ (h3 i a x e1 e2)⟩
theorem TkAt.but {H H' : Hp} {l p C dy wl : Addr} {k : Int} {fl : List (Str × Wv)} (h : TkAt H l fl) (b : But p H H') (hp : H p = some (.ins C dy (wfs wl k))) : TkAt H' l fl := by
  obtain ⟨as, h1, h2, h3⟩ := h
  exact ⟨as, b _ _ (ne_of h1 hp (by intro z; cases z)) h1, h2, fun i a x e1 e2 => b _ _ (ne_of (h3 i a x e1 e2) hp (by intro z; cases z)) (h3 i a x e1 e2)⟩
theorem TkAt.snoc {H : Hp} {l a : Addr} {fl : List (Str × Wv)} {x : Str × Wv} (h : TkAt H l fl) (ha : H a = some (.tup [.str x.1, valV x.2])) {as : List Addr} (hl : H l = some (.lst (as.map V.ref))) : TkAt (upd H l (.lst (as.map V.ref ++ [.ref a]))) l (fl ++ [x]) := by
  obtain ⟨as', h1, h2, h3⟩ := h
  have e : as' = as := by
    rw [h1] at hl
    injection hl with hl
    injection hl with hl
    exact List.map_inj_right (fun x y z => by injection z) |>.mp hl
  subst e
  refine ⟨as' ++ [a], ?_, ?_, fun i b y e1 e2 => ?_⟩
  · rw [upd_same, List.map_append]
    rfl
  · rw [List.length_append, List.length_append, h2]
    rfl
  · by_cases hi : i < as'.length
    · rw [List.getElem?_append_left hi] at e1
      rw [List.getElem?_append_left (by omega)] at e2
      have z := h3 i b y e1 e2
      rw [upd_ne (ne_of z h1 (by intro z; cases z))]
      exact z
    · have hi2 : i < (as' ++ [a]).length := (List.getElem?_eq_some_iff.mp e1).1
      rw [List.length_append, List.length_singleton] at hi2
      have ei : i = as'.length := by omega
      rw [List.getElem?_append_right (by omega), ei, Nat.sub_self] at e1
      rw [List.getElem?_append_right (by omega), ei, h2, Nat.sub_self] at e2
      cases e1
      cases e2
      rw [upd_ne (ne_of ha h1 (by intro z; cases z))]
      exact ha
def spBuilt (D : Addr) : Sp := fun vs H Q _ => ∃ (l : Addr) (y : Wh), vs = [.ref l] ∧ TkAt H l y.flat ∧ y.size ≤ 9 ∧ ∀ v H', Same H H' → IsW D H' v y → Q v H'
def spTV (C : Addr) : Sp := fun vs H Q _ => ∃ (p : Addr) (ws rest : List Str) (k : Nat) (y : Wh), vs = [.ref p, .str y.word] ∧ WAt C H p ws k ∧ y.ok ∧ ws.drop k = y.val.words ++ rest ∧ ∀ H', WAt C H' p ws (k + y.val.words.length) → But p H H' → Q (valV y.val) H'
def spTW (C D : Addr) : Sp := fun vs H Q _ => ∃ (p : Addr) (ws rest : List Str) (k : Nat) (y : Wh), vs = [.ref p] ∧ WAt C H p ws k ∧ y.ok ∧ y.size ≤ 9 ∧ ws.drop k = y.words ++ rest ∧ ∀ v H', WAt C H' p ws (k + y.words.length) → But p H H' → IsW D H' v y → Q v H'
theorem drop_head {ws rest : List Str} {k : Nat} {u : Str} (h : ws.drop k = u :: rest) : ws[k]? = some u ∧ ws.drop (k + 1) = rest := by
  constructor
  · have e : (ws.drop k)[0]? = some u := by rw [h]; rfl
    rw [List.getElem?_drop] at e
    simpa using e
  · rw [← List.drop_drop, h]
    rfl
section
variable {P : Program} {w : World} {K : PySem.W.Frag} {mg : Str → Option Value} {base : Heap}
theorem ok_take_value (T : Tx K mg) : FnOk P w K mg base CX0 4 T.f_take_value T.d_take_value P_take_value (spTV T.c_Words) := by
  have G_Words_take_name := ok_Words_take_name (P := P) (w := w) (base := base) T
  have G_Words_take_number := ok_Words_take_number (P := P) (w := w) (base := base) T
  refine T.F_take_value.ok sc_take_value (fun vs H Q E h => ?_) (fun cdv A outer s H vs Q E hr h => ?_)
  · obtain ⟨p, ws, rest, k, y, rfl, _⟩ := h
    rfl
  obtain ⟨p, ws, rest, k, y, rfl, W, ok, hd, q⟩ := h
  refine ⟨_,   (pss_cons (ps_if (pt_cmpR op_eq (pv 1) pe_str (nomark _))
      (pss_one (ps_ret (pe_meth0 (pv 0) T.cl_Words T.M_Words_take_name G_Words_take_name hr (b_Words_take_name T) .nil pass0)))
      pss_nil)
    (pss_cons (ps_if (pt_cmpR op_eq (pv 1) pe_str (nomark _))
      (pss_one (ps_ret (pe_meth0 (pv 0) T.cl_Words T.M_Words_take_number G_Words_take_number hr (b_Words_take_number T) .nil pass0)))
      pss_nil)
    (pss_one (ps_ret pe_non)))), ?_⟩
  obtain ⟨dx, l, h1, h2⟩ := id W
  refine ⟨_, rfl, rfl, _, rfl, ?_⟩
  cases y with
  | mark n =>
    refine iteT ?_
    refine ⟨_, rfl, p, dx, _, rfl, h1, wfs_no _ _ (by decide +kernel) (by decide +kernel), p, ws, k, n, rfl, W, (drop_head hd).1, ok, fun H1 W1 B1 => ?_⟩
    exact q H1 W1 B1
  | force i =>
    refine iteF ?_
    refine ⟨_, rfl, rfl, _, rfl, iteT ?_⟩
    refine ⟨_, rfl, p, dx, _, rfl, h1, wfs_no _ _ (by decide +kernel) (by decide +kernel), p, ws, k, i, rfl, W, (drop_head hd).1, ok, fun H1 W1 B1 => ?_⟩
    exact q H1 W1 B1
  | _ => exact iteF ⟨_, rfl, rfl, _, rfl, iteF (q H W (But.refl p H))⟩
theorem ok_built (T : Tx K mg) (kb : K.In base) : FnOk P w K mg base CX0 4 T.f_built T.d_built P_built (spBuilt T.c_Whom) := by
  have G_Whom := ok_Whom (P := P) (w := w) (base := base) T
  refine T.F_built.ok sc_built (fun vs H Q E h => ?_) (fun cdv A outer s H vs Q E hr h => ?_)
  · obtain ⟨l, y, rfl, _⟩ := h
    rfl
  obtain ⟨l, y, rfl, ⟨as, h1, h2, h3⟩, hs, q⟩ := h
  refine ⟨_,   (pss_cons (ps_set (i := 1) sc_built.nd rfl (Or.inl rfl) (pe_lst pa_nil))
    (pss_cons (ps_for PassesOwn.never rfl (pi_reversed rfl T.z_reversed (pa_cons (pv 0) pa_nil)) (pg_tup (n := 2) rfl (pgs_cons (pg_name (i := 2) sc_built.nd rfl (Or.inl rfl)) (pgs_cons (pg_name (i := 3) sc_built.nd rfl (Or.inl rfl)) pgs_nil)))
      (pss_cons (ps_set (i := 4) sc_built.nd rfl (Or.inl rfl) (pe_ix (ix_tab (tab_PARTS T kb)) (pe_glob (v := .ref T.a_PARTS) rfl T.g_PARTS rfl) (pv 2) (fun _ _ => rfl)))
      (pss_one (ps_set (i := 1) sc_built.nd rfl (Or.inl rfl) (pe_op op_cat (pe_lst (pa_cons (pe_make T.Mk_Whom G_Whom hr rfl T.m_Whom (b_Whom___init__ T) .nil pass0 (pa_cons (pv 2) (pa_cons (pv 3) (pa_cons (pe_callTy call_tuple_of rfl T.z_tuple boot_tuple (pa_cons (pe_slice sl_list (pv 1) po_none (po_some (pv 4))) pa_nil)) pa_nil)))) pa_nil)) (pe_slice sl_list (pv 1) (po_some (pv 4)) po_none))))))
    (pss_one (ps_ret (pe_ix ix_list (pv 1) pe_int (fun _ _ => rfl)))))), ?_⟩
  refine ⟨(by show 0 ≤ sizeLine; decide), fun w0 hw0 => ?_⟩
  have S0 : Same H (upd H w0 (.lst [])) := same_new hw0 _
  have fl := y.flat_len
  have len : (as.map V.ref).length = y.size := by rw [List.length_map, h2, fl]
  refine ⟨_, rfl, l, as.map V.ref, rfl, SqL.of (S0 _ _ h1), ?_⟩
  refine for_rev (xs := as.map V.ref) (fun i σ H' => ∃ (wl : Addr) (vs : List V) (o2 o3 o4 : Option V), σ = [some (.ref l), some (.ref wl), o2, o3, o4] ∧ Same H H' ∧ H' wl = some (.lst vs) ∧ IsWs T.c_Whom H' vs (pend y (y.size - i))) ⟨w0, [], _, _, _, rfl, S0, upd_same, by rw [Nat.sub_zero, pend_end]; exact .nil⟩ (fun i σ H' _ ⟨_, _, _, _, _, _, S', _⟩ => SqL.of (S' _ _ h1)) ?_ ?_
  · rintro i x σ H' hi hx ⟨wl, vs, o2, o3, o4, rfl, S1, e1, W1⟩
    rw [len] at hi hx
    have hj : y.size - 1 - i < y.size := by omega
    obtain ⟨z, t, ez⟩ := pend_ne hj
    have ef := pend_at ez
    rw [List.getElem?_map] at hx
    cases ea : as[y.size - 1 - i]? with
    | none =>
      rw [ea] at hx
      cases hx
    | some a =>
    rw [ea] at hx
    cases hx
    have ha := S1 _ _ (h3 _ _ _ ea ef)
    have ep : pend y (y.size - i) = z.parts ++ t := by
      rw [show y.size - i = (y.size - 1 - i) + 1 by omega]
      show step (pend y (y.size - 1 - i)) = _
      rw [ez]
      rfl
    rw [ep] at W1
    obtain ⟨Wp, Wt⟩ := W1.split
    have vl := W1.length
    rw [List.length_append] at vl
    have szp := pend_size y (y.size - i)
    have lez : (z.parts ++ t).length ≤ sizeF (z.parts ++ t) := by
      have go : ∀ l : List Wh, l.length ≤ sizeF l := by
        intro l
        induction l with
        | nil => exact Nat.zero_le _
        | cons x r ih =>
          have e2 : sizeF (x :: r) = x.size + sizeF r := by simp [sizeF]
          have := x.size_pos
          rw [e2, List.length_cons]
          omega
      exact go _
    rw [ep] at szp
    rw [List.length_append] at lez
    refine ⟨a, _, rfl, SqT.of ha, rfl, _, _, rfl, _, _, rfl, rfl, ?_⟩
    refine ⟨_, rfl, _, _, rfl, rfl, part_dat z, ?_⟩
    refine ⟨_, rfl, _, rfl, _, rfl, _, rfl, _, rfl, wl, vs, rfl, SqL.of e1, fun s1 hs1 => ?_⟩
    have S2 := same_new hs1 (.lst (cutV vs none (some ((z.parts.length : Nat) : Int))))
    refine ⟨s1, _, rfl, .inl ⟨SqL.of upd_same, fun tp htp => ?_⟩⟩
    have S3 := same_new htp (.tup (cutV vs none (some ((z.parts.length : Nat) : Int))))
    intro x dx nx ndx nex
    refine ⟨x, dx, tp, z.word, valV z.val, rfl, upd_same, rfl, ?_⟩
    rw [upd_upd]
    have etp := ne_of_none (b := x) (upd_same (H := upd H' s1 (.lst (cutV vs none (some ((z.parts.length : Nat) : Int))))) (a := tp) (o := .tup (cutV vs none (some ((z.parts.length : Nat) : Int))))) nx
    have etd := ne_of_none (b := dx) (upd_same (H := upd H' s1 (.lst (cutV vs none (some ((z.parts.length : Nat) : Int))))) (a := tp) (o := .tup (cutV vs none (some ((z.parts.length : Nat) : Int))))) ndx
    generalize hH3 : upd (upd H' s1 (.lst (cutV vs none (some ((z.parts.length : Nat) : Int))))) tp (.tup (cutV vs none (some ((z.parts.length : Nat) : Int)))) = H3 at *
    have e3 : H3 tp = some (.tup (vs.take z.parts.length)) := by rw [← hH3, upd_same, cutV_take]
    have S4 : Same H3 (upd (upd H3 dx (.own x)) x (.ins T.c_Whom dx (hfs z.word (valV z.val) tp))) := fun b o e => by
      rw [upd_ne (ne_of_none e nx), upd_ne (ne_of_none e ndx)]
      exact e
    have e4 : upd (upd H3 dx (.own x)) x (.ins T.c_Whom dx (hfs z.word (valV z.val) tp)) x = some (.ins T.c_Whom dx (hfs z.word (valV z.val) tp)) := upd_same
    generalize upd (upd H3 dx (.own x)) x (.ins T.c_Whom dx (hfs z.word (valV z.val) tp)) = H4 at *
    have S14 : Same H' H4 := S2.trans (S3.trans S4)
    refine ⟨(by show 1 ≤ sizeLine; decide), fun q1 hq1 => ?_⟩
    have S5 := same_new hq1 (.lst [.ref x])
    refine ⟨_, rfl, _, rfl, _, rfl, wl, vs, rfl, SqL.of (S5 _ _ (S14 _ _ e1)), fun s2 hs2 => ?_⟩
    have e5 : upd H4 q1 (.lst [.ref x]) q1 = some (.lst [.ref x]) := upd_same
    generalize upd H4 q1 (.lst [.ref x]) = H5 at *
    have S6 := same_new hs2 (.lst (cutV vs (some ((z.parts.length : Nat) : Int)) none))
    have e6 : upd H5 s2 (.lst (cutV vs (some ((z.parts.length : Nat) : Int)) none)) s2 = some (.lst (vs.drop z.parts.length)) := by rw [upd_same, cutV_drop]
    generalize upd H5 s2 (.lst (cutV vs (some ((z.parts.length : Nat) : Int)) none)) = H6 at *
    refine ⟨q1, s2, _, _, rfl, rfl, S6 _ _ e5, e6, ?_, fun r hr' => ?_⟩
    · rw [List.length_drop, List.length_singleton]
      exact small (by omega)
    have S7 := same_new hr' (.lst ([.ref x] ++ vs.drop z.parts.length))
    have S37 : Same H3 (upd H6 r (.lst ([.ref x] ++ vs.drop z.parts.length))) := S4.trans (S5.trans (S6.trans S7))
    have S17 : Same H' (upd H6 r (.lst ([.ref x] ++ vs.drop z.parts.length))) := S14.trans (S5.trans (S6.trans S7))
    refine ⟨r, _, _, _, _, rfl, S1.trans S17, upd_same, ?_⟩
    rw [show y.size - (i + 1) = y.size - 1 - i by omega, ez]
    exact .cons (.mk ((S5.trans (S6.trans S7)) _ _ e4) (S37 _ _ e3) (Wp.same S17)) (Wt.same S17)
  · rintro σ H' ⟨wl, vs, o2, o3, o4, rfl, S1, e1, W1⟩
    rw [len, Nat.sub_self] at W1
    have W1' : IsWs T.c_Whom H' vs [y] := W1
    cases W1' with
    | cons hv ht =>
    cases ht
    exact ⟨_, rfl, wl, _, _, _, rfl, rfl, SqL.of e1, rfl, q _ H' S1 hv⟩
end
theorem step_of {y z : Wh} {t : List Wh} {j : Nat} (e : pend y j = z :: t) : pend y (j + 1) = z.parts ++ t := by
  show step (pend y j) = _
  rw [e]
  rfl
theorem flat_snoc {y : Wh} {j : Nat} {x : Str × Wv} (h : y.flat[j]? = some x) : y.flat.take j ++ [x] = y.flat.take (j + 1) := by
  rw [List.take_add_one, h]
  rfl
section
variable {P : Program} {w : World} {K : PySem.W.Frag} {mg : Str → Option Value} {base : Heap}
theorem ok_take_whom (T : Tx K mg) (kb : K.In base) : FnOk P w K mg base CX0 5 T.f_take_whom T.d_take_whom P_take_whom (spTW T.c_Words T.c_Whom) := by
  have G_Words_take := (ok_Words_take (P := P) (w := w) (base := base) T).mono (by decide : 2 ≤ 4)
  have G_take_value := ok_take_value (P := P) (w := w) (base := base) T
  have G_built := ok_built (P := P) (w := w) (base := base) T kb
  refine T.F_take_whom.ok sc_take_whom (fun vs H Q E h => ?_) (fun cdv A outer s H vs Q E hr h => ?_)
  · obtain ⟨p, ws, rest, k, y, rfl, _⟩ := h
    rfl
  obtain ⟨p, ws, rest, k, y, rfl, W, ok, hs, hd, q⟩ := h
  refine ⟨_,   (pss_cons (ps_set (i := 1) sc_take_whom.nd rfl (Or.inl rfl) (pe_lst pa_nil))
    (pss_cons (ps_set (i := 2) sc_take_whom.nd rfl (Or.inl rfl) pe_int)
    (pss_cons (ps_while PassesOwn.never (pt_cmpR op_gt (pv 2) pe_int (nomark _))
      (pss_cons (ps_if (pt_cmpR op_eq (pe_callB call_len_seq rfl T.z_len PySem.boot_len (pa_cons (pv 1) pa_nil)) (pe_glob (v := .int 9) rfl T.g_MOST_WORDS ⟨_, rfl⟩) (nomark _))
        (pss_one ps_never)
        pss_nil)
      (pss_cons (ps_set (i := 3) sc_take_whom.nd rfl (Or.inl rfl) (pe_meth0 (pv 0) T.cl_Words T.M_Words_take G_Words_take hr (b_Words_take T) .nil pass0))
      (pss_cons (ps_if (pt_cmpR (op_notIn_tab (tab_PARTS T kb)) (pv 3) (pe_glob (v := .ref T.a_PARTS) rfl T.g_PARTS rfl) rfl)
        (pss_one ps_never)
        pss_nil)
      (pss_cons (ps_expr (pe_bm PySem.F.plainAttrs_list PySem.F.slot_list_append PySem.F.type_list_append mt_append (pv 1) (pa_cons (pe_tup (pa_cons (pv 3) (pa_cons (pe_call G_take_value hr rfl T.m_take_value T.F_take_value.kp (b_take_value T) .nil pass0 (pa_cons (pv 0) (pa_cons (pv 3) pa_nil))) pa_nil))) pa_nil)))
      (pss_one (ps_aug (i := 2) sc_take_whom.nd rfl (Or.inl rfl) (pe_op op_sub (pe_ix (ix_tab (tab_PARTS T kb)) (pe_glob (v := .ref T.a_PARTS) rfl T.g_PARTS rfl) (pv 3) (fun _ _ => rfl)) pe_int) ip_add)))))))
    (pss_one (ps_ret (pe_call G_built hr rfl T.m_built T.F_built.kp (b_built T) .nil pass0 (pa_cons (pv 1) pa_nil))))))), ?_⟩
  refine ⟨(by show 0 ≤ sizeLine; decide), fun l hl => ?_⟩
  have fl := y.flat_len
  refine ⟨fun m σ H' => ∃ (j k' : Nat) (o : Option V), m = y.size - j ∧ σ = [some (.ref p), some (.ref l), some (.int ((pend y j).length : Nat)), o] ∧ j ≤ y.size ∧ But p H H' ∧ WAt T.c_Words H' p ws k' ∧ ws.drop k' = wordsF (pend y j) ++ rest ∧ k' + (wordsF (pend y j)).length = k + y.words.length ∧ TkAt H' l (y.flat.take j), ⟨_, 0, k, none, rfl, rfl, Nat.zero_le _, But.laid hl, W.at (same_new hl _), ?_, ?_, [], upd_same, rfl, ?_⟩, ?_⟩
  · show _ = wordsF [y] ++ rest
    rw [wordsF_one]
    exact hd
  · show _ + (wordsF [y]).length = _
    rw [wordsF_one]
  · intro i a x e
    simp at e
  rintro m σ H' ⟨j, k', o, rfl, rfl, hj, B, W', hd', hk', TA⟩
  refine ⟨_, rfl, _, _, rfl, rfl, _, rfl, ?_⟩
  obtain ⟨as, t1, t2, t3⟩ := id TA
  rw [List.length_take] at t2
  refine ite2 (fun c => ?_) (fun c => ?_)
  · have c' : (0 : Int) < (((pend y j).length : Nat) : Int) := of_decide_eq_true c
    have hjl : j < y.size := by
      rcases Nat.lt_or_ge j y.size with z | z
      · exact z
      · have e : j = y.size := by omega
        rw [e, pend_end] at c'
        exact absurd c' (by simp)
    obtain ⟨z, t, ez⟩ := pend_ne hjl
    have zok : z.ok := pend_ok ok j z (by rw [ez]; exact List.mem_cons_self)
    have ef := pend_at ez
    rw [ez, wordsF_cons] at hd' hk'
    have es := step_of ez
    obtain ⟨u1, u2⟩ := drop_head (rest := (z.val.words ++ wordsF (z.parts ++ t)) ++ rest) hd'
    have u2' : ws.drop (k' + 1) = z.val.words ++ (wordsF (z.parts ++ t) ++ rest) := by rw [u2, List.append_assoc]
    have kws : k' < ws.length := (List.getElem?_eq_some_iff.mp u1).1
    refine ⟨_, fun σ' H' n => n, ?_⟩
    refine ⟨_, rfl, l, _, rfl, .inl (SqL.of t1), rfl, _, rfl, ?_⟩
    refine ite2 (fun c1 => ?_) (fun c1 => ?_)
    · exfalso
      have c1' := of_decide_eq_true c1
      injection c1' with c1'
      rw [List.length_map] at c1'
      omega
    obtain ⟨dx, wl, w1, w2⟩ := id W'
    refine ⟨_, rfl, p, dx, _, rfl, w1, wfs_no _ _ (by decide +kernel) (by decide +kernel), p, ws, k', z.word, rfl, W', u1, fun H1 W1 B1 => ?_⟩
    refine ⟨_, rfl, _, rfl, rfl, _, rfl, ?_⟩
    rw [part_in]
    refine iteF ?_
    have TA1 := TA.but B1 w1
    obtain ⟨dx1, wl1, w11, w12⟩ := id W1
    have t11 := B1 _ _ (ne_of t1 w1 (by intro z; cases z)) t1
    refine ⟨_, rfl, .inl ⟨rfl, _, SqL.of t11⟩, _, rfl, _, rfl, _, rfl, p, ws, _, k' + 1, z, rfl, W1, zok, u2', fun H2 W2 B2 => ?_⟩
    have TA2 := TA1.but B2 w11
    have t12 := B2 _ _ (ne_of t11 w11 (by intro z; cases z)) t11
    refine ⟨(by show 2 ≤ sizeLine; decide), fun a ha => ?_⟩
    have S3 := same_new ha (.tup [.str z.word, valV z.val])
    have TA3 := TA2.same S3
    have t13 := S3 _ _ t12
    have e3 : upd H2 a (.tup [.str z.word, valV z.val]) a = some (.tup [.str z.word, valV z.val]) := upd_same
    generalize upd H2 a (.tup [.str z.word, valV z.val]) = H3 at *
    have W3 := W2.at S3
    obtain ⟨dx3, wl3, w31, w32⟩ := id W3
    have npl : p ≠ l := ne_of w31 t13 (by intro z; cases z)
    have nwl : wl3 ≠ l := by
      intro z
      rw [z, t13] at w32
      injection w32 with w32
      injection w32 with w32
      cases ws with
      | nil => exact absurd kws (by simp)
      | cons u r =>
        cases as with
        | nil => simp at w32
        | cons b r' => simp at w32
    refine ⟨l, _, _, rfl, rfl, t13, ?_, ?_⟩
    · rw [List.length_map]
      exact small1000 (by omega)
    have TA4 := TA3.snoc (x := (z.word, z.val)) e3 t13
    rw [flat_snoc ef] at TA4
    have W4 : WAt T.c_Words (upd H3 l (.lst (as.map V.ref ++ [.ref a]))) p ws (k' + 1 + z.val.words.length) := ⟨dx3, wl3, by rw [upd_ne npl]; exact w31, by rw [upd_ne nwl]; exact w32⟩
    have B4 : But p H (upd H3 l (.lst (as.map V.ref ++ [.ref a]))) := fun b o n e => by
      rw [upd_ne (ne_of_none e hl)]
      exact S3 _ _ (B2 _ _ n (B1 _ _ n (B _ _ n e)))
    have em : (((pend y j).length : Nat) : Int) + (((z.parts.length : Nat) : Int) - 1) = (((pend y (j + 1)).length : Nat) : Int) := by
      rw [ez, es, List.length_cons, List.length_append]
      omega
    refine ⟨_, rfl, _, rfl, _, _, rfl, rfl, part_dat z, _, _, rfl, rfl, _, _, rfl, rfl, ?_⟩
    refine ⟨y.size - (j + 1), by omega, j + 1, k' + 1 + z.val.words.length, _, rfl, (by rw [← em]; rfl), hjl, B4, W4, ?_, ?_, TA4⟩
    · rw [es, ← List.drop_drop, u2', List.drop_left]
    · rw [es]
      rw [List.length_cons, List.length_append] at hk'
      omega
  · have c' : ¬ (0 : Int) < (((pend y j).length : Nat) : Int) := of_decide_eq_false (Bool.eq_false_iff.mpr c)
    have ej : j = y.size := by
      rcases Nat.lt_or_ge j y.size with z | z
      · obtain ⟨z, t, ez⟩ := pend_ne z
        rw [ez, List.length_cons] at c'
        omega
      · omega
    subst ej
    rw [pend_end] at hk'
    rw [List.take_of_length_le (by omega)] at TA
    have hk2 : k' = k + y.words.length := hk'
    subst hk2
    refine ⟨_, rfl, l, y, rfl, TA, hs, fun v H2 S2 IW => ?_⟩
    exact q v H2 (W'.at S2) (B.of_same S2) IW
end
theorem inV_mem {u : Str} : ∀ {ss : List Str}, u ∈ ss → inV (.str u) (ss.map V.str) = true
  | x :: ss, h => by
    show (eqV (.str x) (.str u) || inV (.str u) (ss.map V.str)) = true
    rcases List.mem_cons.mp h with rfl | h
    · have e : eqV (.str u) (.str u) = true := by show (u == u) = true; simp
      rw [e]; rfl
    · rw [inV_mem h, Bool.or_true]
theorem flats_str : ∀ ss : List Str, (ss.map V.str).all flatV = true
  | [] => rfl
  | _ :: ss => flats_str ss
def Kn (K : PySem.W.Frag) (H : Hp) (t : Addr) (ss : List Str) : Prop := TupK K t ss ∨ H t = some (.tup (ss.map V.str))
theorem Kn.sq {K : PySem.W.Frag} {H H' : Hp} {t p C dx l : Addr} {k : Int} {ss : List Str} (h : Kn K H t ss) (hz : ss.length ≤ 1000) (hp : H p = some (.ins C dx (wfs l k))) (b : But p H H') : SqT K H' t (ss.map V.str) := by
  rcases h with h | h
  · exact h.sq hz H'
  · exact SqT.of (b _ _ (ne_of h hp (by intro z; cases z)) h)
theorem drop_end {ws xs : List Str} {k : Nat} (h : ws.drop k = xs) (hx : xs ≠ []) : k + xs.length = ws.length := by
  have e := congrArg List.length h
  rw [List.length_drop] at e
  have : xs.length ≠ 0 := fun z => hx (List.eq_nil_of_length_eq_zero z)
  omega
theorem drop_past {ws xs ys : List Str} {k : Nat} (h : ws.drop k = xs ++ ys) : ws.drop (k + xs.length) = ys := by
  rw [← List.drop_drop, h, List.drop_left]
def amtV : Wv → V
  | .non => .int 0
  | .name n => .str n
  | .num i => .int i
def HvAt (D : Addr) (H : Hp) (x : V) : Hv → Prop
  | .v y => x = valV y
  | .w y => IsW D H x y
def IsDeed (D : Addr) (H : Hp) (v : V) (d : Deed) : Prop := ∃ a x, v = .ref a ∧ H a = some (.tup [.str d.each, .str d.kind, amtV d.amt, x]) ∧ IsW D H x d.whom
def IsRule (D : Addr) (H : Hp) (v : V) : Rule → Prop
  | .hold w y z => ∃ a x u, v = .ref a ∧ H a = some (.tup [.str "hold", .str w, x, u]) ∧ HvAt D H x y ∧ IsW D H u z
  | .wen k y d => ∃ a x u, v = .ref a ∧ H a = some (.tup [.str "when", .str k, x, u]) ∧ IsW D H x y ∧ IsDeed D H u d
  | .instead k y w z => ∃ a x, v = .ref a ∧ H a = some (.tup [.str "instead", .str k, x, .str w, valV z]) ∧ IsW D H x y
  | .may c d => ∃ a u, v = .ref a ∧ H a = some (.tup [.str "may", .int c, u]) ∧ IsDeed D H u d
theorem HvAt.same {D : Addr} {H H' : Hp} (s : Same H H') {x : V} : ∀ {y : Hv}, HvAt D H x y → HvAt D H' x y
  | .v _, h => h
  | .w _, h => IsW.same s h
theorem HvAt.but {D C p dy l : Addr} {k : Int} {H H' : Hp} (b : But p H H') (hp : H p = some (.ins C dy (wfs l k))) {x : V} : ∀ {y : Hv}, HvAt D H x y → HvAt D H' x y
  | .v _, h => h
  | .w _, h => IsW.but b hp h
theorem IsDeed.same {D : Addr} {H H' : Hp} (s : Same H H') {v : V} {d : Deed} (h : IsDeed D H v d) : IsDeed D H' v d := by
  obtain ⟨a, x, e, h1, h2⟩ := h
  exact ⟨a, x, e, s _ _ h1, h2.same s⟩
theorem IsDeed.but {D C p dy l : Addr} {k : Int} {H H' : Hp} (b : But p H H') (hp : H p = some (.ins C dy (wfs l k))) {v : V} {d : Deed} (h : IsDeed D H v d) : IsDeed D H' v d := by
  obtain ⟨a, x, e, h1, h2⟩ := h
  exact ⟨a, x, e, b _ _ (ne_of h1 hp (by intro z; cases z)) h1, h2.but b hp⟩
theorem IsRule.same {D : Addr} {H H' : Hp} (s : Same H H') {v : V} : ∀ {r : Rule}, IsRule D H v r → IsRule D H' v r
  | .hold w y z, ⟨a, x, u, e, h, p, q⟩ => ⟨a, x, u, e, s _ _ h, p.same s, q.same s⟩
  | .wen k y d, ⟨a, x, u, e, h, p, q⟩ => ⟨a, x, u, e, s _ _ h, p.same s, q.same s⟩
  | .instead k y w z, ⟨a, x, e, h, p⟩ => ⟨a, x, e, s _ _ h, p.same s⟩
  | .may c d, ⟨a, u, e, h, p⟩ => ⟨a, u, e, s _ _ h, p.same s⟩
theorem turns_dat {k : Str} (h : k ∈ deedKinds) : KTD.datumAt k D_TURNS = some (.tup ((turns k).map PyData.str)) := by
  simp only [deedKinds, List.mem_cons, List.not_mem_nil, or_false] at h
  rcases h with rfl | rfl | rfl | rfl | rfl | rfl | rfl <;> rfl
theorem turns_len (k : Str) : (turns k).length ≤ 1000 := by
  unfold turns
  repeat' split
  all_goals decide
def spOne (K : PySem.W.Frag) (C : Addr) : Sp := fun vs H Q _ => ∃ (p t : Addr) (ws : List Str) (k : Nat) (u : Str) (ss : List Str), vs = [.ref p, .ref t] ∧ WAt C H p ws k ∧ ws[k]? = some u ∧ u ∈ ss ∧ ss.length ≤ 1000 ∧ Kn K H t ss ∧ ∀ H', WAt C H' p ws (k + 1) → But p H H' → Q (.str u) H'
def spAmt (C : Addr) : Sp := fun vs H Q _ => ∃ (p : Addr) (ws rest : List Str) (k : Nat) (u : Str) (v : Wv), vs = [.ref p, .str u] ∧ WAt C H p ws k ∧ AmtOk u v ∧ ws.drop k = v.words ++ rest ∧ ∀ H', WAt C H' p ws (k + v.words.length) → But p H H' → Q (amtV v) H'
def spTurn (C : Addr) : Sp := fun vs H Q _ => ∃ (p : Addr) (ws : List Str) (k : Nat) (u : Str) (v : Wv), vs = [.ref p, .str u] ∧ WAt C H p ws k ∧ TurnOk u v ∧ ws.drop k = v.words ∧ ∀ H', WAt C H' p ws (k + v.words.length) → But p H H' → Q (valV v) H'
def spChange (C D : Addr) : Sp := fun vs H Q _ => ∃ (p : Addr) (ws rest : List Str) (k : Nat) (u : Str) (v : Hv), vs = [.ref p, .str u] ∧ WAt C H p ws k ∧ HoldOk u v ∧ ws.drop k = v.words ++ rest ∧ ∀ x H', WAt C H' p ws (k + v.words.length) → But p H H' → HvAt D H' x v → Q x H'
def spDeed (C D : Addr) : Sp := fun vs H Q _ => ∃ (p : Addr) (ws : List Str) (k : Nat) (d : Deed), vs = [.ref p] ∧ WAt C H p ws k ∧ d.ok ∧ ws.drop k = d.words ∧ ∀ v H', WAt C H' p ws ws.length → But p H H' → IsDeed D H' v d → Q v H'
def spTakes (C D : Addr) (f : Rule → Prop) : Sp := fun vs H Q _ => ∃ (p : Addr) (ws : List Str) (k : Nat) (r : Rule), vs = [.ref p] ∧ f r ∧ WAt C H p ws k ∧ r.ok ∧ ws.drop k = r.words.drop 1 ∧ ∀ v H', WAt C H' p ws ws.length → But p H H' → IsRule D H' v r → Q v H'
section
variable {P : Program} {w : World} {K : PySem.W.Frag} {mg : Str → Option Value} {base : Heap}
theorem ok_Words_take_one_of (T : Tx K mg) : FnOk P w K mg base CX0 3 T.f_Words_take_one_of T.d_Words_take_one_of P_Words_take_one_of (spOne K T.c_Words) := by
  have G_Words_take := ok_Words_take (P := P) (w := w) (base := base) T
  refine T.F_Words_take_one_of.ok sc_Words_take_one_of (fun vs H Q E h => ?_) (fun cdv A outer s H vs Q E hr h => ?_)
  · obtain ⟨p, t, ws, k, u, ss, rfl, _⟩ := h
    rfl
  obtain ⟨p, t, ws, k, u, ss, rfl, W, hu, hm, hz, hk, q⟩ := h
  refine ⟨_,   (pss_cons (ps_set (i := 2) sc_Words_take_one_of.nd rfl (Or.inl rfl) (pe_meth0 (pv 0) T.cl_Words T.M_Words_take G_Words_take hr (b_Words_take T) .nil pass0))
    (pss_cons (ps_if (pt_cmpR op_notIn_seq (pv 2) (pv 1) rfl)
      (pss_one ps_never)
      pss_nil)
    (pss_one (ps_ret (pv 2))))), ?_⟩
  obtain ⟨dx, l, h1, h2⟩ := id W
  refine ⟨_, rfl, p, dx, _, rfl, h1, wfs_no _ _ (by decide +kernel) (by decide +kernel), p, ws, k, u, rfl, W, hu, fun H1 W1 B1 => ?_⟩
  refine ⟨_, rfl, _, rfl, t, _, rfl, .inr (hk.sq hz h1 B1), rfl, flats_str ss, _, rfl, ?_⟩
  have e : (if true = true then !inV (.str u) (ss.map V.str) else inV (.str u) (ss.map V.str)) = false := by rw [inV_mem hm]; rfl
  refine ite2 (fun c => absurd (e.symm.trans c) Bool.false_ne_true) (fun _ => ?_)
  exact ⟨_, rfl, q H1 W1 B1⟩
theorem ok_take_amount (T : Tx K mg) : FnOk P w K mg base CX0 4 T.f_take_amount T.d_take_amount P_take_amount (spAmt T.c_Words) := by
  have G_Words_take_name := ok_Words_take_name (P := P) (w := w) (base := base) T
  have G_Words_take_number := ok_Words_take_number (P := P) (w := w) (base := base) T
  refine T.F_take_amount.ok sc_take_amount (fun vs H Q E h => ?_) (fun cdv A outer s H vs Q E hr h => ?_)
  · obtain ⟨p, ws, rest, k, u, v, rfl, _⟩ := h
    rfl
  obtain ⟨p, ws, rest, k, u, v, rfl, W, ok, hd, q⟩ := h
  refine ⟨_,   (pss_cons (ps_if (pt_cmpR op_eq (pv 1) pe_str (nomark _))
      (pss_one (ps_ret pe_int))
      pss_nil)
    (pss_cons (ps_if (pt_cmpR op_in_seq (pv 1) (pe_tup (pa_cons pe_str (pa_cons pe_str pa_nil))) rfl)
      (pss_one (ps_ret (pe_meth0 (pv 0) T.cl_Words T.M_Words_take_name G_Words_take_name hr (b_Words_take_name T) .nil pass0)))
      pss_nil)
    (pss_one (ps_ret (pe_meth0 (pv 0) T.cl_Words T.M_Words_take_number G_Words_take_number hr (b_Words_take_number T) .nil pass0))))), ?_⟩
  obtain ⟨dx, l, h1, h2⟩ := id W
  have nam : ∀ {n : Str}, NameOk n → ws.drop k = n :: rest → ∀ {a : Addr} {o : HO}, H a = none → (∀ H', WAt T.c_Words H' p ws (k + 1) → But p H H' → Q (.str n) H') → ∃ (p' : Addr) (ws' : List Str) (k' : Nat) (u' : Str), [V.ref p] = [.ref p'] ∧ WAt T.c_Words (upd H a o) p' ws' k' ∧ ws'[k']? = some u' ∧ NameOk u' ∧ ∀ H', WAt T.c_Words H' p' ws' (k' + 1) → But p' (upd H a o) H' → Q (.str u') H' :=
    fun {_} hn e {a o} ha q => ⟨p, ws, k, _, rfl, W.at (same_new ha o), (drop_head e).1, hn, fun H1 W1 B1 => q H1 W1 ((But.laid ha).trans B1)⟩
  have num : ∀ {i : Nat}, i < 1000 → ws.drop k = (toString (i : Int) : Str) :: rest → ∀ {a : Addr} {o : HO}, H a = none → (∀ H', WAt T.c_Words H' p ws (k + 1) → But p H H' → Q (.int i) H') → ∃ (p' : Addr) (ws' : List Str) (k' i' : Nat), [V.ref p] = [.ref p'] ∧ WAt T.c_Words (upd H a o) p' ws' k' ∧ ws'[k']? = some (toString (i' : Int) : Str) ∧ i' < 1000 ∧ ∀ H', WAt T.c_Words H' p' ws' (k' + 1) → But p' (upd H a o) H' → Q (.int i') H' :=
    fun {_} hn e {a o} ha q => ⟨p, ws, k, _, rfl, W.at (same_new ha o), (drop_head e).1, hn, fun H1 W1 B1 => q H1 W1 ((But.laid ha).trans B1)⟩
  have at1 : ∀ {a : Addr} {o : HO}, H a = none → upd H a o p = some (.ins T.c_Words dx (wfs l (k : Int))) := fun {a o} ha => by rw [upd_ne (ne_of_none h1 ha)]; exact h1
  refine ⟨_, rfl, rfl, _, rfl, ?_⟩
  cases ok with
  | leave => exact iteT (q H W (But.refl p H))
  | gain hn =>
    refine iteF ⟨_, rfl, (by show 2 ≤ sizeLine; decide), fun a ha => ⟨a, _, rfl, .inr (SqT.of upd_same), rfl, rfl, _, rfl, iteT ?_⟩⟩
    exact ⟨_, rfl, p, dx, _, rfl, at1 ha, wfs_no _ _ (by decide +kernel) (by decide +kernel), nam hn hd ha q⟩
  | lack hn =>
    refine iteF ⟨_, rfl, (by show 2 ≤ sizeLine; decide), fun a ha => ⟨a, _, rfl, .inr (SqT.of upd_same), rfl, rfl, _, rfl, iteT ?_⟩⟩
    exact ⟨_, rfl, p, dx, _, rfl, at1 ha, wfs_no _ _ (by decide +kernel) (by decide +kernel), nam hn hd ha q⟩
  | hurt hn =>
    refine iteF ⟨_, rfl, (by show 2 ≤ sizeLine; decide), fun a ha => ⟨a, _, rfl, .inr (SqT.of upd_same), rfl, rfl, _, rfl, iteF ?_⟩⟩
    exact ⟨_, rfl, p, dx, _, rfl, at1 ha, wfs_no _ _ (by decide +kernel) (by decide +kernel), num hn hd ha q⟩
  | lose hn =>
    refine iteF ⟨_, rfl, (by show 2 ≤ sizeLine; decide), fun a ha => ⟨a, _, rfl, .inr (SqT.of upd_same), rfl, rfl, _, rfl, iteF ?_⟩⟩
    exact ⟨_, rfl, p, dx, _, rfl, at1 ha, wfs_no _ _ (by decide +kernel) (by decide +kernel), num hn hd ha q⟩
  | score hn =>
    refine iteF ⟨_, rfl, (by show 2 ≤ sizeLine; decide), fun a ha => ⟨a, _, rfl, .inr (SqT.of upd_same), rfl, rfl, _, rfl, iteF ?_⟩⟩
    exact ⟨_, rfl, p, dx, _, rfl, at1 ha, wfs_no _ _ (by decide +kernel) (by decide +kernel), num hn hd ha q⟩
  | draw hn =>
    refine iteF ⟨_, rfl, (by show 2 ≤ sizeLine; decide), fun a ha => ⟨a, _, rfl, .inr (SqT.of upd_same), rfl, rfl, _, rfl, iteF ?_⟩⟩
    exact ⟨_, rfl, p, dx, _, rfl, at1 ha, wfs_no _ _ (by decide +kernel) (by decide +kernel), num hn hd ha q⟩
end
section
variable {P : Program} {w : World} {K : PySem.W.Frag} {mg : Str → Option Value} {base : Heap}
theorem ok_take_turn_value (T : Tx K mg) : FnOk P w K mg base CX0 4 T.f_take_turn_value T.d_take_turn_value P_take_turn_value (spTurn T.c_Words) := by
  have G_Words_take_number := ok_Words_take_number (P := P) (w := w) (base := base) T
  have G_Words_take_one_of := ok_Words_take_one_of (P := P) (w := w) (base := base) T
  refine T.F_take_turn_value.ok sc_take_turn_value (fun vs H Q E h => ?_) (fun cdv A outer s H vs Q E hr h => ?_)
  · obtain ⟨p, ws, k, u, v, rfl, _⟩ := h
    rfl
  obtain ⟨p, ws, k, u, v, rfl, W, ok, hd, q⟩ := h
  refine ⟨_,   (pss_cons (ps_if (pt_cmpR op_in_seq (pv 1) (pe_tup (pa_cons pe_str (pa_cons pe_str pa_nil))) rfl)
      (pss_one (ps_ret (pe_meth0 (pv 0) T.cl_Words T.M_Words_take_number G_Words_take_number hr (b_Words_take_number T) .nil pass0)))
      pss_nil)
    (pss_cons (ps_if (pt_cmpR op_eq (pv 1) pe_str (nomark _))
      (pss_one (ps_ret (pe_meth (pv 0) T.cl_Words T.M_Words_take_one_of G_Words_take_one_of hr (b_Words_take_one_of T) .nil pass0 (pa_cons (pe_glob (v := .ref T.a_PLAYER_KINDS) rfl T.g_PLAYER_KINDS rfl) pa_nil))))
      pss_nil)
    (pss_one (ps_ret pe_non)))), ?_⟩
  obtain ⟨dx, l, h1, h2⟩ := id W
  refine ⟨_, rfl, (by show 2 ≤ sizeLine; decide), fun a ha => ⟨a, _, rfl, .inr (SqT.of upd_same), rfl, rfl, _, rfl, ?_⟩⟩
  have S := same_new ha (.tup [.str "less", .str "more"])
  have W1 := W.at S
  have at1 : upd H a (.tup [.str "less", .str "more"]) p = some (.ins T.c_Words dx (wfs l (k : Int))) := by rw [upd_ne (ne_of_none h1 ha)]; exact h1
  have B : But p H (upd H a (.tup [.str "less", .str "more"])) := But.laid ha
  cases ok with
  | none => exact iteF ⟨_, rfl, rfl, _, rfl, iteF (q _ W1 B)⟩
  | here => exact iteF ⟨_, rfl, rfl, _, rfl, iteF (q _ W1 B)⟩
  | less hn =>
    refine iteT ?_
    exact ⟨_, rfl, p, dx, _, rfl, at1, wfs_no _ _ (by decide +kernel) (by decide +kernel), p, ws, k, _, rfl, W1, (drop_head hd).1, hn, fun H2 W2 B2 => q H2 W2 (B.trans B2)⟩
  | more hn =>
    refine iteT ?_
    exact ⟨_, rfl, p, dx, _, rfl, at1, wfs_no _ _ (by decide +kernel) (by decide +kernel), p, ws, k, _, rfl, W1, (drop_head hd).1, hn, fun H2 W2 B2 => q H2 W2 (B.trans B2)⟩
  | as hn =>
    refine iteF ⟨_, rfl, rfl, _, rfl, iteT ?_⟩
    exact ⟨_, rfl, p, dx, _, rfl, at1, wfs_no _ _ (by decide +kernel) (by decide +kernel), p, _, ws, k, _, playerKinds, rfl, W1, (drop_head hd).1, hn, (by decide), .inl T.l_PLAYER_KINDS, fun H2 W2 B2 => q H2 W2 (B.trans B2)⟩
theorem ok_take_change_value (T : Tx K mg) (kb : K.In base) : FnOk P w K mg base CX0 6 T.f_take_change_value T.d_take_change_value P_take_change_value (spChange T.c_Words T.c_Whom) := by
  have G_Words_take_name := (ok_Words_take_name (P := P) (w := w) (base := base) T).mono (by decide : 3 ≤ 5)
  have G_Words_take_number := (ok_Words_take_number (P := P) (w := w) (base := base) T).mono (by decide : 3 ≤ 5)
  have G_take_whom := (ok_take_whom (P := P) (w := w) (base := base) T kb)
  refine T.F_take_change_value.ok sc_take_change_value (fun vs H Q E h => ?_) (fun cdv A outer s H vs Q E hr h => ?_)
  · obtain ⟨p, ws, rest, k, u, v, rfl, _⟩ := h
    rfl
  obtain ⟨p, ws, rest, k, u, v, rfl, W, ok, hd, q⟩ := h
  refine ⟨_,   (pss_cons (ps_if (pt_cmpR op_in_seq (pv 1) (pe_tup (pa_cons pe_str (pa_cons pe_str pa_nil))) rfl)
      (pss_one (ps_ret (pe_meth0 (pv 0) T.cl_Words T.M_Words_take_name G_Words_take_name hr (b_Words_take_name T) .nil pass0)))
      pss_nil)
    (pss_cons (ps_if (pt_cmpR op_in_seq (pv 1) (pe_tup (pa_cons pe_str (pa_cons pe_str (pa_cons pe_str pa_nil)))) rfl)
      (pss_one (ps_ret (pe_meth0 (pv 0) T.cl_Words T.M_Words_take_number G_Words_take_number hr (b_Words_take_number T) .nil pass0)))
      pss_nil)
    (pss_cons (ps_if (pt_cmpR op_eq (pv 1) pe_str (nomark _))
      (pss_one (ps_ret (pe_call G_take_whom hr rfl T.m_take_whom T.F_take_whom.kp (b_take_whom T) .nil pass0 (pa_cons (pv 0) pa_nil))))
      pss_nil)
    (pss_one (ps_ret pe_non))))), ?_⟩
  obtain ⟨dx, l, h1, h2⟩ := id W
  refine ⟨_, rfl, (by show 2 ≤ sizeLine; decide), fun a ha => ⟨a, _, rfl, .inr (SqT.of upd_same), rfl, rfl, _, rfl, ?_⟩⟩
  have S := same_new ha (.tup [.str "gain", .str "lack"])
  have W1 := W.at S
  have B : But p H (upd H a (.tup [.str "gain", .str "lack"])) := But.laid ha
  generalize upd H a (.tup [.str "gain", .str "lack"]) = H0 at *
  obtain ⟨dx1, l1, at1, _⟩ := id W1
  have two : ∀ {b : Addr}, H0 b = none → WAt T.c_Words (upd H0 b (.tup [.str "be", .str "more", .str "less"])) p ws k ∧ But p H (upd H0 b (.tup [.str "be", .str "more", .str "less"])) := fun {b} hb => ⟨W1.at (same_new hb _), B.trans (But.laid hb)⟩
  cases ok with
  | gain hn =>
    exact iteT ⟨_, rfl, p, dx1, _, rfl, at1, wfs_no _ _ (by decide +kernel) (by decide +kernel), p, ws, k, _, rfl, W1, (drop_head hd).1, hn, fun H2 W2 B2 => q _ H2 W2 (B.trans B2) rfl⟩
  | lack hn =>
    exact iteT ⟨_, rfl, p, dx1, _, rfl, at1, wfs_no _ _ (by decide +kernel) (by decide +kernel), p, ws, k, _, rfl, W1, (drop_head hd).1, hn, fun H2 W2 B2 => q _ H2 W2 (B.trans B2) rfl⟩
  | be hn =>
    refine iteF ⟨_, rfl, (by show 3 ≤ sizeLine; decide), fun b hb => ⟨b, _, rfl, .inr (SqT.of upd_same), rfl, rfl, _, rfl, iteT ?_⟩⟩
    obtain ⟨W3, B3⟩ := two hb
    obtain ⟨dx3, l3, at3, _⟩ := id W3
    exact ⟨_, rfl, p, dx3, _, rfl, at3, wfs_no _ _ (by decide +kernel) (by decide +kernel), p, ws, k, _, rfl, W3, (drop_head hd).1, hn, fun H2 W2 B2 => q _ H2 W2 (B3.trans B2) rfl⟩
  | more hn =>
    refine iteF ⟨_, rfl, (by show 3 ≤ sizeLine; decide), fun b hb => ⟨b, _, rfl, .inr (SqT.of upd_same), rfl, rfl, _, rfl, iteT ?_⟩⟩
    obtain ⟨W3, B3⟩ := two hb
    obtain ⟨dx3, l3, at3, _⟩ := id W3
    exact ⟨_, rfl, p, dx3, _, rfl, at3, wfs_no _ _ (by decide +kernel) (by decide +kernel), p, ws, k, _, rfl, W3, (drop_head hd).1, hn, fun H2 W2 B2 => q _ H2 W2 (B3.trans B2) rfl⟩
  | less hn =>
    refine iteF ⟨_, rfl, (by show 3 ≤ sizeLine; decide), fun b hb => ⟨b, _, rfl, .inr (SqT.of upd_same), rfl, rfl, _, rfl, iteT ?_⟩⟩
    obtain ⟨W3, B3⟩ := two hb
    obtain ⟨dx3, l3, at3, _⟩ := id W3
    exact ⟨_, rfl, p, dx3, _, rfl, at3, wfs_no _ _ (by decide +kernel) (by decide +kernel), p, ws, k, _, rfl, W3, (drop_head hd).1, hn, fun H2 W2 B2 => q _ H2 W2 (B3.trans B2) rfl⟩
  | per hn =>
    refine iteF ⟨_, rfl, (by show 3 ≤ sizeLine; decide), fun b hb => ⟨b, _, rfl, .inr (SqT.of upd_same), rfl, rfl, _, rfl, iteF ?_⟩⟩
    obtain ⟨W3, B3⟩ := two hb
    exact ⟨_, rfl, rfl, _, rfl, iteT ⟨_, rfl, p, ws, rest, k, _, rfl, W3, hn.1, hn.2, hd, fun x H2 W2 B2 IW => q x H2 W2 (B3.trans B2) IW⟩⟩
  | mute =>
    refine iteF ⟨_, rfl, (by show 3 ≤ sizeLine; decide), fun b hb => ⟨b, _, rfl, .inr (SqT.of upd_same), rfl, rfl, _, rfl, iteF ?_⟩⟩
    obtain ⟨W3, B3⟩ := two hb
    exact ⟨_, rfl, rfl, _, rfl, iteF (q _ _ W3 B3 rfl)⟩
  | steal =>
    refine iteF ⟨_, rfl, (by show 3 ≤ sizeLine; decide), fun b hb => ⟨b, _, rfl, .inr (SqT.of upd_same), rfl, rfl, _, rfl, iteF ?_⟩⟩
    obtain ⟨W3, B3⟩ := two hb
    exact ⟨_, rfl, rfl, _, rfl, iteF (q _ _ W3 B3 rfl)⟩
theorem ok_take_deed (T : Tx K mg) (kb : K.In base) : FnOk P w K mg base CX0 6 T.f_take_deed T.d_take_deed P_take_deed (spDeed T.c_Words T.c_Whom) := by
  have G_Words_take_one_of := (ok_Words_take_one_of (P := P) (w := w) (base := base) T).mono (by decide : 3 ≤ 5)
  have G_take_amount := (ok_take_amount (P := P) (w := w) (base := base) T).mono (by decide : 4 ≤ 5)
  have G_take_whom := (ok_take_whom (P := P) (w := w) (base := base) T kb)
  refine T.F_take_deed.ok sc_take_deed (fun vs H Q E h => ?_) (fun cdv A outer s H vs Q E hr h => ?_)
  · obtain ⟨p, ws, k, d, rfl, _⟩ := h
    rfl
  obtain ⟨p, ws, k, d, rfl, W, ok, hd, q⟩ := h
  refine ⟨_,   (pss_cons (ps_set (i := 1) sc_take_deed.nd rfl (Or.inl rfl) (pe_meth (pv 0) T.cl_Words T.M_Words_take_one_of G_Words_take_one_of hr (b_Words_take_one_of T) .nil pass0 (pa_cons (pe_tup (pa_cons pe_str (pa_cons pe_str pa_nil))) pa_nil)))
    (pss_cons (ps_set (i := 2) sc_take_deed.nd rfl (Or.inl rfl) (pe_meth (pv 0) T.cl_Words T.M_Words_take_one_of G_Words_take_one_of hr (b_Words_take_one_of T) .nil pass0 (pa_cons (pe_glob (v := .ref T.a_DEED_KINDS) rfl T.g_DEED_KINDS rfl) pa_nil)))
    (pss_cons (ps_set (i := 3) sc_take_deed.nd rfl (Or.inl rfl) (pe_call G_take_amount hr rfl T.m_take_amount T.F_take_amount.kp (b_take_amount T) .nil pass0 (pa_cons (pv 0) (pa_cons (pv 2) pa_nil))))
    (pss_cons (ps_set (i := 4) sc_take_deed.nd rfl (Or.inl rfl) (pe_call G_take_whom hr rfl T.m_take_whom T.F_take_whom.kp (b_take_whom T) .nil pass0 (pa_cons (pv 0) pa_nil)))
    (pss_one (ps_ret (pe_tup (pa_cons (pv 1) (pa_cons (pv 2) (pa_cons (pv 3) (pa_cons (pv 4) pa_nil))))))))))), ?_⟩
  obtain ⟨dx, l, h1, h2⟩ := id W
  obtain ⟨u1, hd1⟩ := drop_head (show ws.drop k = d.each :: (d.kind :: (d.amt.words ++ d.whom.words)) from hd)
  obtain ⟨u2, hd2⟩ := drop_head hd1
  have hd3 := drop_past hd2
  refine ⟨_, rfl, p, dx, _, rfl, h1, wfs_no _ _ (by decide +kernel) (by decide +kernel), (by show 2 ≤ sizeLine; decide), fun a ha => ?_⟩
  refine ⟨p, a, ws, k, _, eaches, rfl, W.at (same_new ha _), u1, ok.each, (by decide), .inr upd_same, fun H1 W1 B1 => ?_⟩
  have B1' : But p H H1 := (But.laid ha).trans B1
  obtain ⟨dx1, l1, at1, _⟩ := id W1
  refine ⟨_, rfl, p, dx1, _, rfl, at1, wfs_no _ _ (by decide +kernel) (by decide +kernel), p, _, ws, k + 1, _, deedKinds, rfl, W1, u2, ok.amt.kind, (by decide), .inl T.l_DEED_KINDS, fun H2 W2 B2 => ?_⟩
  refine ⟨_, rfl, _, rfl, p, ws, _, k + 1 + 1, _, d.amt, rfl, W2, ok.amt, hd2, fun H3 W3 B3 => ?_⟩
  refine ⟨_, rfl, p, ws, [], _, d.whom, rfl, W3, ok.whom.1, ok.whom.2, (by rw [List.append_nil]; exact hd3), fun v H4 W4 B4 IW => ?_⟩
  refine ⟨_, rfl, _, rfl, _, rfl, _, rfl, (by show 4 ≤ sizeLine; decide), fun b hb => ?_⟩
  have en := drop_end hd3 d.whom.words_ne
  rw [en] at W4
  exact q _ _ (W4.at (same_new hb _)) ((B1'.trans (B2.trans (B3.trans B4))).trans (But.laid hb)) ⟨b, v, rfl, upd_same, IW.same (same_new hb _)⟩
end
def isHold : Rule → Prop
  | .hold _ _ _ => True
  | _ => False
def isWen : Rule → Prop
  | .wen _ _ _ => True
  | _ => False
def isInstead : Rule → Prop
  | .instead _ _ _ _ => True
  | _ => False
def isMay : Rule → Prop
  | .may _ _ => True
  | _ => False
section
variable {P : Program} {w : World} {K : PySem.W.Frag} {mg : Str → Option Value} {base : Heap}
theorem ok_take_hold (T : Tx K mg) (kb : K.In base) : FnOk P w K mg base CX0 7 T.f_take_hold T.d_take_hold P_take_hold (spTakes T.c_Words T.c_Whom isHold) := by
  have G_Words_take_one_of := (ok_Words_take_one_of (P := P) (w := w) (base := base) T).mono (by decide : 3 ≤ 6)
  have G_take_change_value := (ok_take_change_value (P := P) (w := w) (base := base) T kb)
  have G_take_whom := (ok_take_whom (P := P) (w := w) (base := base) T kb).mono (by decide : 5 ≤ 6)
  refine T.F_take_hold.ok sc_take_hold (fun vs H Q E h => ?_) (fun cdv A outer s H vs Q E hr h => ?_)
  · obtain ⟨p, ws, k, r, rfl, _⟩ := h
    rfl
  obtain ⟨p, ws, k, r, rfl, is, W, ok, hd, q⟩ := h
  refine ⟨_,   (pss_cons (ps_set (i := 1) sc_take_hold.nd rfl (Or.inl rfl) (pe_meth (pv 0) T.cl_Words T.M_Words_take_one_of G_Words_take_one_of hr (b_Words_take_one_of T) .nil pass0 (pa_cons (pe_glob (v := .ref T.a_CHANGES) rfl T.g_CHANGES rfl) pa_nil)))
    (pss_cons (ps_set (i := 2) sc_take_hold.nd rfl (Or.inl rfl) (pe_call G_take_change_value hr rfl T.m_take_change_value T.F_take_change_value.kp (b_take_change_value T) .nil pass0 (pa_cons (pv 0) (pa_cons (pv 1) pa_nil))))
    (pss_cons (ps_set (i := 3) sc_take_hold.nd rfl (Or.inl rfl) (pe_call G_take_whom hr rfl T.m_take_whom T.F_take_whom.kp (b_take_whom T) .nil pass0 (pa_cons (pv 0) pa_nil)))
    (pss_one (ps_ret (pe_tup (pa_cons pe_str (pa_cons (pv 1) (pa_cons (pv 2) (pa_cons (pv 3) pa_nil)))))))))), ?_⟩
  cases r with
  | hold u v y =>
    obtain ⟨dx, l, h1, h2⟩ := id W
    obtain ⟨ok1, ok2⟩ := ok
    obtain ⟨u1, hd1⟩ := drop_head (show ws.drop k = u :: (v.words ++ y.words) from hd)
    have hd2 := drop_past hd1
    refine ⟨_, rfl, p, dx, _, rfl, h1, wfs_no _ _ (by decide +kernel) (by decide +kernel), p, _, ws, k, _, changes, rfl, W, u1, ok1.word, (by decide), .inl T.l_CHANGES, fun H1 W1 B1 => ?_⟩
    refine ⟨_, rfl, _, rfl, p, ws, y.words, k + 1, _, v, rfl, W1, ok1, hd1, fun x H2 W2 B2 HV => ?_⟩
    obtain ⟨dx2, l2, at2, _⟩ := id W2
    refine ⟨_, rfl, p, ws, [], _, y, rfl, W2, ok2.1, ok2.2, (by rw [List.append_nil]; exact hd2), fun z H3 W3 B3 IW => ?_⟩
    refine ⟨_, rfl, _, rfl, _, rfl, (by show 4 ≤ sizeLine; decide), fun b hb => ?_⟩
    rw [drop_end hd2 y.words_ne] at W3
    exact q _ _ (W3.at (same_new hb _)) ((B1.trans (B2.trans B3)).trans (But.laid hb)) ⟨b, x, z, rfl, upd_same, (HV.but B3 at2).same (same_new hb _), IW.same (same_new hb _)⟩
  | wen => exact is.elim
  | instead => exact is.elim
  | may => exact is.elim
theorem ok_take_when (T : Tx K mg) (kb : K.In base) : FnOk P w K mg base CX0 7 T.f_take_when T.d_take_when P_take_when (spTakes T.c_Words T.c_Whom isWen) := by
  have G_Words_take_one_of := (ok_Words_take_one_of (P := P) (w := w) (base := base) T).mono (by decide : 3 ≤ 6)
  have G_take_deed := (ok_take_deed (P := P) (w := w) (base := base) T kb)
  have G_take_whom := (ok_take_whom (P := P) (w := w) (base := base) T kb).mono (by decide : 5 ≤ 6)
  refine T.F_take_when.ok sc_take_when (fun vs H Q E h => ?_) (fun cdv A outer s H vs Q E hr h => ?_)
  · obtain ⟨p, ws, k, r, rfl, _⟩ := h
    rfl
  obtain ⟨p, ws, k, r, rfl, is, W, ok, hd, q⟩ := h
  refine ⟨_,   (pss_cons (ps_set (i := 1) sc_take_when.nd rfl (Or.inl rfl) (pe_meth (pv 0) T.cl_Words T.M_Words_take_one_of G_Words_take_one_of hr (b_Words_take_one_of T) .nil pass0 (pa_cons (pe_glob (v := .ref T.a_WHEN_KINDS) rfl T.g_WHEN_KINDS rfl) pa_nil)))
    (pss_cons (ps_set (i := 2) sc_take_when.nd rfl (Or.inl rfl) (pe_call G_take_whom hr rfl T.m_take_whom T.F_take_whom.kp (b_take_whom T) .nil pass0 (pa_cons (pv 0) pa_nil)))
    (pss_cons (ps_expr (pe_meth (pv 0) T.cl_Words T.M_Words_take_one_of G_Words_take_one_of hr (b_Words_take_one_of T) .nil pass0 (pa_cons (pe_tup (pa_cons pe_str pa_nil)) pa_nil)))
    (pss_one (ps_ret (pe_tup (pa_cons pe_str (pa_cons (pv 1) (pa_cons (pv 2) (pa_cons (pe_call G_take_deed hr rfl T.m_take_deed T.F_take_deed.kp (b_take_deed T) .nil pass0 (pa_cons (pv 0) pa_nil)) pa_nil)))))))))), ?_⟩
  cases r with
  | wen u y d =>
    obtain ⟨dx, l, h1, h2⟩ := id W
    obtain ⟨ok1, ok2, ok3⟩ := ok
    obtain ⟨u1, hd1⟩ := drop_head (show ws.drop k = u :: (y.words ++ ("do" : Str) :: d.words) from hd)
    have hd2 := drop_past hd1
    obtain ⟨u3, hd3⟩ := drop_head hd2
    refine ⟨_, rfl, p, dx, _, rfl, h1, wfs_no _ _ (by decide +kernel) (by decide +kernel), p, _, ws, k, _, whenKinds, rfl, W, u1, ok1, (by decide), .inl T.l_WHEN_KINDS, fun H1 W1 B1 => ?_⟩
    refine ⟨_, rfl, p, ws, _, k + 1, y, rfl, W1, ok2.1, ok2.2, hd1, fun x H2 W2 B2 IW => ?_⟩
    obtain ⟨dx2, l2, at2, _⟩ := id W2
    refine ⟨_, rfl, p, dx2, _, rfl, at2, wfs_no _ _ (by decide +kernel) (by decide +kernel), (by show 1 ≤ sizeLine; decide), fun a ha => ?_⟩
    refine ⟨p, a, ws, _, _, ["do"], rfl, W2.at (same_new ha _), u3, List.mem_singleton.mpr rfl, (by decide), .inr upd_same, fun H3 W3 B3 => ?_⟩
    have B3' : But p H2 H3 := (But.laid ha).trans B3
    obtain ⟨dx3, l3, at3, _⟩ := id W3
    refine ⟨_, rfl, _, rfl, _, rfl, p, ws, _, d, rfl, W3, ok3, hd3, fun z H4 W4 B4 ID => ?_⟩
    refine ⟨(by show 4 ≤ sizeLine; decide), fun b hb => ?_⟩
    exact q _ _ (W4.at (same_new hb _)) ((B1.trans (B2.trans (B3'.trans B4))).trans (But.laid hb)) ⟨b, x, z, rfl, upd_same, ((IW.but B3' at2).but B4 at3).same (same_new hb _), ID.same (same_new hb _)⟩
  | hold => exact is.elim
  | instead => exact is.elim
  | may => exact is.elim
theorem ok_take_instead (T : Tx K mg) (kb : K.In base) : FnOk P w K mg base CX0 6 T.f_take_instead T.d_take_instead P_take_instead (spTakes T.c_Words T.c_Whom isInstead) := by
  have G_Words_take_one_of := (ok_Words_take_one_of (P := P) (w := w) (base := base) T).mono (by decide : 3 ≤ 5)
  have G_take_turn_value := (ok_take_turn_value (P := P) (w := w) (base := base) T).mono (by decide : 4 ≤ 5)
  have G_take_whom := (ok_take_whom (P := P) (w := w) (base := base) T kb)
  refine T.F_take_instead.ok sc_take_instead (fun vs H Q E h => ?_) (fun cdv A outer s H vs Q E hr h => ?_)
  · obtain ⟨p, ws, k, r, rfl, _⟩ := h
    rfl
  obtain ⟨p, ws, k, r, rfl, is, W, ok, hd, q⟩ := h
  refine ⟨_,   (pss_cons (ps_set (i := 1) sc_take_instead.nd rfl (Or.inl rfl) (pe_meth (pv 0) T.cl_Words T.M_Words_take_one_of G_Words_take_one_of hr (b_Words_take_one_of T) .nil pass0 (pa_cons (pe_glob (v := .ref T.a_DEED_KINDS) rfl T.g_DEED_KINDS rfl) pa_nil)))
    (pss_cons (ps_set (i := 2) sc_take_instead.nd rfl (Or.inl rfl) (pe_call G_take_whom hr rfl T.m_take_whom T.F_take_whom.kp (b_take_whom T) .nil pass0 (pa_cons (pv 0) pa_nil)))
    (pss_cons (ps_expr (pe_meth (pv 0) T.cl_Words T.M_Words_take_one_of G_Words_take_one_of hr (b_Words_take_one_of T) .nil pass0 (pa_cons (pe_tup (pa_cons pe_str pa_nil)) pa_nil)))
    (pss_cons (ps_set (i := 3) sc_take_instead.nd rfl (Or.inl rfl) (pe_meth (pv 0) T.cl_Words T.M_Words_take_one_of G_Words_take_one_of hr (b_Words_take_one_of T) .nil pass0 (pa_cons (pe_ix (ix_tabT rfl T.l_TURNS) (pe_glob (v := .ref T.a_TURNS) rfl T.g_TURNS rfl) (pv 1) (fun _ _ => rfl)) pa_nil)))
    (pss_one (ps_ret (pe_tup (pa_cons pe_str (pa_cons (pv 1) (pa_cons (pv 2) (pa_cons (pv 3) (pa_cons (pe_call G_take_turn_value hr rfl T.m_take_turn_value T.F_take_turn_value.kp (b_take_turn_value T) .nil pass0 (pa_cons (pv 0) (pa_cons (pv 3) pa_nil))) pa_nil)))))))))))), ?_⟩
  cases r with
  | instead u y t v =>
    obtain ⟨dx, l, h1, h2⟩ := id W
    obtain ⟨ok1, ok2, ok3, ok4⟩ := ok
    obtain ⟨u1, hd1⟩ := drop_head (show ws.drop k = u :: (y.words ++ ("do" : Str) :: t :: v.words) from hd)
    have hd2 := drop_past hd1
    obtain ⟨u3, hd3⟩ := drop_head hd2
    obtain ⟨u4, hd4⟩ := drop_head hd3
    refine ⟨_, rfl, p, dx, _, rfl, h1, wfs_no _ _ (by decide +kernel) (by decide +kernel), p, _, ws, k, _, deedKinds, rfl, W, u1, ok1, (by decide), .inl T.l_DEED_KINDS, fun H1 W1 B1 => ?_⟩
    refine ⟨_, rfl, p, ws, _, k + 1, y, rfl, W1, ok2.1, ok2.2, hd1, fun x H2 W2 B2 IW => ?_⟩
    obtain ⟨dx2, l2, at2, _⟩ := id W2
    refine ⟨_, rfl, p, dx2, _, rfl, at2, wfs_no _ _ (by decide +kernel) (by decide +kernel), (by show 1 ≤ sizeLine; decide), fun a ha => ?_⟩
    refine ⟨p, a, ws, _, _, ["do"], rfl, W2.at (same_new ha _), u3, List.mem_singleton.mpr rfl, (by decide), .inr upd_same, fun H3 W3 B3 => ?_⟩
    have B3' : But p H2 H3 := (But.laid ha).trans B3
    obtain ⟨dx3, l3, at3, _⟩ := id W3
    refine ⟨_, rfl, p, dx3, _, rfl, at3, wfs_no _ _ (by decide +kernel) (by decide +kernel), _, rfl, _, _, rfl, rfl, turns_dat ok1, fun b hb => ?_⟩
    refine ⟨p, b, ws, _, _, turns u, rfl, W3, u4, ok3, turns_len u, .inl hb, fun H4 W4 B4 => ?_⟩
    obtain ⟨dx4, l4, at4, _⟩ := id W4
    refine ⟨_, rfl, _, rfl, _, rfl, _, rfl, _, rfl, p, ws, _, _, v, rfl, W4, ok4, hd4, fun H5 W5 B5 => ?_⟩
    refine ⟨(by show 5 ≤ sizeLine; decide), fun b hb => ?_⟩
    have en : k + 1 + y.words.length + 1 + 1 + v.words.length = ws.length := by
      have := drop_end hd3 (List.cons_ne_nil _ _)
      rw [List.length_cons] at this
      omega
    rw [en] at W5
    exact q _ _ (W5.at (same_new hb _)) ((B1.trans (B2.trans (B3'.trans (B4.trans B5)))).trans (But.laid hb)) ⟨b, x, rfl, upd_same, (((IW.but B3' at2).but B4 at3).but B5 at4).same (same_new hb _)⟩
  | hold => exact is.elim
  | wen => exact is.elim
  | may => exact is.elim
theorem ok_take_may (T : Tx K mg) (kb : K.In base) : FnOk P w K mg base CX0 7 T.f_take_may T.d_take_may P_take_may (spTakes T.c_Words T.c_Whom isMay) := by
  have G_Words_take_one_of := (ok_Words_take_one_of (P := P) (w := w) (base := base) T).mono (by decide : 3 ≤ 6)
  have G_Words_take_number := (ok_Words_take_number (P := P) (w := w) (base := base) T).mono (by decide : 3 ≤ 6)
  have G_take_deed := (ok_take_deed (P := P) (w := w) (base := base) T kb)
  refine T.F_take_may.ok sc_take_may (fun vs H Q E h => ?_) (fun cdv A outer s H vs Q E hr h => ?_)
  · obtain ⟨p, ws, k, r, rfl, _⟩ := h
    rfl
  obtain ⟨p, ws, k, r, rfl, is, W, ok, hd, q⟩ := h
  refine ⟨_,   (pss_cons (ps_set (i := 1) sc_take_may.nd rfl (Or.inl rfl) (pe_meth0 (pv 0) T.cl_Words T.M_Words_take_number G_Words_take_number hr (b_Words_take_number T) .nil pass0))
    (pss_cons (ps_expr (pe_meth (pv 0) T.cl_Words T.M_Words_take_one_of G_Words_take_one_of hr (b_Words_take_one_of T) .nil pass0 (pa_cons (pe_tup (pa_cons pe_str pa_nil)) pa_nil)))
    (pss_one (ps_ret (pe_tup (pa_cons pe_str (pa_cons (pv 1) (pa_cons (pe_call G_take_deed hr rfl T.m_take_deed T.F_take_deed.kp (b_take_deed T) .nil pass0 (pa_cons (pv 0) pa_nil)) pa_nil)))))))), ?_⟩
  cases r with
  | may c d =>
    obtain ⟨dx, l, h1, h2⟩ := id W
    obtain ⟨ok1, ok2⟩ := ok
    obtain ⟨u1, hd1⟩ := drop_head (show ws.drop k = (toString (c : Int) : Str) :: ("do" : Str) :: d.words from hd)
    obtain ⟨u3, hd3⟩ := drop_head hd1
    refine ⟨_, rfl, p, dx, _, rfl, h1, wfs_no _ _ (by decide +kernel) (by decide +kernel), p, ws, k, c, rfl, W, u1, ok1, fun H2 W2 B2 => ?_⟩
    obtain ⟨dx2, l2, at2, _⟩ := id W2
    refine ⟨_, rfl, p, dx2, _, rfl, at2, wfs_no _ _ (by decide +kernel) (by decide +kernel), (by show 1 ≤ sizeLine; decide), fun a ha => ?_⟩
    refine ⟨p, a, ws, _, _, ["do"], rfl, W2.at (same_new ha _), u3, List.mem_singleton.mpr rfl, (by decide), .inr upd_same, fun H3 W3 B3 => ?_⟩
    have B3' : But p H2 H3 := (But.laid ha).trans B3
    refine ⟨_, rfl, _, rfl, p, ws, _, d, rfl, W3, ok2, hd3, fun z H4 W4 B4 ID => ?_⟩
    refine ⟨(by show 3 ≤ sizeLine; decide), fun b hb => ?_⟩
    exact q _ _ (W4.at (same_new hb _)) ((B2.trans (B3'.trans B4)).trans (But.laid hb)) ⟨b, z, rfl, upd_same, ID.same (same_new hb _)⟩
  | hold => exact is.elim
  | wen => exact is.elim
  | instead => exact is.elim
end
def sortOf : Rule → Str
  | .hold _ _ _ => "hold"
  | .wen _ _ _ => "when"
  | .instead _ _ _ _ => "instead"
  | .may _ _ => "may"
theorem rule_head (r : Rule) : r.words = (sortOf r) :: r.words.drop 1 := by cases r <;> rfl
theorem rule_sort (r : Rule) : (sortOf r) ∈ sorts := by
  cases r with
  | hold => exact (by decide : ("hold" : Str) ∈ sorts)
  | wen => exact (by decide : ("when" : Str) ∈ sorts)
  | instead => exact (by decide : ("instead" : Str) ∈ sorts)
  | may => exact (by decide : ("may" : Str) ∈ sorts)
theorem wv_len (v : Wv) : v.words.length ≤ 1 := by cases v <;> simp [Wv.words]
theorem wh_len {y : Wh} (h : plain y) : y.words.length ≤ 18 := by
  have a := y.words_len
  have b := h.2
  omega
theorem hv_len {u : Str} {v : Hv} (h : HoldOk u v) : v.words.length ≤ 18 := by
  cases v with
  | v x => exact Nat.le_trans (wv_len x) (by decide)
  | w y =>
    cases h with
    | per h => exact wh_len h
theorem deed_len {d : Deed} (h : d.ok) : d.words.length ≤ 21 := by
  have a := wh_len h.whom
  have b := wv_len d.amt
  have e : d.words.length = d.amt.words.length + d.whom.words.length + 1 + 1 := by
    show (d.each :: d.kind :: (d.amt.words ++ d.whom.words)).length = _
    rw [List.length_cons, List.length_cons, List.length_append]
  omega
theorem rule_len {r : Rule} (h : r.ok) : r.words.length ≤ 50 := by
  cases r with
  | hold u v y =>
    have a := wh_len h.2
    have b := hv_len h.1
    show (("hold" : Str) :: u :: (v.words ++ y.words)).length ≤ 50
    rw [List.length_cons, List.length_cons, List.length_append]
    omega
  | wen u y d =>
    have a := wh_len h.2.1
    have b := deed_len h.2.2
    show (("when" : Str) :: u :: (y.words ++ ("do" : Str) :: d.words)).length ≤ 50
    rw [List.length_cons, List.length_cons, List.length_append, List.length_cons]
    omega
  | instead u y t v =>
    have a := wh_len h.2.1
    have b := wv_len v
    show (("instead" : Str) :: u :: (y.words ++ ("do" : Str) :: t :: v.words)).length ≤ 50
    rw [List.length_cons, List.length_cons, List.length_append, List.length_cons, List.length_cons]
    omega
  | may c d =>
    have b := deed_len h.2
    show (("may" : Str) :: (toString (c : Int) : Str) :: ("do" : Str) :: d.words).length ≤ 50
    rw [List.length_cons, List.length_cons, List.length_cons]
    omega
theorem text_len {ws : List Str} (h : ∀ u ∈ ws, WordOk u) : (Str.join " " ws).length ≤ 9 * ws.length := by
  have a := join_len " " ws
  have c := sum_le (l := ws.map (·.length)) (k := 8) (fun x hx => by
    obtain ⟨u, hu, rfl⟩ := List.mem_map.mp hx
    exact (h u hu).2.2)
  rw [List.length_map] at c
  have e : (" " : Str).length = 1 := rfl
  rw [e] at a
  omega
theorem ruleT_len {r : Rule} (h : r.ok) : (ruleT r).length ≤ 450 := by
  have a := text_len (ws := r.words) (fun u hu => (Rule.words_S h u hu).1)
  have b := rule_len h
  show (Str.join " " r.words).length ≤ 450
  omega
def spRule (D : Addr) : Sp := fun vs H Q _ => ∃ r : Rule, vs = [.str (ruleT r)] ∧ r.ok ∧ ∀ v H', Same H H' → IsRule D H' v r → Q v H'
section
variable {P : Program} {w : World} {K : PySem.W.Frag} {mg : Str → Option Value} {base : Heap}
theorem ok_read_rule (T : Tx K mg) (kb : K.In base) : FnOk P w K mg base CX0 8 T.f_read_rule T.d_read_rule P_read_rule (spRule T.c_Whom) := by
  have G_Words := (ok_Words (P := P) (w := w) (base := base) T).mono (by decide : 2 ≤ 6)
  have G_Words_finish := (ok_Words_finish (P := P) (w := w) (base := base) T).mono (by decide : 2 ≤ 7)
  have G_Words_take_one_of := (ok_Words_take_one_of (P := P) (w := w) (base := base) T).mono (by decide : 3 ≤ 7)
  have G_take_hold := ok_take_hold (P := P) (w := w) (base := base) T kb
  have G_take_when := ok_take_when (P := P) (w := w) (base := base) T kb
  have G_take_instead := (ok_take_instead (P := P) (w := w) (base := base) T kb).mono (by decide : 6 ≤ 7)
  have G_take_may := ok_take_may (P := P) (w := w) (base := base) T kb
  refine T.F_read_rule.ok sc_read_rule (fun vs H Q E h => ?_) (fun cdv A outer s H vs Q E hr h => ?_)
  · obtain ⟨r, rfl, _⟩ := h
    rfl
  obtain ⟨r, rfl, ok, q⟩ := h
  refine ⟨_,   (pss_cons (ps_set (i := 1) sc_read_rule.nd rfl (Or.inl rfl) (pe_make T.Mk_Words G_Words hr rfl T.m_Words (b_Words___init__ T) .nil pass0 (pa_cons (pv 0) pa_nil)))
    (pss_cons (ps_set (i := 2) sc_read_rule.nd rfl (Or.inl rfl) (pe_meth (pv 1) T.cl_Words T.M_Words_take_one_of G_Words_take_one_of hr (b_Words_take_one_of T) .nil pass0 (pa_cons (pe_glob (v := .ref T.a_SORTS) rfl T.g_SORTS rfl) pa_nil)))
    (pss_cons (ps_if (pt_cmpR op_eq (pv 2) pe_str (nomark _))
      (pss_one (ps_set (i := 3) sc_read_rule.nd rfl (Or.inl rfl) (pe_call G_take_hold hr rfl T.m_take_hold T.F_take_hold.kp (b_take_hold T) .nil pass0 (pa_cons (pv 1) pa_nil))))
      (pss_one (ps_if (pt_cmpR op_eq (pv 2) pe_str (nomark _))
        (pss_one (ps_set (i := 3) sc_read_rule.nd rfl (Or.inl rfl) (pe_call G_take_when hr rfl T.m_take_when T.F_take_when.kp (b_take_when T) .nil pass0 (pa_cons (pv 1) pa_nil))))
        (pss_one (ps_if (pt_cmpR op_eq (pv 2) pe_str (nomark _))
          (pss_one (ps_set (i := 3) sc_read_rule.nd rfl (Or.inl rfl) (pe_call G_take_instead hr rfl T.m_take_instead T.F_take_instead.kp (b_take_instead T) .nil pass0 (pa_cons (pv 1) pa_nil))))
          (pss_one (ps_set (i := 3) sc_read_rule.nd rfl (Or.inl rfl) (pe_call G_take_may hr rfl T.m_take_may T.F_take_may.kp (b_take_may T) .nil pass0 (pa_cons (pv 1) pa_nil)))))))))
    (pss_cons (ps_expr (pe_meth0 (pv 1) T.cl_Words T.M_Words_finish G_Words_finish hr (b_Words_finish T) .nil pass0))
    (pss_one (ps_ret (pv 3))))))), ?_⟩
  have tl := ruleT_len ok
  refine ⟨_, rfl, ?_⟩
  intro x dx nx ndx nex
  refine ⟨x, dx, _, rfl, upd_same, (by omega), fun H1 W1 B1 => ⟨rfl, ?_⟩⟩
  have es : Txt.split (ruleT r) " " = r.words := split_join (c := 32) r.words_ne (fun u hu => (Rule.words_S ok u hu).1.1)
  rw [es] at W1
  have S1 : Same H H1 := fun b o e => B1 b o (ne_of_none e nx) (by rw [upd_ne (ne_of_none e nx), upd_ne (ne_of_none e ndx)]; exact e)
  obtain ⟨dx1, l1, at1, _⟩ := id W1
  refine ⟨_, rfl, x, dx1, _, rfl, at1, wfs_no _ _ (by decide +kernel) (by decide +kernel), x, _, r.words, 0, (sortOf r), sorts, rfl, W1, (by rw [rule_head r]; rfl), rule_sort r, (by decide), .inl T.l_SORTS, fun H2 W2 B2 => ?_⟩
  have fin : ∀ {v : V} {H3 : Hp}, WAt T.c_Words H3 x r.words r.words.length → But x H2 H3 → IsRule T.c_Whom H3 v r → Q v H3 := fun {v H3} W3 B3 IR =>
    q v H3 (fun b o e => B3 b o (ne_of_none e nx) (B2 b o (ne_of_none e nx) (S1 b o e))) IR
  refine ⟨_, rfl, rfl, _, rfl, ?_⟩
  cases r with
  | hold u v y =>
    refine iteT ⟨_, rfl, x, _, 1, .hold u v y, rfl, trivial, W2, ok, rfl, fun z H3 W3 B3 IR => ?_⟩
    obtain ⟨dx3, l3, at3, _⟩ := id W3
    exact ⟨_, rfl, x, dx3, _, rfl, at3, wfs_no _ _ (by decide +kernel) (by decide +kernel), x, _, rfl, W3, ⟨_, rfl, fin W3 B3 IR⟩⟩
  | wen u y d =>
    refine iteF ⟨_, rfl, rfl, _, rfl, iteT ⟨_, rfl, x, _, 1, .wen u y d, rfl, trivial, W2, ok, rfl, fun z H3 W3 B3 IR => ?_⟩⟩
    obtain ⟨dx3, l3, at3, _⟩ := id W3
    exact ⟨_, rfl, x, dx3, _, rfl, at3, wfs_no _ _ (by decide +kernel) (by decide +kernel), x, _, rfl, W3, ⟨_, rfl, fin W3 B3 IR⟩⟩
  | instead u y t v =>
    refine iteF ⟨_, rfl, rfl, _, rfl, iteF ⟨_, rfl, rfl, _, rfl, iteT ⟨_, rfl, x, _, 1, .instead u y t v, rfl, trivial, W2, ok, rfl, fun z H3 W3 B3 IR => ?_⟩⟩⟩
    obtain ⟨dx3, l3, at3, _⟩ := id W3
    exact ⟨_, rfl, x, dx3, _, rfl, at3, wfs_no _ _ (by decide +kernel) (by decide +kernel), x, _, rfl, W3, ⟨_, rfl, fin W3 B3 IR⟩⟩
  | may c d =>
    refine iteF ⟨_, rfl, rfl, _, rfl, iteF ⟨_, rfl, rfl, _, rfl, iteF ⟨_, rfl, x, _, 1, .may c d, rfl, trivial, W2, ok, rfl, fun z H3 W3 B3 IR => ?_⟩⟩⟩
    obtain ⟨dx3, l3, at3, _⟩ := id W3
    exact ⟨_, rfl, x, dx3, _, rfl, at3, wfs_no _ _ (by decide +kernel) (by decide +kernel), x, _, rfl, W3, ⟨_, rfl, fin W3 B3 IR⟩⟩
end
def cfs (n : Str) (c f : Nat) (m t : Addr) : List (Str × V) := [("name", .str n), ("cost", .int c), ("force", .int f), ("marks", .ref m), ("rules", .ref t)]
inductive IsRules (D : Addr) (H : Hp) : List V → List Rule → Prop where
  | nil : IsRules D H [] []
  | cons {v : V} {r : Rule} {vs : List V} {rs : List Rule} : IsRule D H v r → IsRules D H vs rs → IsRules D H (v :: vs) (r :: rs)
theorem IsRules.same {D : Addr} {H H' : Hp} (s : Same H H') : ∀ {vs : List V} {rs : List Rule}, IsRules D H vs rs → IsRules D H' vs rs
  | _, _, .nil => .nil
  | _, _, .cons h t => .cons (h.same s) (t.same s)
theorem IsRules.snoc {D : Addr} {H : Hp} {v : V} {r : Rule} (h : IsRule D H v r) : ∀ {vs : List V} {rs : List Rule}, IsRules D H vs rs → IsRules D H (vs ++ [v]) (rs ++ [r])
  | _, _, .nil => .cons h .nil
  | _, _, .cons h' t => .cons h' (IsRules.snoc h t)
theorem IsRules.length {D : Addr} {H : Hp} : ∀ {vs : List V} {rs : List Rule}, IsRules D H vs rs → vs.length = rs.length
  | _, _, .nil => rfl
  | _, _, .cons _ t => congrArg (· + 1) t.length
theorem IsRules.get {D : Addr} {H : Hp} : ∀ {vs : List V} {rs : List Rule} {i : Nat} {v : V}, IsRules D H vs rs → vs[i]? = some v → ∃ r, rs[i]? = some r ∧ IsRule D H v r
  | _, _, 0, _, .cons h _, e => by cases e; exact ⟨_, rfl, h⟩
  | _, _, i + 1, _, .cons _ t, e => t.get (i := i) e
def IsCard (B D : Addr) (H : Hp) (v : V) (c : Crd) : Prop := ∃ a dx m t vs, v = .ref a ∧ H a = some (.ins B dx (cfs c.name c.cost c.force m t)) ∧ H m = some (.tup (c.marks.map V.str)) ∧ H t = some (.tup vs) ∧ IsRules D H vs c.rules
theorem IsCard.same {B D : Addr} {H H' : Hp} (s : Same H H') {v : V} {c : Crd} (h : IsCard B D H v c) : IsCard B D H' v c := by
  obtain ⟨a, dx, m, t, vs, e, h1, h2, h3, h4⟩ := h
  exact ⟨a, dx, m, t, vs, e, s _ _ h1, s _ _ h2, s _ _ h3, h4.same s⟩
def spMarks : Sp := fun vs H Q _ => ∃ ms : List Str, vs = [.str (marksT ms)] ∧ Marks ms ∧ ∀ m H', Same H H' → H' m = some (.tup (ms.map V.str)) → Q (.ref m) H'
def spCardInit (B : Addr) : Sp := fun vs H Q _ => ∃ (x dx m t : Addr) (n : Str) (c f : Nat), vs = [.ref x, .str n, .int c, .int f, .ref m, .ref t] ∧ H x = some (.ins B dx []) ∧ Q .non (upd H x (.ins B dx (cfs n c f m t)))
def spReadCard (B D : Addr) : Sp := fun vs H Q _ => ∃ c : Crd, vs = [.str c.text] ∧ c.ok ∧ ∀ v H', Same H H' → IsCard B D H' v c → Q v H'
theorem cfs_init (n : Str) (c f : V) (m t : Addr) : putF "rules" (.ref t) (putF "marks" (.ref m) (putF "force" f (putF "cost" c (putF "name" (.str n) [])))) = ([("name", .str n), ("cost", c), ("force", f), ("marks", .ref m), ("rules", .ref t)] : List (Str × V)) := by
  repeat (first | rw [put_nil] | rw [put_miss (by decide +kernel)])
theorem strs_DV {K : PySem.W.Frag} {H : Hp} : ∀ xs : List Str, DVs K H (xs.map V.str) (xs.map .str)
  | [] => .nil
  | x :: r => .cons (.str x) (strs_DV r)
theorem eqv_strs : ∀ xs : List Str, PyData.eqvAll (xs.map .str) (xs.map .str) = true
  | [] => by simp [PyData.eqvAll]
  | x :: r => by simp [PyData.eqvAll, PyData.eqv, eqv_strs r]
section
variable {P : Program} {w : World} {K : PySem.W.Frag} {mg : Str → Option Value} {base : Heap}
theorem ok_Card (T : Tx K mg) : FnOk P w K mg base CX0 2 T.f_Card___init__ T.d_Card___init__ P_Card___init__ (spCardInit T.c_Card) := by
  refine T.F_Card___init__.ok sc_Card___init__ (fun vs H Q E h => ?_) (fun cdv A outer s H vs Q E hr h => ?_)
  · obtain ⟨x, dx, m, t, n, c, f, rfl, _⟩ := h
    rfl
  obtain ⟨x, dx, m, t, n, c, f, rfl, hx, q⟩ := h
  refine ⟨_,   (pss_cons (ps_fld (pv 0) (pv 1) rfl)
    (pss_cons (ps_fld (pv 0) (pv 2) rfl)
    (pss_cons (ps_fld (pv 0) (pv 3) rfl)
    (pss_cons (ps_fld (pv 0) (pv 4) rfl)
    (pss_one (ps_fld (pv 0) (pv 5) rfl)))))), ?_⟩
  refine ⟨_, rfl, _, rfl, x, _, dx, _, rfl, hx, T.cl_Card, T.n_Card_name, (by show 0 < 1000; decide), ?_⟩
  refine ⟨_, rfl, _, rfl, x, _, dx, _, rfl, upd_same, T.cl_Card, T.n_Card_cost, (by show 1 < 1000; decide), ?_⟩
  refine ⟨_, rfl, _, rfl, x, _, dx, _, rfl, upd_same, T.cl_Card, T.n_Card_force, (by show 2 < 1000; decide), ?_⟩
  refine ⟨_, rfl, _, rfl, x, _, dx, _, rfl, upd_same, T.cl_Card, T.n_Card_marks, (by show 3 < 1000; decide), ?_⟩
  refine ⟨_, rfl, _, rfl, x, _, dx, _, rfl, upd_same, T.cl_Card, T.n_Card_rules, (by show 4 < 1000; decide), ?_⟩
  show Q .non _
  rw [upd_upd, upd_upd, upd_upd, upd_upd, cfs_init]
  exact q
end
theorem name_lay {n : Str} (h : NameOk n) : PyData.canLay0 (.str n) = true := by
  rw [PyData.canLay0]
  unfold PyData.strOk
  rw [← Array.all_toList, List.all_eq_true]
  intro c hc
  have := (h.2.2 c hc).2
  simp
  omega
theorem lay_strs : ∀ xs : List Str, (∀ x ∈ xs, PyData.canLay0 (.str x) = true) → PyData.canLayAll0 (xs.map .str) = true
  | [], _ => by simp [PyData.canLayAll0]
  | x :: r, h => by
    have h1 := h x List.mem_cons_self
    have h2 := lay_strs r fun y hy => h y (List.mem_cons_of_mem _ hy)
    rw [List.map_cons, PyData.canLayAll0, h1, h2]
    rfl
theorem dep_strs : ∀ xs : List Str, PyData.depthAll (xs.map .str) = 0
  | [] => by simp [PyData.depthAll]
  | x :: r => by simp [PyData.depthAll, PyData.depth, dep_strs r]
theorem shaped_names {ms : List Str} (h : ∀ m ∈ ms, NameOk m) : SeqAt.shaped (.list (ms.map .str)) = true := by
  unfold SeqAt.shaped
  rw [PyData.canLay0, lay_strs ms (fun x hx => name_lay (h x hx)), PyData.depth, dep_strs]
  rfl
section
variable {P : Program} {w : World} {K : PySem.W.Frag} {mg : Str → Option Value} {base : Heap}
theorem ok_read_marks (T : Tx K mg) : FnOk P w K mg base CX0 3 T.f_read_marks T.d_read_marks P_read_marks spMarks := by
  have G_is_name := ok_is_name (P := P) (w := w) (base := base) T
  refine T.F_read_marks.ok sc_read_marks (fun vs H Q E h => ?_) (fun cdv A outer s H vs Q E hr h => ?_)
  · obtain ⟨ms, rfl, _⟩ := h
    rfl
  obtain ⟨ms, rfl, hm, q⟩ := h
  refine ⟨_,   (pss_cons (ps_if (pt_cmpR op_eq (pv 0) pe_str (nomark _))
      (pss_one (ps_ret (pe_tup pa_nil)))
      pss_nil)
    (pss_cons (ps_set (i := 1) sc_read_marks.nd rfl (Or.inl rfl) (pe_bm PySem.F.plainAttrs_str PySem.F.slot_str_split PySem.F.type_str_split mt_split (pv 0) (pa_cons pe_str pa_nil)))
    (pss_cons (ps_if (pt_not (pt_val (pe_callB (call_all rfl) rfl T.z_all boot_all (pa_cons (pe_comp (own := ["mark"]) (cap := []) rfl (BlkScope.chk rfl rfl) .nil (pi_list (pv 1)) (fun _ _ _ _ => (pg_name (i := 0) (show List.Nodup (["mark"] : List Str) by decide +kernel) rfl (Or.inl rfl))) (fun _ _ _ _ => pts_nil) (fun _ _ _ _ => by exact (pe_call G_is_name hr rfl T.m_is_name T.F_is_name.kp (b_is_name T) .nil pass0 (pa_cons (pv 0) pa_nil)))) pa_nil))))
      (pss_one ps_never)
      pss_nil)
    (pss_cons (ps_if (pt_cmpR (op_neD hr.units) (pv 1) (pe_callB (call_sorted_set rfl) rfl T.z_sorted boot_sorted (pa_cons (pe_callTy (call_set_strs rfl) rfl T.z_set boot_set (pa_cons (pv 1) pa_nil)) pa_nil)) (nomark _))
      (pss_one ps_never)
      pss_nil)
    (pss_one (ps_ret (pe_callTy call_tuple_of rfl T.z_tuple boot_tuple (pa_cons (pv 1) pa_nil)))))))), ?_⟩
  refine ⟨_, rfl, rfl, _, rfl, ?_⟩
  by_cases hne : ms = []
  · subst hne
    exact iteT ⟨(by show 0 ≤ sizeLine; decide), fun a ha => q a _ (same_new ha _) upd_same⟩
  refine ite2 (fun c => ?_) (fun _ => ?_)
  · exfalso
    have c' := of_decide_eq_true c
    injection c' with c'
    exact marksT_ne hm hne c'
  have ml := marksT_len hm
  have es : Txt.split (marksT ms) "," = ms := marks_split hm hne
  refine ⟨_, rfl, rfl, _, _, rfl, rfl, (by decide +kernel), (Nat.le_trans (Nat.add_le_add_right ml.2 2) (by decide)), fun l hl => ?_⟩
  rw [es]
  have S1 := same_new hl (.lst (ms.map V.str))
  have e1 : upd H l (.lst (ms.map V.str)) l = some (.lst (ms.map V.str)) := upd_same
  generalize upd H l (.lst (ms.map V.str)) = H1 at *
  refine ⟨_, rfl, l, rfl, ⟨_, SqL.of e1⟩, ?_⟩
  refine comp_list (xs := ms.map V.str) (fun i ys H' => Same H1 H' ∧ i ≤ ms.length ∧ ys = ((ms.take i).map isName).map V.bl) (fun i ys H' z => SqL.of (z.1 _ _ e1)) ⟨Same.refl _, Nat.zero_le _, rfl⟩ ?_ ?_ ?_
  · rintro i ys H' ⟨_, _, rfl⟩
    rw [List.length_map, List.length_map, List.length_take]
    have := hm.le
    exact small (by omega)
  · rintro i x ys H' hx ⟨S3, hi, rfl⟩
    obtain ⟨m, hmm, rfl⟩ : ∃ m, ms[i]? = some m ∧ V.str m = x := by
      rw [List.getElem?_map] at hx
      cases z : ms[i]? with
      | none => rw [z] at hx; cases hx
      | some m => rw [z] at hx; cases hx; exact ⟨m, rfl, rfl⟩
    have hmem := List.mem_of_getElem? hmm
    refine ⟨rfl, _, rfl, m, rfl, (Nat.le_trans (hm.ok m hmem).2.1 (by decide)), fun H4 S4 => ⟨S3.trans S4, ?_, ?_⟩⟩
    · exact (List.getElem?_eq_some_iff.mp hmm).1
    · rw [List.take_add_one, hmm, List.map_append, List.map_append]
      rfl
  · rintro ys H2 ⟨S2, _, rfl⟩ b hb
    rw [List.length_map, List.take_length]
    have S3 := same_new hb (.lst ((ms.map isName).map V.bl))
    refine ⟨b, _, rfl, SqL.of upd_same, _, rfl, ?_⟩
    have al : (ms.map isName).all id = true := by
      rw [List.all_eq_true]
      intro x hx
      obtain ⟨m, hmm, rfl⟩ := List.mem_map.mp hx
      exact name_isName (hm.ok m hmm)
    rw [al]
    refine iteF ?_
    have e3 := S3 _ _ (S2 _ _ e1)
    generalize upd H2 b (.lst ((ms.map isName).map V.bl)) = H3 at *
    have ml2 := hm.le
    refine ⟨_, rfl, _, rfl, l, ms, rfl, SqL.of e3, (by omega), fun p hp => ?_⟩
    have S4 : ∀ o, Same H3 (upd H3 p o) := fun o => same_new hp o
    refine ⟨p, _, rfl, upd_same, (by rw [dd_nodup hm.nd]; omega), fun p2 ys hp2 py so => ?_⟩
    have ey := hm.same py so
    subst ey
    have S5 := same_new hp2 (.lst (ys.map V.str))
    refine ⟨.list (ys.map .str), .list (ys.map .str), .lst (SqL.of (S5 _ _ (S4 _ _ _ e3))) (strs_DV _), .lst (SqL.of upd_same) (strs_DV _), shaped_names hm.ok, shaped_names hm.ok, _, rfl, ?_⟩
    have ev : (!PyData.eqv (.list (ys.map .str)) (.list (ys.map .str))) = false := by
      rw [PyData.eqv, eqv_strs]
      rfl
    rw [ev]
    refine iteF ?_
    refine ⟨_, rfl, l, _, rfl, .inl ⟨SqL.of (S5 _ _ (S4 _ _ _ e3)), fun t ht => ?_⟩⟩
    exact q t _ (fun c o e => same_new ht _ _ _ (S5 _ _ (S4 _ _ _ (S3 _ _ (S2 _ _ (S1 _ _ e)))))) upd_same
end
theorem text_le {c : Crd} (h : c.ok) : c.text.length ≤ 2000 := by
  have a := join_len SL (Str.join " " c.head :: c.rules.map ruleT)
  have b := Crd.head_len h
  have s := sum_le (l := (c.rules.map ruleT).map (·.length)) (k := 450) (fun x hx => by
    obtain ⟨t, ht, rfl⟩ := List.mem_map.mp hx
    obtain ⟨r, hr, rfl⟩ := List.mem_map.mp ht
    exact ruleT_len (h.rules r hr))
  have e : SL.length = 3 := rfl
  have f := h.few
  rw [List.map_cons, List.sum_cons, List.length_cons, e] at a
  rw [List.length_map, List.length_map] at s
  rw [List.length_map] at a
  show (Str.join SL (Str.join " " c.head :: c.rules.map ruleT)).length ≤ 2000
  have : c.rules.length * 450 ≤ 3 * 450 := Nat.mul_le_mul_right _ f
  omega
section
variable {P : Program} {w : World} {K : PySem.W.Frag} {mg : Str → Option Value} {base : Heap}
theorem ok_read_card (T : Tx K mg) (kb : K.In base) : FnOk P w K mg base CX0 9 T.f_read_card T.d_read_card P_read_card (spReadCard T.c_Card T.c_Whom) := by
  have G_Words := (ok_Words (P := P) (w := w) (base := base) T).mono (by decide : 2 ≤ 7)
  have G_Card := (ok_Card (P := P) (w := w) (base := base) T).mono (by decide : 2 ≤ 7)
  have G_Words_finish := (ok_Words_finish (P := P) (w := w) (base := base) T).mono (by decide : 2 ≤ 8)
  have G_Words_take := (ok_Words_take (P := P) (w := w) (base := base) T).mono (by decide : 2 ≤ 8)
  have G_Words_take_name := (ok_Words_take_name (P := P) (w := w) (base := base) T).mono (by decide : 3 ≤ 8)
  have G_Words_take_number := (ok_Words_take_number (P := P) (w := w) (base := base) T).mono (by decide : 3 ≤ 8)
  have G_read_marks := (ok_read_marks (P := P) (w := w) (base := base) T).mono (by decide : 3 ≤ 8)
  have G_read_rule := ok_read_rule (P := P) (w := w) (base := base) T kb
  refine T.F_read_card.ok sc_read_card (fun vs H Q E h => ?_) (fun cdv A outer s H vs Q E hr h => ?_)
  · obtain ⟨c, rfl, _⟩ := h
    rfl
  obtain ⟨c, rfl, ok, q⟩ := h
  refine ⟨_,   (pss_cons (ps_if (pt_not (pt_val (pe_callB call_isinst rfl T.z_isinstance boot_isinstance (pa_cons (pv 0) (pa_cons (pe_bltn (v := .ty "str") rfl T.z_str boot_str rfl) pa_nil)))))
      (pss_one ps_never)
      pss_nil)
    (pss_cons (ps_set (i := 1) sc_read_card.nd rfl (Or.inl rfl) (pe_bm PySem.F.plainAttrs_str PySem.F.slot_str_split PySem.F.type_str_split mt_split (pv 0) (pa_cons pe_str pa_nil)))
    (pss_cons (ps_if (pt_cmpR op_gt (pe_callB call_len_seq rfl T.z_len PySem.boot_len (pa_cons (pv 1) pa_nil)) (pe_op op_add pe_int (pe_glob (v := .int 3) rfl T.g_MOST_RULES ⟨_, rfl⟩)) (nomark _))
      (pss_one ps_never)
      pss_nil)
    (pss_cons (ps_set (i := 2) sc_read_card.nd rfl (Or.inl rfl) (pe_make T.Mk_Words G_Words hr rfl T.m_Words (b_Words___init__ T) .nil pass0 (pa_cons (pe_ix ix_list (pv 1) pe_int (fun _ _ => rfl)) pa_nil)))
    (pss_cons (ps_set (i := 3) sc_read_card.nd rfl (Or.inl rfl) (pe_meth0 (pv 2) T.cl_Words T.M_Words_take_name G_Words_take_name hr (b_Words_take_name T) .nil pass0))
    (pss_cons (ps_set (i := 4) sc_read_card.nd rfl (Or.inl rfl) (pe_meth0 (pv 2) T.cl_Words T.M_Words_take_number G_Words_take_number hr (b_Words_take_number T) .nil pass0))
    (pss_cons (ps_set (i := 5) sc_read_card.nd rfl (Or.inl rfl) (pe_meth0 (pv 2) T.cl_Words T.M_Words_take_number G_Words_take_number hr (b_Words_take_number T) .nil pass0))
    (pss_cons (ps_set (i := 6) sc_read_card.nd rfl (Or.inl rfl) (pe_call G_read_marks hr rfl T.m_read_marks T.F_read_marks.kp (b_read_marks T) .nil pass0 (pa_cons (pe_meth0 (pv 2) T.cl_Words T.M_Words_take G_Words_take hr (b_Words_take T) .nil pass0) pa_nil)))
    (pss_cons (ps_expr (pe_meth0 (pv 2) T.cl_Words T.M_Words_finish G_Words_finish hr (b_Words_finish T) .nil pass0))
    (pss_one (ps_ret (pe_make T.Mk_Card G_Card hr rfl T.m_Card (b_Card___init__ T) .nil pass0 (pa_cons (pv 3) (pa_cons (pv 4) (pa_cons (pv 5) (pa_cons (pv 6) (pa_cons (pe_callTy call_tuple_of rfl T.z_tuple boot_tuple (pa_cons (pe_comp (own := ["rule"]) (cap := []) rfl (BlkScope.chk rfl rfl) .nil (pi_list (pe_slice sl_list (pv 1) (po_some pe_int) po_none)) (fun _ _ _ _ => (pg_name (i := 0) (show List.Nodup (["rule"] : List Str) by decide +kernel) rfl (Or.inl rfl))) (fun _ _ _ _ => pts_nil) (fun _ _ _ _ => by exact (pe_call G_read_rule hr rfl T.m_read_rule T.F_read_rule.kp (b_read_rule T) .nil pass0 (pa_cons (pv 0) pa_nil)))) pa_nil)) pa_nil))))))))))))))))), ?_⟩
  have tl := text_le ok
  refine ⟨_, rfl, _, _, .type "str", true, rfl, TyOf.str _, .inl ⟨"str", rfl, rfl⟩, true, rfl, ?_⟩
  refine iteF ?_
  have es : Txt.split c.text " / " = Str.join " " c.head :: c.rules.map ruleT := Crd.split ok
  refine ⟨_, rfl, rfl, _, _, rfl, rfl, (by decide +kernel), (Nat.le_trans (Nat.add_le_add_right tl 2) (by decide)), fun l hl => ?_⟩
  rw [es]
  have S1 := same_new hl (.lst ((Str.join " " c.head :: c.rules.map ruleT).map V.str))
  have e1 : upd H l (.lst ((Str.join " " c.head :: c.rules.map ruleT).map V.str)) l = some (.lst ((Str.join " " c.head :: c.rules.map ruleT).map V.str)) := upd_same
  generalize upd H l (.lst ((Str.join " " c.head :: c.rules.map ruleT).map V.str)) = H1 at *
  refine ⟨_, rfl, l, _, rfl, .inl (SqL.of e1), _, _, rfl, rfl, _, _, rfl, rfl, _, rfl, ?_⟩
  refine ite2 (fun z => ?_) (fun _ => ?_)
  · exfalso
    have z' := of_decide_eq_true z
    rw [List.length_map, List.length_cons, List.length_map] at z'
    have := ok.few
    omega
  refine ⟨_, rfl, l, _, _, _, rfl, rfl, SqL.of e1, atI_nat (j := 0) rfl, ?_⟩
  intro x dx nx ndx nex
  have hl2 := Crd.head_len ok
  refine ⟨x, dx, _, rfl, upd_same, (by omega), fun H2 W2 B2 => ⟨rfl, ?_⟩⟩
  rw [show Txt.split (Str.join " " c.head) " " = c.head from Crd.head_split ok] at W2
  have S2 : Same H1 H2 := fun b o e => B2 b o (ne_of_none e nx) (by rw [upd_ne (ne_of_none e nx), upd_ne (ne_of_none e ndx)]; exact e)
  obtain ⟨dx2, l2, at2, _⟩ := id W2
  refine ⟨_, rfl, x, dx2, _, rfl, at2, wfs_no _ _ (by decide +kernel) (by decide +kernel), x, c.head, 0, c.name, rfl, W2, rfl, ok.name, fun H3 W3 B3 => ?_⟩
  obtain ⟨dx3, l3, at3, _⟩ := id W3
  refine ⟨_, rfl, x, dx3, _, rfl, at3, wfs_no _ _ (by decide +kernel) (by decide +kernel), x, c.head, 1, c.cost, rfl, W3, rfl, ok.cost, fun H4 W4 B4 => ?_⟩
  obtain ⟨dx4, l4, at4, _⟩ := id W4
  refine ⟨_, rfl, x, dx4, _, rfl, at4, wfs_no _ _ (by decide +kernel) (by decide +kernel), x, c.head, 2, c.force, rfl, W4, rfl, ok.force, fun H5 W5 B5 => ?_⟩
  obtain ⟨dx5, l5, at5, _⟩ := id W5
  refine ⟨_, rfl, x, dx5, _, rfl, at5, wfs_no _ _ (by decide +kernel) (by decide +kernel), x, c.head, 3, marksT c.marks, rfl, W5, rfl, fun H6 W6 B6 => ?_⟩
  refine ⟨c.marks, rfl, ok.marks, fun m H7 S7 em => ?_⟩
  have W7 := W6.at S7
  obtain ⟨dx7, l7, at7, _⟩ := id W7
  refine ⟨_, rfl, x, dx7, _, rfl, at7, wfs_no _ _ (by decide +kernel) (by decide +kernel), x, c.head, rfl, W7, ?_⟩
  have S37 : Same H H7 := fun b o e => by
    have n := ne_of_none (S1 _ _ e) nx
    exact S7 _ _ (B6 _ _ n (B5 _ _ n (B4 _ _ n (B3 _ _ n (S2 _ _ (S1 _ _ e))))))
  have nlx := ne_of_none e1 nx
  have e7 : H7 l = some (.lst ((Str.join " " c.head :: c.rules.map ruleT).map V.str)) := S7 _ _ (B6 _ _ nlx (B5 _ _ nlx (B4 _ _ nlx (B3 _ _ nlx (S2 _ _ e1)))))
  clear W2 W3 W4 W5 W6 at2 at3 at4 at5
  refine ⟨_, rfl, _, rfl, _, rfl, _, rfl, _, rfl, _, rfl, l, _, rfl, SqL.of e7, fun s1 hs1 => ?_⟩
  have ct : cutV ((Str.join " " c.head :: c.rules.map ruleT).map V.str) (some (1 : Int)) none = (c.rules.map ruleT).map V.str := by
    have := cutV_drop ((Str.join " " c.head :: c.rules.map ruleT).map V.str) 1
    exact this
  rw [ct]
  have S8 := same_new hs1 (.lst ((c.rules.map ruleT).map V.str))
  have e8 : upd H7 s1 (.lst ((c.rules.map ruleT).map V.str)) s1 = some (.lst ((c.rules.map ruleT).map V.str)) := upd_same
  generalize upd H7 s1 (.lst ((c.rules.map ruleT).map V.str)) = H8 at *
  refine ⟨s1, rfl, ⟨_, SqL.of e8⟩, ?_⟩
  refine comp_list (xs := (c.rules.map ruleT).map V.str) (fun i ys H' => Same H8 H' ∧ i ≤ c.rules.length ∧ IsRules T.c_Whom H' ys (c.rules.take i)) (fun i ys H' z => SqL.of (z.1 _ _ e8)) ⟨Same.refl _, Nat.zero_le _, .nil⟩ ?_ ?_ ?_
  · rintro i ys H' ⟨_, _, R⟩
    rw [R.length, List.length_take]
    have := ok.few
    exact small (by omega)
  · rintro i v ys H' hx ⟨S3, hi, R⟩
    obtain ⟨r, hrr, rfl⟩ : ∃ r, c.rules[i]? = some r ∧ V.str (ruleT r) = v := by
      rw [List.getElem?_map, List.getElem?_map] at hx
      cases z : c.rules[i]? with
      | none => rw [z] at hx; cases hx
      | some m => rw [z] at hx; cases hx; exact ⟨m, rfl, rfl⟩
    refine ⟨rfl, _, rfl, r, rfl, ok.rules r (List.mem_of_getElem? hrr), fun u H9 S9 IR => ⟨S3.trans S9, ?_, ?_⟩⟩
    · exact (List.getElem?_eq_some_iff.mp hrr).1
    · rw [List.take_add_one, hrr]
      exact IsRules.snoc IR (R.same S9)
  · rintro ys H9 ⟨S9, _, R⟩ b hb
    rw [List.length_map, List.length_map, List.take_length] at R
    refine ⟨b, _, rfl, .inl ⟨SqL.of upd_same, fun t ht => ?_⟩⟩
    have S10 := same_new hb (.lst ys)
    generalize upd H9 b (.lst ys) = H10 at *
    have S11 := same_new ht (.tup ys)
    have e11 : upd H10 t (.tup ys) t = some (.tup ys) := upd_same
    have Sall : Same H (upd H10 t (.tup ys)) := fun b o e => S11 _ _ (S10 _ _ (S9 _ _ (S8 _ _ (S37 _ _ e))))
    have em11 := S11 _ _ (S10 _ _ (S9 _ _ (S8 _ _ em)))
    have R11 := R.same (S10.trans S11)
    generalize upd H10 t (.tup ys) = H11 at *
    intro y dy ny ndy ney
    have S12 : ∀ o, Same H11 (upd (upd (upd H11 dy (.own y)) y (.ins T.c_Card dy [])) y o) := fun o b u e => by
      rw [upd_upd, upd_ne (ne_of_none e ny), upd_ne (ne_of_none e ndy)]
      exact e
    refine ⟨y, dy, m, t, c.name, c.cost, c.force, rfl, upd_same, rfl, ?_⟩
    exact q _ _ (Sall.trans (S12 _)) ⟨y, dy, m, t, ys, rfl, upd_same, S12 _ _ _ em11, S12 _ _ _ e11, R11.same (S12 _)⟩
end
theorem same_put {H H' : Hp} {p : Addr} (S : Same H H') (h : H p = none) (o : HO) : Same H (upd H' p o) := fun b u q => by rw [upd_ne (ne_of_none q h)]; exact S b u q
theorem none_of {H H' : Hp} {p : Addr} (S : Same H H') (h : H' p = none) : H p = none := by
  cases e : H p with
  | none => rfl
  | some o =>
    have z := S _ _ e
    rw [z] at h
    cases h
@[elab_as_elim] theorem laid {H : Hp} {l : Addr} {o : HO} {motive : Hp → Prop} (hl : H l = none) (h : ∀ H1, Same H H1 → H1 l = some o → motive H1) : motive (upd H l o) := h _ (same_new hl o) upd_same
theorem SqF.same {K : PySem.W.Frag} {H H' : Hp} {a : Addr} {xs : List V} (h : SqF K H a xs) (k : Same H H') : SqF K H' a xs := h.keep fun _ _ z => k _ _ z
theorem at_int {ns : List Int} {i : Int} (h0 : 0 ≤ i) (h : i < (ns.length : Int)) : ∃ z, atI (ns.map V.int) i = some (.int z) ∧ z ∈ ns := by
  obtain ⟨v, hv, hm⟩ := at_get (xs := ns.map V.int) h0 (by rw [List.length_map]; exact h)
  obtain ⟨z, hz, rfl⟩ := List.mem_map.mp hm
  exact ⟨z, hv, hz⟩
theorem at_text {ss : List Str} {r : Int} (h0 : 0 ≤ r) (h1 : r < (ss.length : Int)) : ∃ u, atI (ss.map V.str) r = some (.str u) ∧ u ∈ ss := by
  obtain ⟨v, hv, hm⟩ := at_get (xs := ss.map V.str) h0 (by rw [List.length_map]; exact h1)
  obtain ⟨u, hu, rfl⟩ := List.mem_map.mp hm
  exact ⟨u, hv, hu⟩
theorem mod_lo (x : Int) {m : Int} (h : 0 < m) : 0 ≤ x % m ∧ x % m < m := ⟨Int.emod_nonneg x (by omega), Int.emod_lt_of_pos x h⟩
theorem half_lo (x : Int) : 0 ≤ x % 9 / 8 ∧ x % 9 / 8 < 2 := by
  have := mod_lo x (m := 9) (by decide)
  omega
theorem pick_n {x y r : Int} (h0 : 0 ≤ r) (h1 : r < 2) (hx : 0 ≤ x ∧ x < 1000) (hy : 0 ≤ y ∧ y < 1000) : ∃ i : Nat, atI [V.int x, V.int y] r = some (.int (i : Int)) ∧ i < 1000 := by
  obtain ⟨v, hv, hm⟩ := at_get (xs := [V.int x, V.int y]) h0 h1
  simp only [List.mem_cons, List.not_mem_nil, or_false] at hm
  rcases hm with e | e <;> subst e
  · exact ⟨x.toNat, by rw [show ((x.toNat : Nat) : Int) = x by omega]; exact hv, by omega⟩
  · exact ⟨y.toNat, by rw [show ((y.toNat : Nat) : Int) = y by omega]; exact hv, by omega⟩
structure N3 (H : Hp) (nl : Addr) (ns : List Str) : Prop where
  at_ : H nl = some (.lst (ns.map V.str))
  len : ns.length = 3
  ok : ∀ n ∈ ns, NameOk n
  nd : ns.Nodup
theorem N3.same {H H' : Hp} {nl : Addr} {ns : List Str} (h : N3 H nl ns) (b : Same H H') : N3 H' nl ns := ⟨b _ _ h.at_, h.len, h.ok, h.nd⟩
def spAt (K : PySem.W.Frag) : Sp := fun vs H Q _ => ∃ (a : Addr) (ns : List Int) (k : Nat), vs = [.ref a, .int (k : Int)] ∧ SqF K H a (ns.map V.int) ∧ ns.length ≤ 63 ∧ k ≤ 1000 ∧ ∀ z : Int, Q (.int z) H
def spNames8 (K : PySem.W.Frag) : Sp := fun vs H Q _ => ∃ (a : Addr) (ns : List Int), vs = [.ref a] ∧ SqF K H a (ns.map V.int) ∧ ns.length ≤ 63 ∧ ∀ (nl : Addr) (ms : List Str) (H' : Hp), Same H H' → N3 H' nl ms → Q (.ref nl) H'
def ltr (r : Int) : Nat := (LL.cps.toList[r.toNat]?).getD 0
theorem ltr_nat : ∀ n : Nat, n < 26 → LL.cps.toList[n]? = some (97 + n) := by decide +kernel
theorem ltr_is {r : Int} (h0 : 0 ≤ r) (h1 : r < 26) : (ltr r : Int) = 97 + r := by
  unfold ltr
  rw [ltr_nat r.toNat (by omega)]
  show ((97 + r.toNat : Nat) : Int) = 97 + r
  omega
theorem ltr_at {r : Int} (h0 : 0 ≤ r) (h1 : r < 26) : atI LL.cps.toList r = some (ltr r) := by
  have q := atI_nat (ltr_nat r.toNat (by omega))
  rw [show ((r.toNat : Nat) : Int) = r by omega] at q
  rw [q]
  unfold ltr
  rw [ltr_nat r.toNat (by omega)]
  rfl
theorem ltr_ok (x : Int) : 97 ≤ ltr (x % 26) ∧ ltr (x % 26) ≤ 122 := by
  have m := mod_lo x (m := 26) (by decide)
  have := ltr_is m.1 m.2
  omega
def sgn (c : Nat) : Str := ⟨#[c]⟩
theorem join_signs : ∀ cs : List Nat, (Str.join "" (cs.map sgn)).cps.toList = cs
  | [] => rfl
  | [c] => rfl
  | c :: d :: r => by
    have ih := join_signs (d :: r)
    have e : Str.join "" ((c :: d :: r).map sgn) = sgn c ++ "" ++ Str.join "" ((d :: r).map sgn) := rfl
    rw [e]
    show ((#[c] ++ ("" : Str).cps) ++ (Str.join "" ((d :: r).map sgn)).cps).toList = _
    rw [Array.toList_append, ih]
    rfl
def sgs (cell : Int) (m : Nat) : List Nat := (List.range m).map fun j : Nat => ltr ((cell / (0 + (j : Int) + 1) + 5 * (0 + (j : Int))) % 26)
theorem sgs_succ (cell : Int) (m : Nat) : sgs cell (m + 1) = sgs cell m ++ [ltr ((cell / (0 + (m : Int) + 1) + 5 * (0 + (m : Int))) % 26)] := by
  unfold sgs
  rw [List.range_succ, List.map_append]
  rfl
theorem sgs_len (cell : Int) (m : Nat) : (sgs cell m).length = m := by
  unfold sgs
  rw [List.length_map, List.length_range]
theorem sgs_ok (cell : Int) (m : Nat) : ∀ c ∈ sgs cell m, 97 ≤ c ∧ c ≤ 122 := by
  intro c hc
  obtain ⟨j, _, rfl⟩ := List.mem_map.mp hc
  exact ltr_ok _
def nmAt (cs : List Nat) (a c : Nat) : Str := Str.join "" ((cs.set a c).map sgn)
theorem nmAt_ok {cs : List Nat} {a c : Nat} (h1 : 1 ≤ cs.length) (h8 : cs.length ≤ 8) (hc : 97 ≤ c ∧ c ≤ 122) (hs : ∀ x ∈ cs, 97 ≤ x ∧ x ≤ 122) : NameOk (nmAt cs a c) := by
  have e : (nmAt cs a c).cps.toList = cs.set a c := join_signs _
  have el : (nmAt cs a c).length = cs.length := by
    have q := congrArg List.length e
    rw [Array.length_toList, List.length_set] at q
    exact q
  refine ⟨by omega, by omega, ?_⟩
  rw [e]
  intro x hx
  rcases List.mem_or_eq_of_mem_set hx with z | z
  · exact hs x z
  · rw [z]
    exact hc
theorem nmAt_inj {cs : List Nat} {a c d : Nat} (ha : a < cs.length) (h : nmAt cs a c = nmAt cs a d) : c = d := by
  have e := congrArg (fun z : Str => z.cps.toList) h
  unfold nmAt at e
  simp only [join_signs] at e
  have f := congrArg (fun z : List Nat => z[a]?) e
  simp only [List.getElem?_set_self ha] at f
  exact Option.some.inj f
theorem sum_ones8 : ∀ cs : List Nat, ((cs.map sgn).map (·.length)).sum = cs.length
  | [] => rfl
  | c :: r => by
    rw [List.map_cons, List.map_cons, List.sum_cons, sum_ones8 r, List.length_cons]
    show 1 + r.length = r.length + 1
    omega
section
variable {P : Program} {w : World} {K : PySem.W.Frag} {mg : Str → Option Value} {base : Heap}
set_option maxHeartbeats 2000000 in
theorem ok__law_at (T : Tx K mg) : FnOk P w K mg base CX0 2 T.f__law_at T.d__law_at P__law_at (spAt K) := by
  refine T.F__law_at.ok sc__law_at (fun vs H Q E h => ?_) (fun cdv A outer s H vs Q E hr h => ?_)
  · obtain ⟨a, ns, k, rfl, _⟩ := h
    rfl
  obtain ⟨a, ns, k, rfl, hS, h63, hk, q⟩ := h
  have hl : (ns.map V.int).length = ns.length := List.length_map _
  refine ⟨_,   (pss_cons (ps_if (pt_cmpR op_lt (pv 1) (pe_callB call_len_seq rfl T.z_len PySem.boot_len (pa_cons (pv 0) pa_nil)) (nomark _))
      (pss_one (ps_ret (pe_ix ix_list (pv 0) (pv 1) (fun _ _ => rfl))))
      pss_nil)
    (pss_cons (ps_set (i := 2) sc__law_at.nd rfl (Or.inl rfl) (pe_op op_add pe_int (pe_op op_mul (pe_op op_mul pe_int (pv 1)) (pv 1))))
    (pss_cons (ps_if (pt_cmpR op_gt (pe_callB call_len_seq rfl T.z_len PySem.boot_len (pa_cons (pv 0) pa_nil)) pe_int (nomark _))
      (pss_one (ps_set (i := 2) sc__law_at.nd rfl (Or.inl rfl) (pe_op op_add (pv 2) (pe_op op_mul (pe_op op_mod (pe_ix ix_list (pv 0) (pe_op op_mod (pv 1) (pe_callB call_len_seq rfl T.z_len PySem.boot_len (pa_cons (pv 0) pa_nil))) (fun _ _ => rfl)) pe_int) (pe_op op_add (pe_op op_fdiv (pv 1) (pe_callB call_len_seq rfl T.z_len PySem.boot_len (pa_cons (pv 0) pa_nil))) pe_int)))))
      pss_nil)
    (pss_one (ps_ret (pe_op op_mod (pe_op op_mul (pv 2) pe_int) pe_int)))))), ?_⟩
  refine ⟨_, rfl, _, rfl, a, _, rfl, .inl hS.sq, _, _, rfl, rfl, _, rfl, ite2 (fun c => ?_) (fun c => ?_)⟩
  · have c' : (k : Int) < (((ns.map V.int).length : Nat) : Int) := of_decide_eq_true c
    obtain ⟨z, hz, _⟩ := at_int (ns := ns) (i := (k : Int)) (by omega) (by omega)
    exact ⟨_, rfl, _, rfl, a, _, _, _, rfl, rfl, hS.sq, hz, q z⟩
  · refine ⟨_, rfl, _, _, rfl, rfl, .inl ⟨by decide, by decide⟩, _, rfl, _, _, rfl, rfl, .inr ⟨by omega, by omega⟩, _, _, rfl, rfl, ?_⟩
    refine ⟨_, rfl, a, _, rfl, .inl hS.sq, _, _, rfl, rfl, _, rfl, ite2 (fun c => ?_) (fun c => ?_)⟩
    · have c' : (0 : Int) < (((ns.map V.int).length : Nat) : Int) := of_decide_eq_true c
      have m := mod_lo (k : Int) c'
      obtain ⟨z, hz, _⟩ := at_int (ns := ns) m.1 (by omega)
      have mz := mod_lo z (m := 1000081) (by decide)
      refine ⟨_, rfl, _, rfl, _, rfl, _, rfl, a, _, rfl, .inl hS.sq, _, _, rfl, rfl, c', a, _, _, _, rfl, rfl, hS.sq, hz, _, _, rfl, rfl, (by show (0 : Int) < 1000081; decide), ?_⟩
      refine ⟨_, rfl, _, rfl, a, _, rfl, .inl hS.sq, _, _, rfl, rfl, ⟨c', by omega⟩, _, _, rfl, rfl, _, _, rfl, rfl, .inl ⟨by omega, by omega⟩, _, _, rfl, rfl, ?_⟩
      exact ⟨_, rfl, _, _, rfl, rfl, .inr ⟨by decide, by decide⟩, _, _, rfl, rfl, (by show (0 : Int) < 2147483647; decide), q _⟩
    · exact ⟨_, rfl, _, _, rfl, rfl, .inr ⟨by decide, by decide⟩, _, _, rfl, rfl, (by show (0 : Int) < 2147483647; decide), q _⟩
set_option maxHeartbeats 4000000 in
theorem ok__law_names (T : Tx K mg) : FnOk P w K mg base CX0 3 T.f__law_names T.d__law_names P__law_names (spNames8 K) := by
  have G__law_at := ok__law_at (P := P) (w := w) (base := base) T
  refine T.F__law_names.ok sc__law_names (fun vs H Q E h => ?_) (fun cdv A outer s H vs Q E hr h => ?_)
  · obtain ⟨a, ns, rfl, _⟩ := h
    rfl
  obtain ⟨sa, ss, rfl, hS, h63, q⟩ := h
  refine ⟨_,   (pss_cons (ps_set (i := 1) sc__law_names.nd rfl (Or.inr rfl) pe_str)
    (pss_cons (ps_set (i := 2) sc__law_names.nd rfl (Or.inr rfl) (pe_op op_mod (pe_call G__law_at hr rfl T.m__law_at T.F__law_at.kp (b__law_at T) .nil pass0 (pa_cons (pv 0) (pa_cons pe_int pa_nil))) pe_int))
    (pss_cons (ps_set (i := 3) sc__law_names.nd rfl (Or.inl rfl) (pe_op op_add pe_int (pe_op op_mod (pe_op op_fdiv (pv 2) pe_int) pe_int)))
    (pss_cons (ps_set (i := 4) sc__law_names.nd rfl (Or.inl rfl) (pe_op op_mod (pe_op op_fdiv (pv 2) pe_int) (pv 3)))
    (pss_cons (ps_set (i := 5) sc__law_names.nd rfl (Or.inl rfl) (pe_lst pa_nil))
    (pss_cons (ps_for PassesOwn.never rfl (pi_range1 rfl T.z_range (pa_cons pe_int pa_nil)) (pg_name (i := 6) sc__law_names.nd rfl (Or.inl rfl))
      (pss_cons (ps_setC (i := 7) sc__law_names.nd rfl (Or.inl rfl) (own := ["_law_j"]) (cap := ["_law_letters", "_law_cell"]) rfl (BlkScope.chk rfl rfl) (.cons (j := 1) rfl (.inl rfl) (.inl rfl) (.cons (j := 2) rfl (.inl rfl) (.inl rfl) .nil)) (pi_range1 rfl T.z_range (pa_cons (pv 3) pa_nil)) (fun _ _ _ _ => (pg_name (i := 0) (show List.Nodup (["_law_j", "_law_letters", "_law_cell"] : List Str) by decide +kernel) rfl (Or.inl rfl))) (fun _ _ _ _ => pts_nil) (fun _ _ _ _ => by exact (pe_ix ix_str (pv 1) (pe_op op_mod (pe_op op_add (pe_op op_fdiv (pv 2) (pe_op op_add (pv 0) pe_int)) (pe_op op_mul pe_int (pv 0))) pe_int) (fun _ _ => rfl))))
      (pss_cons (ps_asg (pe_ix ix_str (pv 1) (pe_op op_mod (pe_op op_add (pe_op op_fdiv (pv 2) pe_int) (pe_op op_mul pe_int (pv 6))) pe_int) (fun _ _ => rfl)) (pg_sub (pv 7) (pv 4) set_list))
      (pss_one (ps_expr (pe_bm PySem.F.plainAttrs_list PySem.F.slot_list_append PySem.F.type_list_append mt_append (pv 5) (pa_cons (pe_bm PySem.F.plainAttrs_str PySem.F.slot_str_join PySem.F.type_str_join mt_join pe_str (pa_cons (pv 7) pa_nil)) pa_nil)))))))
    (pss_cons (ps_if (pt_cmpR op_eq (pe_op op_mod (pv 2) pe_int) pe_int (nomark _))
      (pss_one (ps_set (i := 5) sc__law_names.nd rfl (Or.inl rfl) (pe_lst (pa_cons pe_str (pa_cons pe_str (pa_cons pe_str pa_nil))))))
      pss_nil)
    (pss_one (ps_ret (pv 5)))))))))), ?_⟩
  refine ⟨_, rfl, sa, ss, 1, rfl, hS, h63, by decide, fun z => ⟨_, _, rfl, rfl, (by show (0 : Int) < 2147483629; decide), ?_⟩⟩
  have c0 := mod_lo z (m := 2147483629) (by decide)
  dsimp only
  generalize z % 2147483629 = cell at c0 ⊢
  refine ⟨_, rfl, _, _, rfl, rfl, ⟨by decide, by decide⟩, _, _, rfl, rfl, (by show (0 : Int) < 8; decide), _, _, rfl, rfl, ?_⟩
  have s8 := mod_lo (cell / 3) (m := 8) (by decide)
  obtain ⟨m, hm⟩ : ∃ m : Nat, 1 + cell / 3 % 8 = (m : Int) := ⟨(1 + cell / 3 % 8).toNat, by omega⟩
  dsimp only
  rw [hm]
  refine ⟨_, rfl, _, _, rfl, rfl, ⟨by decide, by decide⟩, _, rfl, _, _, rfl, rfl, (by show (0 : Int) < (m : Int); omega), ?_⟩
  have a8 := mod_lo (cell / 24) (m := (m : Int)) (by omega)
  obtain ⟨a, ha⟩ : ∃ a : Nat, cell / 24 % (m : Int) = (a : Int) := ⟨(cell / 24 % (m : Int)).toNat, by omega⟩
  dsimp only
  rw [ha]
  refine ⟨(by show 0 ≤ sizeLine; decide), fun nl hnl => ?_⟩
  refine laid hnl fun H1 S1 e1 => ?_
  refine ⟨3, rfl, by decide, by decide, ?_⟩
  refine for_range (lo := 0) (n := (3 : Int).toNat) (fun i σ H' => ∃ (ns : List Str) (o6 o7 : Option V), σ = [some (.ref sa), some (.str LL), some (.int cell), some (.int (m : Int)), some (.int (a : Int)), some (.ref nl), o6, o7] ∧ H' nl = some (.lst (ns.map V.str)) ∧ ns.length = i ∧ (∀ n ∈ ns, NameOk n) ∧ ns.Nodup ∧ (∀ n ∈ ns, ∃ j : Nat, j < i ∧ n = nmAt (sgs cell m) a (ltr ((cell / 192 + 7 * (0 + (j : Int))) % 26))) ∧ Same H H') ⟨[], _, _, rfl, e1, rfl, by simp, .nil, by simp, S1⟩ ?_ ?_
  · rintro i σ H' hi ⟨ns, o6, o7, rfl, f', hl, hok, hnd, hwh, S'⟩
    have hi' : i < 3 := hi
    refine ⟨_, rfl, _, rfl, by omega, by omega, ?_⟩
    rw [Int.toNat_natCast]
    refine comp_range (fun j ys Hx => Hx = H' ∧ j ≤ m ∧ ys = ((sgs cell j).map sgn).map V.str) ⟨rfl, Nat.zero_le _, rfl⟩ ?_ ?_ ?_
    · rintro j ys Hx ⟨_, hj, rfl⟩
      rw [List.length_map, List.length_map, sgs_len]
      exact small (by omega)
    · rintro j ys Hx hj ⟨rfl, _, rfl⟩
      have r26 := mod_lo (cell / (0 + (j : Int) + 1) + 5 * (0 + (j : Int))) (m := 26) (by decide)
      refine ⟨rfl, _, rfl, _, rfl, _, rfl, _, _, rfl, rfl, _, _, rfl, rfl, ⟨by omega, by omega⟩, _, rfl, _, _, rfl, rfl, .inl ⟨by decide, by decide⟩, _, _, rfl, rfl, _, _, rfl, rfl, (by show (0 : Int) < 26; decide), LL, _, _, rfl, rfl, (by decide +kernel), ltr_at r26.1 r26.2, rfl, hj, ?_⟩
      rw [sgs_succ, List.map_append, List.map_append]
      rfl
    · rintro ys Hx ⟨rfl, _, rfl⟩ sl hsl
      refine laid hsl fun H2 S2 e2 => ?_
      have r26 := mod_lo (cell / 192 + 7 * (0 + (i : Int))) (m := 26) (by decide)
      refine ⟨_, rfl, _, rfl, _, _, rfl, rfl, ⟨by decide, by decide⟩, _, rfl, _, _, rfl, rfl, .inl ⟨by decide, by decide⟩, _, _, rfl, rfl, _, _, rfl, rfl, (by show (0 : Int) < 26; decide), LL, _, _, rfl, rfl, (by decide +kernel), ltr_at r26.1 r26.2, ?_⟩
      have al : a < (((sgs cell m).map sgn).map V.str).length := by
        rw [List.length_map, List.length_map, sgs_len]
        omega
      have ej : ixN (((sgs cell m).map sgn).map V.str).length (a : Int) = some a := by
        unfold ixN
        rw [if_pos (by omega), if_pos (by omega), Int.toNat_natCast]
      refine ⟨_, rfl, _, rfl, sl, _, _, a, rfl, rfl, e2, ej, ?_⟩
      have e3 : upd H2 sl (.lst ((((sgs cell m).map sgn).map V.str).set a (.str ⟨#[ltr ((cell / 192 + 7 * (0 + (i : Int))) % 26)]⟩))) sl = some (.lst ((((sgs cell m).set a (ltr ((cell / 192 + 7 * (0 + (i : Int))) % 26))).map sgn).map V.str)) := by
        rw [upd_same, List.map_set, List.map_set]
        rfl
      have hsl0 := none_of S' hsl
      have nn : nl ≠ sl := ne_of_none f' hsl
      have f3 : upd H2 sl (.lst ((((sgs cell m).map sgn).map V.str).set a (.str ⟨#[ltr ((cell / 192 + 7 * (0 + (i : Int))) % 26)]⟩))) nl = some (.lst (ns.map V.str)) := by
        rw [upd_ne nn]
        exact S2 _ _ f'
      have S3 : Same H (upd H2 sl (.lst ((((sgs cell m).map sgn).map V.str).set a (.str ⟨#[ltr ((cell / 192 + 7 * (0 + (i : Int))) % 26)]⟩)))) := same_put (S'.trans S2) hsl0 _
      generalize upd H2 sl (.lst ((((sgs cell m).map sgn).map V.str).set a (.str ⟨#[ltr ((cell / 192 + 7 * (0 + (i : Int))) % 26)]⟩))) = H3 at *
      refine ⟨_, rfl, .inl ⟨rfl, _, SqL.of f3⟩, rfl, _, rfl, "", sl, ((sgs cell m).set a (ltr ((cell / 192 + 7 * (0 + (i : Int))) % 26))).map sgn, rfl, rfl, SqL.of e3, ?_, nl, _, _, rfl, rfl, f3, ?_, ?_⟩
      · rw [sum_ones8, List.length_set, sgs_len]
        have z0 : ("" : Str).length = 0 := rfl
        rw [z0]
        omega
      · rw [List.length_map]
        exact small1000 (by omega)
      have nm := nmAt_ok (cs := sgs cell m) (a := a) (by rw [sgs_len]; omega) (by rw [sgs_len]; omega) (ltr_ok (cell / 192 + 7 * (0 + (i : Int)))) (sgs_ok cell m)
      refine ⟨ns ++ [nmAt (sgs cell m) a (ltr ((cell / 192 + 7 * (0 + (i : Int))) % 26))], _, _, rfl, ?_, ?_, ?_, ?_, ?_, same_put S3 hnl _⟩
      · rw [List.map_append]
        exact upd_same
      · rw [List.length_append, hl]
        rfl
      · intro x hx
        rcases List.mem_append.mp hx with hx | hx
        · exact hok x hx
        · rw [List.mem_singleton.mp hx]
          exact nm
      · rw [List.nodup_append]
        refine ⟨hnd, List.pairwise_singleton _ _, fun x hx y hy z => ?_⟩
        rw [List.mem_singleton.mp hy] at z
        obtain ⟨j, hj, rfl⟩ := hwh x hx
        have ed := nmAt_inj (by rw [sgs_len]; omega) z
        have k26 := mod_lo (cell / 192 + 7 * (0 + (j : Int))) (m := 26) (by decide)
        have u1 := ltr_is r26.1 r26.2
        have u2 := ltr_is k26.1 k26.2
        omega
      · intro x hx
        rcases List.mem_append.mp hx with hx | hx
        · obtain ⟨j, hj, e⟩ := hwh x hx
          exact ⟨j, by omega, e⟩
        · exact ⟨i, by omega, List.mem_singleton.mp hx⟩
  · rintro σ H' ⟨ns, o6, o7, rfl, f', hl, hok, hnd, _, S'⟩
    refine ⟨_, rfl, _, _, rfl, rfl, (by show (0 : Int) < 3; decide), rfl, _, rfl, ite2 (fun _ => ?_) (fun _ => ?_)⟩
    · refine ⟨(by show 3 ≤ sizeLine; decide), fun l3 hl3 => ?_⟩
      refine laid hl3 fun H3 S3 e3 => ?_
      refine ⟨_, rfl, q l3 ["a", "ab", "b"] H3 (S'.trans S3) ⟨e3, rfl, ?_, by decide +kernel⟩⟩
      have z : ∀ u ∈ (["a", "ab", "b"] : List Str), 1 ≤ u.length ∧ u.length ≤ 8 ∧ ∀ c ∈ u.cps.toList, 97 ≤ c ∧ c ≤ 122 := by decide +kernel
      exact z
    · exact ⟨_, rfl, q nl ns H' S' ⟨f', hl, hok, hnd⟩⟩
end
def whT (y : Wh) : Str := Str.join " " y.words
inductive WT (H : Hp) : V → Wh → Prop where
  | all {a : Addr} : H a = some (.tup [.str "all"]) → WT H (.ref a) .all
  | self {a : Addr} : H a = some (.tup [.str "self"]) → WT H (.ref a) .self
  | mine {a : Addr} : H a = some (.tup [.str "mine"]) → WT H (.ref a) .mine
  | mark {a : Addr} {n : Str} : H a = some (.tup [.str "mark", .str n]) → WT H (.ref a) (.mark n)
  | force {a : Addr} {i : Nat} : H a = some (.tup [.str "force", .int (i : Int)]) → WT H (.ref a) (.force i)
  | not {a : Addr} {x : V} {y : Wh} : H a = some (.tup [.str "not", x]) → WT H x y → WT H (.ref a) (.not y)
  | both {a : Addr} {x x' : V} {y y' : Wh} : H a = some (.tup [.str "both", x, x']) → WT H x y → WT H x' y' → WT H (.ref a) (.both y y')
  | any {a : Addr} {x x' : V} {y y' : Wh} : H a = some (.tup [.str "any", x, x']) → WT H x y → WT H x' y' → WT H (.ref a) (.any y y')
theorem WT.same {H H' : Hp} (s : Same H H') : ∀ {v : V} {y : Wh}, WT H v y → WT H' v y
  | _, _, .all h => .all (s _ _ h)
  | _, _, .self h => .self (s _ _ h)
  | _, _, .mine h => .mine (s _ _ h)
  | _, _, .mark h => .mark (s _ _ h)
  | _, _, .force h => .force (s _ _ h)
  | _, _, .not h t => .not (s _ _ h) (t.same s)
  | _, _, .both h t u => .both (s _ _ h) (t.same s) (u.same s)
  | _, _, .any h t u => .any (s _ _ h) (t.same s) (u.same s)
theorem WT.tup {H : Hp} {v : V} {y : Wh} (h : WT H v y) : ∃ a xs, v = .ref a ∧ H a = some (.tup xs) := by
  cases h <;> exact ⟨_, _, rfl, by assumption⟩
def dep : Wh → Nat
  | .not a => dep a + 1
  | .both a b => max (dep a) (dep b) + 1
  | .any a b => max (dep a) (dep b) + 1
  | _ => 0
theorem size_dep : ∀ y : Wh, y.size < 2 ^ (dep y + 1)
  | .all => by decide
  | .self => by decide
  | .mine => by decide
  | .mark _ => by show 1 < 2 ^ 1; decide
  | .force _ => by show 1 < 2 ^ 1; decide
  | .not a => by
    have := size_dep a
    show a.size + 1 < 2 ^ (dep a + 1 + 1)
    rw [Nat.pow_succ]
    have : 0 < 2 ^ (dep a + 1) := Nat.two_pow_pos _
    omega
  | .both a b => by
    have h1 := size_dep a
    have h2 := size_dep b
    have k1 : 2 ^ (dep a + 1) ≤ 2 ^ (max (dep a) (dep b) + 1) := Nat.pow_le_pow_right (by decide) (by omega)
    have k2 : 2 ^ (dep b + 1) ≤ 2 ^ (max (dep a) (dep b) + 1) := Nat.pow_le_pow_right (by decide) (by omega)
    show a.size + b.size + 1 < 2 ^ (max (dep a) (dep b) + 1 + 1)
    rw [Nat.pow_succ]
    omega
  | .any a b => by
    have h1 := size_dep a
    have h2 := size_dep b
    have k1 : 2 ^ (dep a + 1) ≤ 2 ^ (max (dep a) (dep b) + 1) := Nat.pow_le_pow_right (by decide) (by omega)
    have k2 : 2 ^ (dep b + 1) ≤ 2 ^ (max (dep a) (dep b) + 1) := Nat.pow_le_pow_right (by decide) (by omega)
    show a.size + b.size + 1 < 2 ^ (max (dep a) (dep b) + 1 + 1)
    rw [Nat.pow_succ]
    omega
theorem plain_dep {y : Wh} (h : y.ok) (d : dep y ≤ 2) : plain y := by
  refine ⟨h, ?_⟩
  have := size_dep y
  have k : 2 ^ (dep y + 1) ≤ 2 ^ 3 := Nat.pow_le_pow_right (by decide) (by omega)
  have e : (2 : Nat) ^ 3 = 8 := by decide
  omega
def spWhom8 (n : Nat) : Sp := fun vs H Q _ => ∃ (nl : Addr) (ns : List Str) (c : Int) (d : Nat), vs = [.int c, .ref nl, .int (d : Int)] ∧ d < n ∧ d ≤ 2 ∧ N3 H nl ns ∧ ∀ (v : V) (y : Wh) (H' : Hp), Same H H' → WT H' v y → y.ok → dep y ≤ d → Q v H'
theorem pick_way {r : Int} {x y : Str} (h0 : 0 ≤ r) (h1 : r < 2) : ∃ u : Str, atI [V.str x, V.str y] r = some (.str u) ∧ (u = x ∨ u = y) := by
  obtain ⟨v, hv, hm⟩ := at_get (xs := [V.str x, V.str y]) h0 h1
  simp only [List.mem_cons, List.not_mem_nil, or_false] at hm
  rcases hm with e | e <;> subst e
  · exact ⟨_, hv, .inl rfl⟩
  · exact ⟨_, hv, .inr rfl⟩
section
variable {P : Program} {w : World} {K : PySem.W.Frag} {mg : Str → Option Value} {base : Heap}
set_option maxHeartbeats 4000000 in
theorem whom_step (T : Tx K mg) {n : Nat} (G__law_whom : FnOk P w K mg base CX0 (n + 2) T.f__law_whom T.d__law_whom P__law_whom (spWhom8 n)) : FnOk P w K mg base CX0 (n + 3) T.f__law_whom T.d__law_whom P__law_whom (spWhom8 (n + 1)) := by
  refine T.F__law_whom.ok sc__law_whom (fun vs H Q E h => ?_) (fun cdv A outer s H vs Q E hr h => ?_)
  · obtain ⟨nl, ns, c, d, rfl, _⟩ := h
    rfl
  obtain ⟨nl, ns, c, d, rfl, hdn, hd2, N0, q⟩ := h
  refine ⟨_,   (pss_cons (ps_set (i := 3) sc__law_whom.nd rfl (Or.inl rfl) (pe_op op_mod (pv 0) pe_int))
    (pss_cons (ps_set (i := 4) sc__law_whom.nd rfl (Or.inl rfl) (pe_op op_fdiv (pv 0) pe_int))
    (pss_cons (ps_if (PW.pt (pw_and (pt_cmpR op_gt (pv 2) pe_int (nomark _)) (pw_and1 (pt_cmpR op_eq (pv 3) pe_int (nomark _)))))
      (pss_one (ps_ret (pe_tup (pa_cons pe_str (pa_cons (pe_call G__law_whom hr rfl T.m__law_whom T.F__law_whom.kp (b__law_whom T) .nil pass0 (pa_cons (pv 4) (pa_cons (pv 1) (pa_cons (pe_op op_sub (pv 2) pe_int) pa_nil)))) pa_nil)))))
      pss_nil)
    (pss_cons (ps_if (PW.pt (pw_and (pt_cmpR op_gt (pv 2) pe_int (nomark _)) (pw_and1 (pt_cmpR op_lt (pv 3) pe_int (nomark _)))))
      (pss_cons (ps_set (i := 5) sc__law_whom.nd rfl (Or.inl rfl) (pe_call G__law_whom hr rfl T.m__law_whom T.F__law_whom.kp (b__law_whom T) .nil pass0 (pa_cons (pe_op op_mod (pe_op op_mul (pv 4) pe_int) pe_int) (pa_cons (pv 1) (pa_cons (pe_op op_sub (pv 2) pe_int) pa_nil)))))
      (pss_one (ps_ret (pe_tup (pa_cons (pe_ix ix_tup (pe_tup (pa_cons pe_str (pa_cons pe_str pa_nil))) (pe_op op_sub (pv 3) pe_int) (fun _ _ => rfl)) (pa_cons (pe_call G__law_whom hr rfl T.m__law_whom T.F__law_whom.kp (b__law_whom T) .nil pass0 (pa_cons (pv 4) (pa_cons (pv 1) (pa_cons (pe_op op_sub (pv 2) pe_int) pa_nil)))) (pa_cons (pv 5) pa_nil)))))))
      pss_nil)
    (pss_cons (ps_if (pt_cmpR op_lt (pv 3) pe_int (nomark _))
      (pss_one (ps_ret (pe_tup (pa_cons pe_str (pa_cons (pe_ix ix_list (pv 1) (pe_op op_mod (pv 4) pe_int) (fun _ _ => rfl)) pa_nil)))))
      pss_nil)
    (pss_cons (ps_if (pt_cmpR op_lt (pv 3) pe_int (nomark _))
      (pss_one (ps_ret (pe_tup (pa_cons pe_str (pa_cons (pe_ix ix_tup (pe_tup (pa_cons (pe_op op_mod (pv 4) pe_int) (pa_cons (pe_op op_mod (pv 4) pe_int) pa_nil))) (pe_op op_fdiv (pe_op op_mod (pe_op op_fdiv (pv 4) pe_int) pe_int) pe_int) (fun _ _ => rfl)) pa_nil)))))
      pss_nil)
    (pss_one (ps_ret (pe_ix ix_tup (pe_tup (pa_cons (pe_tup (pa_cons pe_str pa_nil)) (pa_cons (pe_tup (pa_cons pe_str pa_nil)) (pa_cons (pe_tup (pa_cons pe_str pa_nil)) pa_nil)))) (pe_op op_sub (pv 3) pe_int) (fun _ _ => rfl)))))))))), ?_⟩
  refine ⟨_, rfl, _, _, rfl, rfl, (by show (0 : Int) < 11; decide), ?_⟩
  have w0 := mod_lo c (m := 11) (by decide)
  dsimp only
  generalize c % 11 = way at w0 ⊢
  refine ⟨_, rfl, _, _, rfl, rfl, ⟨by decide, by decide⟩, ?_⟩
  dsimp only
  generalize c / 11 = rest
  refine ⟨_, rfl, _, _, rfl, rfl, _, rfl, ite2 (fun c1 => ⟨_, rfl, rfl, _, rfl, ite2 (fun c2 => ?A) (fun c2 => ?S1)⟩) (fun c1 => iteF ?S2)⟩
  case' S1 => refine ⟨_, rfl, _, _, rfl, rfl, _, rfl, ite2 (fun c3 => ⟨_, rfl, _, _, rfl, rfl, _, rfl, ite2 (fun c4 => ?B1) (fun c4 => ?L1)⟩) (fun c3 => iteF ?L2)⟩
  case' S2 => refine ⟨_, rfl, _, _, rfl, rfl, _, rfl, ite2 (fun c3 => absurd c3 c1) (fun c3 => iteF ?L3)⟩
  case A =>
    have d0 : (0 : Int) < (d : Int) := of_decide_eq_true c1
    obtain ⟨e, rfl⟩ : ∃ e, d = e + 1 := ⟨d - 1, by omega⟩
    refine ⟨_, rfl, _, rfl, _, rfl, _, _, rfl, rfl, nl, ns, rest, e, ?_, by omega, by omega, N0, fun v y H1 S1 w1 o1 d1 => ?_⟩
    · show [V.int rest, V.ref nl, V.int (((e + 1 : Nat) : Int) - 1)] = _
      rw [show (((e + 1 : Nat) : Int) - 1) = (e : Int) by omega]
    · refine ⟨(by show 2 ≤ sizeLine; decide), fun t ht => ?_⟩
      have S2 := same_new ht (.tup [.str "not", v])
      exact q _ (.not y) _ (S1.trans S2) (.not upd_same (w1.same S2)) o1 (by show dep y + 1 ≤ e + 1; omega)
  case B1 =>
    have d0 : (0 : Int) < (d : Int) := of_decide_eq_true c1
    have w3 : way < 3 := of_decide_eq_true c4
    have w1 : way ≠ 0 := fun z => c2 (by rw [z]; rfl)
    obtain ⟨e, rfl⟩ : ∃ e, d = e + 1 := ⟨d - 1, by omega⟩
    have ed : (((e + 1 : Nat) : Int) - 1) = (e : Int) := by omega
    refine ⟨_, rfl, _, _, rfl, rfl, .inr ⟨by decide, by decide⟩, _, _, rfl, rfl, (by show (0 : Int) < 2147483587; decide), _, rfl, _, rfl, _, _, rfl, rfl, nl, ns, rest * 16807 % 2147483587, e, ?_, by omega, by omega, N0, fun v y H1 S1 w1 o1 d1 => ?_⟩
    · show [V.int (rest * 16807 % 2147483587), V.ref nl, V.int (((e + 1 : Nat) : Int) - 1)] = _
      rw [ed]
    refine ⟨(by show 2 ≤ sizeLine; decide), fun t2 ht2 => ?_⟩
    refine laid ht2 fun H2 S2 e2 => ?_
    obtain ⟨u, hu, hu2⟩ := pick_way (r := way - 1) (x := "both") (y := "any") (by omega) (by omega)
    refine ⟨_, rfl, _, _, rfl, rfl, t2, _, _, _, rfl, rfl, SqT.of e2, hu, ?_⟩
    refine ⟨_, rfl, _, rfl, _, rfl, _, _, rfl, rfl, nl, ns, rest, e, ?_, by omega, by omega, N0.same (S1.trans S2), fun v' y' H3 S3 w3 o3 d3 => ?_⟩
    · show [V.int rest, V.ref nl, V.int (((e + 1 : Nat) : Int) - 1)] = _
      rw [ed]
    refine ⟨_, rfl, (by show 3 ≤ sizeLine; decide), fun t ht => ?_⟩
    have S4 := same_new ht (.tup [.str u, v', v])
    have Sa := S1.trans (S2.trans (S3.trans S4))
    have wa := w1.same (S2.trans (S3.trans S4))
    have wb := w3.same S4
    rcases hu2 with rfl | rfl
    · exact q _ (.both y' y) _ Sa (.both upd_same wb wa) ⟨o3, o1⟩ (by show max (dep y') (dep y) + 1 ≤ e + 1; omega)
    · exact q _ (.any y' y) _ Sa (.any upd_same wb wa) ⟨o3, o1⟩ (by show max (dep y') (dep y) + 1 ≤ e + 1; omega)
  all_goals
    refine ⟨_, rfl, _, _, rfl, rfl, _, rfl, ite2 (fun c6 => ?_) (fun c6 => ?_)⟩
    · have r3 := mod_lo rest (m := 3) (by decide)
      obtain ⟨u, hu, hm⟩ := at_text (ss := ns) r3.1 (by rw [N0.len]; exact r3.2)
      refine ⟨_, rfl, _, rfl, _, _, rfl, rfl, (by show (0 : Int) < 3; decide), nl, _, _, _, rfl, rfl, SqL.of N0.at_, hu, (by show 2 ≤ sizeLine; decide), fun t ht => ?_⟩
      exact q _ (.mark u) _ (same_new ht _) (.mark upd_same) (N0.ok u hm) (Nat.zero_le _)
    have w6 : ¬ way < 6 := fun z => c6 (decide_eq_true z)
    refine ⟨_, rfl, _, _, rfl, rfl, _, rfl, ite2 (fun c8 => ?_) (fun c8 => ?_)⟩
    · refine ⟨_, rfl, _, _, rfl, rfl, (by show (0 : Int) < 5; decide), _, rfl, _, _, rfl, rfl, (by show (0 : Int) < 1000; decide), (by show 2 ≤ sizeLine; decide), fun t1 ht1 => ?_⟩
      refine laid ht1 fun H1 S1 e1 => ?_
      have h9 := half_lo (rest / 5)
      have r5 := mod_lo rest (m := 5) (by decide)
      obtain ⟨i, hi, hi2⟩ := pick_n h9.1 h9.2 (x := rest % 5) (y := rest % 1000) ⟨r5.1, by omega⟩ (mod_lo rest (by decide))
      refine ⟨_, rfl, _, _, rfl, rfl, ⟨by decide, by decide⟩, _, _, rfl, rfl, (by show (0 : Int) < 9; decide), _, _, rfl, rfl, ⟨by decide, by decide⟩, t1, _, _, _, rfl, rfl, SqT.of e1, hi, (by show 2 ≤ sizeLine; decide), fun t ht => ?_⟩
      exact q _ (.force i) _ (S1.trans (same_new ht _)) (.force upd_same) hi2 (Nat.zero_le _)
    have w8 : ¬ way < 8 := fun z => c8 (decide_eq_true z)
    refine ⟨(by show 1 ≤ sizeLine; decide), fun t1 ht1 => ?_⟩
    refine laid ht1 fun H1 S1 e1 => ?_
    refine ⟨(by show 1 ≤ sizeLine; decide), fun t2 ht2 => ?_⟩
    refine laid ht2 fun H2 S2 e2 => ?_
    refine ⟨(by show 1 ≤ sizeLine; decide), fun t3 ht3 => ?_⟩
    refine laid ht3 fun H3 S3 e3 => ?_
    refine ⟨(by show 3 ≤ sizeLine; decide), fun t4 ht4 => ?_⟩
    refine laid ht4 fun H4 S4 e4 => ?_
    have Sa := S1.trans (S2.trans (S3.trans S4))
    obtain ⟨v, hv, hm⟩ := at_get (xs := [V.ref t1, V.ref t2, V.ref t3]) (i := way - 8) (by omega) (by show way - 8 < 3; omega)
    refine ⟨_, rfl, _, _, rfl, rfl, t4, _, _, _, rfl, rfl, SqT.of e4, hv, ?_⟩
    simp only [List.mem_cons, List.not_mem_nil, or_false] at hm
    rcases hm with rfl | rfl | rfl
    · exact q _ .mine H4 Sa (.mine ((S2.trans (S3.trans S4)) _ _ e1)) trivial (Nat.zero_le _)
    · exact q _ .self H4 Sa (.self ((S3.trans S4) _ _ e2)) trivial (Nat.zero_le _)
    · exact q _ .all H4 Sa (.all (S4 _ _ e3)) trivial (Nat.zero_le _)
theorem whom_none (T : Tx K mg) : FnOk P w K mg base CX0 2 T.f__law_whom T.d__law_whom P__law_whom (spWhom8 0) := by
  have no : ∀ vs H Q E, ¬ spWhom8 0 vs H Q E := fun vs H Q E h => by
    obtain ⟨nl, ns, c, d, _, hd, _⟩ := h
    omega
  exact ⟨fun vs H Q E h => absurd h (no vs H Q E), fun A outer s H args us vs Q E _ _ _ _ h => absurd h (no vs H Q E)⟩
theorem whom_all (T : Tx K mg) : ∀ n : Nat, FnOk P w K mg base CX0 (n + 2) T.f__law_whom T.d__law_whom P__law_whom (spWhom8 n)
  | 0 => whom_none T
  | n + 1 => whom_step T (whom_all T n)
end
theorem kit_st (K : PySem.W.Frag) : PySem.W.kitOne K (.type "str") (.type "tuple") = some false := by kernel_rfl
theorem kit_it (K : PySem.W.Frag) : PySem.W.kitOne K (.type "int") (.type "tuple") = some false := by kernel_rfl
theorem any_str {x : V} {u : Str} (hv : (x = .str u) ∨ ∃ i : Nat, i < 1000 ∧ x = .int i ∧ u = (toString (i : Int) : Str)) (H0 : Hp) (Q' : VK) (z : Q' (.str u) H0) : rStrAny [x] H0 Q' := by
  unfold rStrAny
  rcases hv with e | ⟨i, hi, e, rfl⟩
  · exact .inl ⟨u, by rw [e], z⟩
  · exact .inr ⟨i, by rw [e], (by rw [Int.natAbs_natCast]; exact log_small i hi), z⟩
theorem whT_len {y : Wh} (h : y.ok) (d : dep y ≤ 2) : (whT y).length ≤ 200 := txt_len h (plain_dep h d).2
inductive PT (n : Nat) (H : Hp) : V → Str → Prop where
  | w {x : V} {y : Wh} : WT H x y → y.ok → dep y < n → dep y ≤ 2 → PT n H x (whT y)
  | s {u : Str} : NameOk u → PT n H (.str u) u
  | i {i : Nat} : i < 1000 → PT n H (.int (i : Int)) (toString (i : Int) : Str)
theorem PT.len {n : Nat} {H : Hp} {x : V} {u : Str} (h : PT n H x u) : u.length ≤ 200 := by
  cases h with
  | w _ o _ d => exact whT_len o d
  | s o => exact Nat.le_trans o.2.1 (by decide)
  | i hi => exact Nat.le_trans (num_word hi).2.2 (by decide)
inductive PTs (n : Nat) (H : Hp) : List V → List Str → Prop where
  | nil : PTs n H [] []
  | cons {x : V} {u : Str} {xs : List V} {us : List Str} : PT n H x u → PTs n H xs us → PTs n H (x :: xs) (u :: us)
theorem PTs.get {n : Nat} {H : Hp} : ∀ {xs : List V} {us : List Str} {i : Nat} {x : V}, PTs n H xs us → xs[i]? = some x → ∃ u, us[i]? = some u ∧ PT n H x u
  | _, _, _, _, .nil, e => by simp at e
  | _, _, 0, _, .cons h t, e => by
    rw [List.getElem?_cons_zero] at e
    cases e
    exact ⟨_, rfl, h⟩
  | _, _, i + 1, _, .cons h t, e => by
    rw [List.getElem?_cons_succ] at e
    obtain ⟨u, h1, h2⟩ := t.get e
    exact ⟨u, by rw [List.getElem?_cons_succ]; exact h1, h2⟩
theorem PTs.len {n : Nat} {H : Hp} : ∀ {xs : List V} {us : List Str}, PTs n H xs us → xs.length = us.length
  | _, _, .nil => rfl
  | _, _, .cons _ t => by rw [List.length_cons, List.length_cons, t.len]
def glue (w : Str) (us : List Str) : Str := us.foldl (fun a u => a ++ " " ++ u) w
theorem glue_snoc (w : Str) (us : List Str) (u : Str) : glue w (us ++ [u]) = glue w us ++ " " ++ u := by
  unfold glue
  rw [List.foldl_append]
  rfl
theorem PT.same {n : Nat} {H H' : Hp} (s : Same H H') {x : V} {u : Str} (h : PT n H x u) : PT n H' x u := by
  cases h with
  | w a b c d => exact .w (a.same s) b c d
  | s a => exact .s a
  | i a => exact .i a
theorem words_ne (y : Wh) : y.words ≠ [] := y.words_ne
theorem WT.open {n : Nat} {H : Hp} {v : V} {y : Wh} (h : WT H v y) (ok : y.ok) (hn : dep y < n + 1) (h2 : dep y ≤ 2) : ∃ a xs us, v = .ref a ∧ H a = some (.tup (.str y.word :: xs)) ∧ xs.length ≤ 2 ∧ PTs n H xs us ∧ glue y.word us = whT y := by
  cases h with
  | all h => exact ⟨_, [], [], rfl, h, by simp, .nil, rfl⟩
  | self h => exact ⟨_, [], [], rfl, h, by simp, .nil, rfl⟩
  | mine h => exact ⟨_, [], [], rfl, h, by simp, .nil, rfl⟩
  | mark h => exact ⟨_, _, _, rfl, h, by simp, .cons (.s ok) .nil, rfl⟩
  | force h => exact ⟨_, _, _, rfl, h, by simp, .cons (.i ok) .nil, rfl⟩
  | @not a x y h t =>
    have m1 : dep y + 1 < n + 1 := hn
    have m2 : dep y + 1 ≤ 2 := h2
    refine ⟨_, _, _, rfl, h, by simp, .cons (.w t ok (by omega) (by omega)) .nil, ?_⟩
    show ("not" : Str) ++ " " ++ Str.join " " y.words = Str.join " " ("not" :: y.words)
    rw [join_cons " " "not" (words_ne y)]
  | @both a x x' y y' h t t' =>
    have m1 : max (dep y) (dep y') + 1 < n + 1 := hn
    have m2 : max (dep y) (dep y') + 1 ≤ 2 := h2
    refine ⟨_, _, _, rfl, h, by simp, .cons (.w t ok.1 (by omega) (by omega)) (.cons (.w t' ok.2 (by omega) (by omega)) .nil), ?_⟩
    show ("both" : Str) ++ " " ++ Str.join " " y.words ++ " " ++ Str.join " " y'.words = Str.join " " ("both" :: (y.words ++ y'.words))
    rw [← join_cons " " "both" (words_ne y), ← join_app " " (List.cons_ne_nil _ _) (words_ne y')]
    rfl
  | @any a x x' y y' h t t' =>
    have m1 : max (dep y) (dep y') + 1 < n + 1 := hn
    have m2 : max (dep y) (dep y') + 1 ≤ 2 := h2
    refine ⟨_, _, _, rfl, h, by simp, .cons (.w t ok.1 (by omega) (by omega)) (.cons (.w t' ok.2 (by omega) (by omega)) .nil), ?_⟩
    show ("any" : Str) ++ " " ++ Str.join " " y.words ++ " " ++ Str.join " " y'.words = Str.join " " ("any" :: (y.words ++ y'.words))
    rw [← join_cons " " "any" (words_ne y), ← join_app " " (List.cons_ne_nil _ _) (words_ne y')]
    rfl
def spWords8 (n : Nat) : Sp := fun vs H Q _ => ∃ (v : V) (y : Wh), vs = [v] ∧ WT H v y ∧ y.ok ∧ dep y < n ∧ dep y ≤ 2 ∧ ∀ H', Same H H' → Q (.str (whT y)) H'
theorem glue_len {n : Nat} {H : Hp} {w : Str} : ∀ {xs : List V} {us : List Str} (i : Nat), PTs n H xs us → w.length ≤ 8 → (glue w (us.take i)).length ≤ 8 + 201 * i := by
  intro xs us i h hw
  induction i with
  | zero => exact hw
  | succ i ih =>
    rw [List.take_add_one]
    cases e : us[i]? with
    | none => rw [Option.toList_none, List.append_nil]; omega
    | some u =>
      rw [Option.toList_some, glue_snoc, len_app, len_app]
      obtain ⟨x, ex⟩ : ∃ x, xs[i]? = some x := by
        have hl : i < us.length := (List.getElem?_eq_some_iff.mp e).1
        exact ⟨xs[i]'(by rw [h.len]; exact hl), List.getElem?_eq_getElem _⟩
      obtain ⟨u', e', p⟩ := h.get ex
      rw [e] at e'
      cases e'
      have := p.len
      have e1 : (" " : Str).length = 1 := rfl
      omega
section
variable {P : Program} {w : World} {K : PySem.W.Frag} {mg : Str → Option Value} {base : Heap}
set_option maxHeartbeats 4000000 in
theorem words_step (T : Tx K mg) {n : Nat} (G__law_words : FnOk P w K mg base CX0 (n + 2) T.f__law_words T.d__law_words P__law_words (spWords8 n)) : FnOk P w K mg base CX0 (n + 3) T.f__law_words T.d__law_words P__law_words (spWords8 (n + 1)) := by
  refine T.F__law_words.ok sc__law_words (fun vs H Q E h => ?_) (fun cdv A outer s H vs Q E hr h => ?_)
  · obtain ⟨v, y, rfl, _⟩ := h
    rfl
  obtain ⟨v, y, rfl, wt, ok, hn, h2, q⟩ := h
  obtain ⟨a, xs, us, rfl, ea, hl, ps, eg⟩ := wt.open (n := n) ok hn h2
  refine ⟨_,   (pss_cons (ps_set (i := 1) sc__law_words.nd rfl (Or.inl rfl) (pe_ix ix_tup (pv 0) pe_int (fun _ _ => rfl)))
    (pss_cons (ps_for PassesOwn.never rfl (pi_tup (pe_slice sl_tup (pv 0) (po_some pe_int) po_none)) (pg_name (i := 2) sc__law_words.nd rfl (Or.inl rfl))
      (pss_one (ps_if (pt_val (pe_callB call_isinst rfl T.z_isinstance boot_isinstance (pa_cons (pv 2) (pa_cons (pe_bltn (v := .ty "tuple") rfl T.z_tuple boot_tuple rfl) pa_nil))))
        (pss_one (ps_set (i := 1) sc__law_words.nd rfl (Or.inl rfl) (pe_op op_add_str (pe_op op_add_str (pv 1) pe_str) (pe_call G__law_words hr rfl T.m__law_words T.F__law_words.kp (b__law_words T) .nil pass0 (pa_cons (pv 2) pa_nil)))))
        (pss_one (ps_set (i := 1) sc__law_words.nd rfl (Or.inl rfl) (pe_op op_add_str (pe_op op_add_str (pv 1) pe_str) (pe_callTy call_str_any rfl T.z_str boot_str (pa_cons (pv 2) pa_nil))))))))
    (pss_one (ps_ret (pv 1))))), ?_⟩
  refine ⟨_, rfl, a, _, _, _, rfl, rfl, SqT.of ea, atI_nat (j := 0) rfl, ?_⟩
  refine ⟨_, rfl, _, rfl, a, _, rfl, SqT.of ea, ?_, fun b hb => ?_⟩
  · rintro ⟨z, _⟩
    rw [show (1 : Int) = ((1 : Nat) : Int) from rfl, HT.sIx_nat, List.length_cons] at z
    omega
  have ec : cutV (V.str y.word :: xs) (some 1) none = xs := by
    rw [show (1 : Int) = ((1 : Nat) : Int) from rfl, cutV_drop]
    rfl
  rw [ec]
  refine laid hb fun H1 S1 eb => ?_
  refine ⟨b, rfl, ⟨_, SqT.of eb⟩, ?_⟩
  have wl : y.word.length ≤ 8 := (y.word_ok).2.2
  refine for_tup (xs := xs) (fun i σ H' => ∃ o, σ = [some (.ref a), some (.str (glue y.word (us.take i))), o] ∧ Same H1 H') ⟨_, rfl, Same.refl _⟩ ?_ ?_ ?_
  · rintro i σ H' _ ⟨o, rfl, S⟩
    exact SqT.of (S _ _ eb)
  · rintro i x σ H' hx ⟨o, rfl, S⟩
    obtain ⟨u, eu, pu⟩ := ps.get hx
    have gl := glue_len (w := y.word) i ps wl
    have ul := pu.len
    have i2 : i < xs.length := (List.getElem?_eq_some_iff.mp hx).1
    have e1 : (" " : Str).length = 1 := rfl
    have eg2 : glue y.word (us.take (i + 1)) = glue y.word (us.take i) ++ " " ++ u := by
      rw [List.take_add_one, eu, Option.toList_some, glue_snoc]
    have z1 : (glue y.word (us.take i)).length + (" " : Str).length ≤ sizeLine := small (by omega)
    have z2 : (glue y.word (us.take i) ++ " ").length + u.length ≤ sizeLine := by
      rw [len_app]
      exact small (by omega)
    cases pu.same (S1.trans S) with
    | @w x y' wt' ok' dn d2 =>
      obtain ⟨a', xs', rfl, ea'⟩ := wt'.tup
      refine ⟨_, rfl, _, _, _, true, rfl, TyOf.tup ea', .inl ⟨"tuple", rfl, rfl⟩, _, rfl, iteT ?_⟩
      refine ⟨_, rfl, _, _, rfl, rfl, z1, _, rfl, _, y', rfl, wt', ok', dn, d2, fun H2 S2 => ⟨_, _, rfl, rfl, z2, ?_⟩⟩
      exact ⟨_, by rw [eg2]; rfl, S.trans S2⟩
    | s _ =>
      refine ⟨_, rfl, _, _, _, false, rfl, TyOf.str _, .inl ⟨"tuple", rfl, kit_st _⟩, _, rfl, iteF ?_⟩
      refine ⟨_, rfl, _, _, rfl, rfl, z1, _, rfl, any_str (.inl rfl) _ _ ⟨_, _, rfl, rfl, z2, ?_⟩⟩
      exact ⟨_, by rw [eg2]; rfl, S⟩
    | i hi =>
      refine ⟨_, rfl, _, _, _, false, rfl, TyOf.int _, .inl ⟨"tuple", rfl, kit_it _⟩, _, rfl, iteF ?_⟩
      refine ⟨_, rfl, _, _, rfl, rfl, z1, _, rfl, any_str (.inr ⟨_, hi, rfl, rfl⟩) _ _ ⟨_, _, rfl, rfl, z2, ?_⟩⟩
      exact ⟨_, by rw [eg2]; rfl, S⟩
  · rintro σ H' ⟨o, rfl, S⟩
    refine ⟨_, rfl, ?_⟩
    rw [List.take_of_length_le (by rw [ps.len]; exact Nat.le_refl _), eg]
    exact q H' (S1.trans S)
theorem words_none (T : Tx K mg) : FnOk P w K mg base CX0 2 T.f__law_words T.d__law_words P__law_words (spWords8 0) := by
  have no : ∀ vs H Q E, ¬ spWords8 0 vs H Q E := fun vs H Q E h => by
    obtain ⟨v, y, _, _, _, hd, _⟩ := h
    omega
  exact ⟨fun vs H Q E h => absurd h (no vs H Q E), fun A outer s H args us vs Q E _ _ _ _ h => absurd h (no vs H Q E)⟩
theorem words_all (T : Tx K mg) : ∀ n : Nat, FnOk P w K mg base CX0 (n + 2) T.f__law_words T.d__law_words P__law_words (spWords8 n)
  | 0 => words_none T
  | n + 1 => words_step T (words_all T n)
end
theorem str_assoc (a b c : Str) : a ++ b ++ c = a ++ (b ++ c) := by
  show (⟨(a.cps ++ b.cps) ++ c.cps⟩ : Str) = ⟨a.cps ++ (b.cps ++ c.cps)⟩
  rw [Array.append_assoc]
theorem WT.put {H H' : Hp} (s : ∀ a xs, H a = some (.tup xs) → H' a = some (.tup xs)) : ∀ {v : V} {y : Wh}, WT H v y → WT H' v y
  | _, _, .all h => .all (s _ _ h)
  | _, _, .self h => .self (s _ _ h)
  | _, _, .mine h => .mine (s _ _ h)
  | _, _, .mark h => .mark (s _ _ h)
  | _, _, .force h => .force (s _ _ h)
  | _, _, .not h t => .not (s _ _ h) (t.put s)
  | _, _, .both h t u => .both (s _ _ h) (t.put s) (u.put s)
  | _, _, .any h t u => .any (s _ _ h) (t.put s) (u.put s)
def HvT (H : Hp) (v : V) : Hv → Prop
  | .v .non => v = .non
  | .v (.name n) => v = .str n
  | .v (.num i) => v = .int (i : Int)
  | .w y => WT H v y ∧ dep y ≤ 2
theorem HvT.same {H H' : Hp} (s : Same H H') {v : V} : ∀ {h : Hv}, HvT H v h → HvT H' v h
  | .v .non, h => h
  | .v (.name _), h => h
  | .v (.num _), h => h
  | .w _, h => ⟨h.1.same s, h.2⟩
def RT (H : Hp) (v : V) (r : Rule) : Prop := ∃ (a : Addr) (w : Str) (x u : V) (h : Hv) (y : Wh), v = .ref a ∧ r = .hold w h y ∧ H a = some (.tup [.str w, x, u]) ∧ HvT H x h ∧ HoldOk w h ∧ WT H u y ∧ y.ok ∧ dep y ≤ 2
theorem RT.same {H H' : Hp} (s : Same H H') {v : V} {r : Rule} (h : RT H v r) : RT H' v r := by
  obtain ⟨a, w, x, u, hv, y, rfl, rfl, e, h1, h2, h3, h4, h5⟩ := h
  exact ⟨a, w, x, u, hv, y, rfl, rfl, s _ _ e, h1.same s, h2, h3.same s, h4, h5⟩
theorem RT.ok {H : Hp} {v : V} {r : Rule} (h : RT H v r) : r.ok := by
  obtain ⟨a, w, x, u, hv, y, rfl, rfl, e, h1, h2, h3, h4, h5⟩ := h
  exact ⟨h2, plain_dep h4 h5⟩
inductive RTs (H : Hp) : List V → List Rule → Prop where
  | nil : RTs H [] []
  | cons {v : V} {r : Rule} {vs : List V} {rs : List Rule} : RT H v r → RTs H vs rs → RTs H (v :: vs) (r :: rs)
theorem RTs.same {H H' : Hp} (s : Same H H') : ∀ {vs : List V} {rs : List Rule}, RTs H vs rs → RTs H' vs rs
  | _, _, .nil => .nil
  | _, _, .cons h t => .cons (h.same s) (t.same s)
theorem RTs.snoc {H : Hp} {v : V} {r : Rule} (h : RT H v r) : ∀ {vs : List V} {rs : List Rule}, RTs H vs rs → RTs H (vs ++ [v]) (rs ++ [r])
  | _, _, .nil => .cons h .nil
  | _, _, .cons g t => .cons g (t.snoc h)
theorem RTs.get {H : Hp} : ∀ {vs : List V} {rs : List Rule} {i : Nat} {v : V}, RTs H vs rs → vs[i]? = some v → ∃ r, rs[i]? = some r ∧ RT H v r
  | _, _, _, _, .nil, e => by simp at e
  | _, _, 0, _, .cons h t, e => by
    rw [List.getElem?_cons_zero] at e
    cases e
    exact ⟨_, rfl, h⟩
  | _, _, i + 1, _, .cons h t, e => by
    rw [List.getElem?_cons_succ] at e
    obtain ⟨u, h1, h2⟩ := t.get e
    exact ⟨u, by rw [List.getElem?_cons_succ]; exact h1, h2⟩
theorem RTs.len {H : Hp} : ∀ {xs : List V} {us : List Rule}, RTs H xs us → xs.length = us.length
  | _, _, .nil => rfl
  | _, _, .cons _ t => by rw [List.length_cons, List.length_cons, t.len]
theorem RTs.ok {H : Hp} : ∀ {xs : List V} {us : List Rule}, RTs H xs us → ∀ r ∈ us, r.ok
  | _, _, .nil, r, h => by cases h
  | _, _, .cons a t, r, h => by
    rcases List.mem_cons.mp h with rfl | h
    · exact a.ok
    · exact t.ok r h
theorem RTs.map {H H' : Hp} (f : ∀ {x : V} {y : Rule}, RT H x y → RT H' x y) : ∀ {vs : List V} {rs : List Rule}, RTs H vs rs → RTs H' vs rs
  | _, _, .nil => .nil
  | _, _, .cons h t => .cons (f h) (t.map f)
def spHold8 : Sp := fun vs H Q _ => ∃ (nl : Addr) (ns : List Str) (c : Int) (k : Nat), vs = [.int c, .ref nl, .int (k : Int)] ∧ k < 5 ∧ N3 H nl ns ∧ ∀ (v : V) (r : Rule) (H' : Hp), Same H H' → RT H' v r → Q v H'
def spRText : Sp := fun vs H Q _ => ∃ (v : V) (r : Rule), vs = [v] ∧ RT H v r ∧ ∀ H', Same H H' → Q (.str (ruleT r)) H'
def spRules8 : Sp := fun vs H Q _ => ∃ (nl : Addr) (ns : List Str) (c m : Int) (k : Nat), vs = [.int c, .ref nl, .int m, .int (k : Int)] ∧ k < 5 ∧ m ≤ 3 ∧ -100 ≤ m ∧ N3 H nl ns ∧ ∀ (l : Addr) (us : List V) (rs : List Rule) (H' : Hp), Same H H' → H l = none → H' l = some (.lst us) → RTs H' us rs → (rs.length : Int) ≤ max 0 m → Q (.ref l) H'
theorem pick3s {r : Int} {x y z : Str} (h0 : 0 ≤ r) (h1 : r < 3) : ∃ u : Str, atI [V.str x, V.str y, V.str z] r = some (.str u) ∧ (u = x ∨ u = y ∨ u = z) := by
  obtain ⟨v, hv, hm⟩ := at_get (xs := [V.str x, V.str y, V.str z]) h0 h1
  simp only [List.mem_cons, List.not_mem_nil, or_false] at hm
  rcases hm with e | e | e <;> subst e
  · exact ⟨_, hv, .inl rfl⟩
  · exact ⟨_, hv, .inr (.inl rfl)⟩
  · exact ⟨_, hv, .inr (.inr rfl)⟩
theorem hold_text (w : Str) (h : Hv) (y : Wh) : ("hold " : Str) ++ w ++ " " ++ Str.join " " (h.words ++ y.words) = ruleT (.hold w h y) := by
  show _ = Str.join " " ("hold" :: w :: (h.words ++ y.words))
  have ne : h.words ++ y.words ≠ [] := fun z => words_ne y (List.append_eq_nil_iff.mp z).2
  have e1 : (("hold" : Str) :: w :: (h.words ++ y.words)) = (["hold", w] : List Str) ++ (h.words ++ y.words) := rfl
  rw [e1, join_app " " (List.cons_ne_nil _ _) ne]
  rfl
section
variable {P : Program} {w : World} {K : PySem.W.Frag} {mg : Str → Option Value} {base : Heap}
set_option maxHeartbeats 4000000 in
theorem ok__law_hold (T : Tx K mg) : FnOk P w K mg base CX0 6 T.f__law_hold T.d__law_hold P__law_hold spHold8 := by
  have G__law_whom := whom_all (P := P) (w := w) (base := base) T 3
  refine T.F__law_hold.ok sc__law_hold (fun vs H Q E h => ?_) (fun cdv A outer s H vs Q E hr h => ?_)
  · obtain ⟨nl, ns, c, k, rfl, _⟩ := h
    rfl
  obtain ⟨nl, ns, c, k, rfl, hk, N0, q⟩ := h
  refine ⟨_,   (pss_cons (ps_set (i := 3) sc__law_hold.nd rfl (Or.inl rfl) (pe_ix ix_tup (pe_tup (pa_cons (pe_op op_mod (pv 0) pe_int) (pa_cons (pe_op op_add pe_int (pe_op op_mod (pv 0) pe_int)) (pa_cons (pe_op op_add pe_int (pe_op op_mod (pv 0) pe_int)) (pa_cons (pe_op op_mod (pv 0) pe_int) (pa_cons (pe_op op_mod (pv 0) pe_int) pa_nil)))))) (pv 2) (fun _ _ => rfl)))
    (pss_cons (ps_set (i := 4) sc__law_hold.nd rfl (Or.inl rfl) (pe_ix ix_tup (pe_tup (pa_cons (pe_op op_mod (pe_op op_fdiv (pv 0) pe_int) pe_int) (pa_cons (pe_op op_mod (pe_op op_fdiv (pv 0) pe_int) pe_int) pa_nil))) (pe_op op_fdiv (pe_op op_mod (pe_op op_fdiv (pv 0) pe_int) pe_int) pe_int) (fun _ _ => rfl)))
    (pss_cons (ps_set (i := 5) sc__law_hold.nd rfl (Or.inl rfl) (pe_call G__law_whom hr rfl T.m__law_whom T.F__law_whom.kp (b__law_whom T) .nil pass0 (pa_cons (pe_op op_mod (pe_op op_mul (pe_op op_fdiv (pv 0) pe_int) pe_int) pe_int) (pa_cons (pv 1) (pa_cons pe_int pa_nil)))))
    (pss_cons (ps_if (pt_cmpR op_lt (pv 3) pe_int (nomark _))
      (pss_one (ps_ret (pe_tup (pa_cons (pe_ix ix_tup (pe_tup (pa_cons pe_str (pa_cons pe_str pa_nil))) (pv 3) (fun _ _ => rfl)) (pa_cons pe_non (pa_cons (pv 5) pa_nil))))))
      pss_nil)
    (pss_cons (ps_if (pt_cmpR op_lt (pv 3) pe_int (nomark _))
      (pss_one (ps_ret (pe_tup (pa_cons (pe_ix ix_tup (pe_tup (pa_cons pe_str (pa_cons pe_str (pa_cons pe_str pa_nil)))) (pe_op op_sub (pv 3) pe_int) (fun _ _ => rfl)) (pa_cons (pe_ix ix_list (pv 1) (pe_op op_mod (pe_op op_fdiv (pv 0) pe_int) pe_int) (fun _ _ => rfl)) (pa_cons (pv 5) pa_nil))))))
      pss_nil)
    (pss_cons (ps_if (pt_cmpR op_lt (pv 3) pe_int (nomark _))
      (pss_one (ps_ret (pe_tup (pa_cons (pe_ix ix_tup (pe_tup (pa_cons pe_str (pa_cons pe_str (pa_cons pe_str pa_nil)))) (pe_op op_sub (pv 3) pe_int) (fun _ _ => rfl)) (pa_cons (pv 4) (pa_cons (pv 5) pa_nil))))))
      pss_nil)
    (pss_one (ps_ret (pe_tup (pa_cons pe_str (pa_cons (pe_call G__law_whom hr rfl T.m__law_whom T.F__law_whom.kp (b__law_whom T) .nil pass0 (pa_cons (pe_op op_fdiv (pv 0) pe_int) (pa_cons (pv 1) (pa_cons pe_int pa_nil)))) (pa_cons (pv 5) pa_nil)))))))))))), ?_⟩
  have p9 := mod_lo c (m := 9) (by decide)
  have p3 := mod_lo c (m := 3) (by decide)
  have p2 := mod_lo c (m := 2) (by decide)
  refine ⟨_, rfl, _, _, rfl, rfl, (by show (0 : Int) < 9; decide), _, rfl, _, _, rfl, rfl, (by show (0 : Int) < 3; decide), _, _, rfl, rfl, _, rfl, _, _, rfl, rfl, (by show (0 : Int) < 3; decide), _, _, rfl, rfl, _, rfl, _, _, rfl, rfl, (by show (0 : Int) < 2; decide), _, rfl, _, _, rfl, rfl, (by show (0 : Int) < 9; decide), (by show 5 ≤ sizeLine; decide), fun t1 ht1 => ?_⟩
  refine laid ht1 fun H1 S1 e1 => ?_
  obtain ⟨way, hway, w0, w9⟩ : ∃ way : Int, atI [V.int (c % 9), V.int (2 + c % 3), V.int (6 + c % 3), V.int (c % 2), V.int (c % 9)] (k : Int) = some (.int way) ∧ 0 ≤ way ∧ way < 9 := by
    obtain ⟨v, hv, hm⟩ := at_get (xs := [V.int (c % 9), V.int (2 + c % 3), V.int (6 + c % 3), V.int (c % 2), V.int (c % 9)]) (i := (k : Int)) (by omega) (by show (k : Int) < 5; omega)
    simp only [List.mem_cons, List.not_mem_nil, or_false] at hm
    rcases hm with e | e | e | e | e <;> subst e <;> exact ⟨_, hv, by omega, by omega⟩
  refine ⟨_, rfl, t1, _, _, _, rfl, rfl, SqT.of e1, hway, ?_⟩
  refine ⟨_, rfl, _, _, rfl, rfl, ⟨by decide, by decide⟩, _, _, rfl, rfl, (by show (0 : Int) < 6; decide), _, rfl, _, _, rfl, rfl, ⟨by decide, by decide⟩, _, _, rfl, rfl, (by show (0 : Int) < 1000; decide), (by show 2 ≤ sizeLine; decide), fun t2 ht2 => ?_⟩
  refine laid ht2 fun H2 S2 e2 => ?_
  have h9 := half_lo (c / 54)
  have p6 := mod_lo (c / 9) (m := 6) (by decide)
  obtain ⟨i, hi, hi2⟩ := pick_n h9.1 h9.2 (x := c / 9 % 6) (y := c / 9 % 1000) ⟨p6.1, by omega⟩ (mod_lo (c / 9) (by decide))
  refine ⟨_, rfl, _, _, rfl, rfl, ⟨by decide, by decide⟩, _, _, rfl, rfl, (by show (0 : Int) < 9; decide), _, _, rfl, rfl, ⟨by decide, by decide⟩, t2, _, _, _, rfl, rfl, SqT.of e2, hi, ?_⟩
  have N2 := N0.same (S1.trans S2)
  refine ⟨_, rfl, _, _, rfl, rfl, ⟨by decide, by decide⟩, _, _, rfl, rfl, .inr ⟨by decide, by decide⟩, _, _, rfl, rfl, (by show (0 : Int) < 2147483629; decide), _, rfl, nl, ns, _, 2, rfl, by decide, by decide, N2, fun u y H3 S3 wu oy dy => ?_⟩
  have S03 := S1.trans (S2.trans S3)
  have N3' := N2.same S3
  clear e1 e2 S1 S2 ht1 ht2
  refine ⟨_, rfl, _, _, rfl, rfl, _, rfl, ite2 (fun c2 => ?_) (fun c2 => ?_)⟩
  · have w2 : way < 2 := of_decide_eq_true c2
    refine ⟨(by show 2 ≤ sizeLine; decide), fun t4 ht4 => ?_⟩
    refine laid ht4 fun H4 S4 e4 => ?_
    obtain ⟨wd, hwd, hc⟩ := pick_way (r := way) (x := "mute") (y := "steal") w0 w2
    refine ⟨_, rfl, t4, _, _, _, rfl, rfl, SqT.of e4, hwd, _, rfl, (by show 3 ≤ sizeLine; decide), fun t ht => ?_⟩
    have S5 := same_new ht (.tup [.str wd, .non, u])
    refine q _ (.hold wd (.v .non) y) _ (S03.trans (S4.trans S5)) ⟨t, wd, .non, u, .v .non, y, rfl, rfl, upd_same, rfl, ?_, wu.same (S4.trans S5), oy, dy⟩
    rcases hc with rfl | rfl
    · exact .mute
    · exact .steal
  have w2 : ¬ way < 2 := fun z => c2 (decide_eq_true z)
  refine ⟨_, rfl, _, _, rfl, rfl, _, rfl, ite2 (fun c5 => ?_) (fun c5 => ?_)⟩
  · have w5 : way < 5 := of_decide_eq_true c5
    refine ⟨(by show 3 ≤ sizeLine; decide), fun t4 ht4 => ?_⟩
    refine laid ht4 fun H4 S4 e4 => ?_
    obtain ⟨wd, hwd, hc⟩ := pick3s (r := way - 2) (x := "gain") (y := "lack") (z := "gain") (by omega) (by omega)
    refine ⟨_, rfl, _, _, rfl, rfl, t4, _, _, _, rfl, rfl, SqT.of e4, hwd, ?_⟩
    have r3 := mod_lo (c / 9) (m := 3) (by decide)
    obtain ⟨n, hn, hm⟩ := at_text (ss := ns) r3.1 (by rw [N0.len]; exact r3.2)
    refine ⟨_, rfl, _, rfl, _, _, rfl, rfl, ⟨by decide, by decide⟩, _, _, rfl, rfl, (by show (0 : Int) < 3; decide), nl, _, _, _, rfl, rfl, SqL.of (N3'.same S4).at_, hn, _, rfl, (by show 3 ≤ sizeLine; decide), fun t ht => ?_⟩
    have S5 := same_new ht (.tup [.str wd, .str n, u])
    refine q _ (.hold wd (.v (.name n)) y) _ (S03.trans (S4.trans S5)) ⟨t, wd, .str n, u, .v (.name n), y, rfl, rfl, upd_same, rfl, ?_, wu.same (S4.trans S5), oy, dy⟩
    have nok := N0.ok n hm
    rcases hc with rfl | rfl | rfl
    · exact .gain nok
    · exact .lack nok
    · exact .gain nok
  have w5 : ¬ way < 5 := fun z => c5 (decide_eq_true z)
  refine ⟨_, rfl, _, _, rfl, rfl, _, rfl, ite2 (fun c8 => ?_) (fun c8 => ?_)⟩
  · have w8 : way < 8 := of_decide_eq_true c8
    refine ⟨(by show 3 ≤ sizeLine; decide), fun t4 ht4 => ?_⟩
    refine laid ht4 fun H4 S4 e4 => ?_
    obtain ⟨wd, hwd, hc⟩ := pick3s (r := way - 5) (x := "be") (y := "more") (z := "less") (by omega) (by omega)
    refine ⟨_, rfl, _, _, rfl, rfl, t4, _, _, _, rfl, rfl, SqT.of e4, hwd, _, rfl, _, rfl, (by show 3 ≤ sizeLine; decide), fun t ht => ?_⟩
    have S5 := same_new ht (.tup [.str wd, .int (i : Int), u])
    refine q _ (.hold wd (.v (.num i)) y) _ (S03.trans (S4.trans S5)) ⟨t, wd, .int i, u, .v (.num i), y, rfl, rfl, upd_same, rfl, ?_, wu.same (S4.trans S5), oy, dy⟩
    rcases hc with rfl | rfl | rfl
    · exact .be hi2
    · exact .more hi2
    · exact .less hi2
  · refine ⟨_, rfl, _, _, rfl, rfl, ⟨by decide, by decide⟩, _, rfl, nl, ns, _, 1, rfl, by decide, by decide, N3', fun v z H4 S4 wv ov dv => ?_⟩
    refine ⟨_, rfl, (by show 3 ≤ sizeLine; decide), fun t ht => ?_⟩
    have S5 := same_new ht (.tup [.str "per", v, u])
    have pv := plain_dep ov (by omega)
    exact q _ (.hold "per" (.w z) y) _ (S03.trans (S4.trans S5)) ⟨t, "per", v, u, .w z, y, rfl, rfl, upd_same, ⟨wv.same S5, by omega⟩, .per pv, wu.same (S4.trans S5), oy, dy⟩
set_option maxHeartbeats 4000000 in
theorem ok__law_rule_text (T : Tx K mg) : FnOk P w K mg base CX0 6 T.f__law_rule_text T.d__law_rule_text P__law_rule_text spRText := by
  have G__law_words := words_all (P := P) (w := w) (base := base) T 3
  refine T.F__law_rule_text.ok sc__law_rule_text (fun vs H Q E h => ?_) (fun cdv A outer s H vs Q E hr h => ?_)
  · obtain ⟨v, r, rfl, _⟩ := h
    rfl
  obtain ⟨v, r, rfl, rt, q⟩ := h
  obtain ⟨a, wd, x, u, h, y, rfl, rfl, e, hx, hh, wu, oy, dy⟩ := rt
  refine ⟨_,   (pss_cons (ps_asg (pv 0) (pg_tup (n := 3) rfl (pgs_cons (pg_name (i := 1) sc__law_rule_text.nd rfl (Or.inl rfl)) (pgs_cons (pg_name (i := 2) sc__law_rule_text.nd rfl (Or.inl rfl)) (pgs_cons (pg_name (i := 3) sc__law_rule_text.nd rfl (Or.inl rfl)) pgs_nil)))))
    (pss_cons (ps_if (pt_cmpR op_isN (pv 2) pe_non (nomark _))
      (pss_one (ps_ret (pe_op op_add_str (pe_op op_add_str (pe_op op_add_str pe_str (pv 1)) pe_str) (pe_call G__law_words hr rfl T.m__law_words T.F__law_words.kp (b__law_words T) .nil pass0 (pa_cons (pv 3) pa_nil)))))
      pss_nil)
    (pss_cons (ps_if (pt_val (pe_callB call_isinst rfl T.z_isinstance boot_isinstance (pa_cons (pv 2) (pa_cons (pe_bltn (v := .ty "tuple") rfl T.z_tuple boot_tuple rfl) pa_nil))))
      (pss_one (ps_ret (pe_op op_add_str (pe_op op_add_str (pe_op op_add_str (pe_op op_add_str (pe_op op_add_str pe_str (pv 1)) pe_str) (pe_call G__law_words hr rfl T.m__law_words T.F__law_words.kp (b__law_words T) .nil pass0 (pa_cons (pv 2) pa_nil))) pe_str) (pe_call G__law_words hr rfl T.m__law_words T.F__law_words.kp (b__law_words T) .nil pass0 (pa_cons (pv 3) pa_nil)))))
      pss_nil)
    (pss_one (ps_ret (pe_op op_add_str (pe_op op_add_str (pe_op op_add_str (pe_op op_add_str (pe_op op_add_str pe_str (pv 1)) pe_str) (pe_callTy call_str_any rfl T.z_str boot_str (pa_cons (pv 2) pa_nil))) pe_str) (pe_call G__law_words hr rfl T.m__law_words T.F__law_words.kp (b__law_words T) .nil pass0 (pa_cons (pv 3) pa_nil)))))))), ?_⟩
  refine ⟨_, rfl, a, _, rfl, SqT.of e, rfl, _, _, rfl, _, _, rfl, _, _, rfl, rfl, ?_⟩
  have wl : wd.length ≤ 8 := (goods (l := changes) (by decide +kernel) hh.word).1.2.2
  have l5 : ("hold " : Str).length = 5 := by decide
  have l1 : (" " : Str).length = 1 := rfl
  have yl := whT_len oy dy
  have z1 : ("hold " : Str).length + wd.length ≤ sizeLine := small (by omega)
  have z2 : (("hold " : Str) ++ wd).length + (" " : Str).length ≤ sizeLine := by
    rw [len_app]
    exact small (by omega)
  have key : ∀ t : Str, t.length ≤ 300 → (("hold " : Str) ++ wd ++ " ").length + t.length ≤ sizeLine := fun t ht => by
    rw [len_app, len_app]
    exact small (by omega)
  have long : ∀ t : Str, t.length ≤ 300 → ((("hold " : Str) ++ wd ++ " ") ++ t).length + (" " : Str).length ≤ sizeLine ∧ (((("hold " : Str) ++ wd ++ " ") ++ t) ++ " ").length + (whT y).length ≤ sizeLine := fun t ht => by
    simp only [len_app]
    exact ⟨small (by omega), small (by omega)⟩
  have two : ∀ (ws : List Str), ws ≠ [] → h.words = ws → (("hold " : Str) ++ wd ++ " ") ++ Str.join " " ws ++ " " ++ whT y = ruleT (.hold wd h y) := fun ws hne hw => by
    rw [← hold_text, hw, join_app " " hne (words_ne y)]
    simp only [str_assoc]
    rfl
  cases h with
  | v z =>
    cases z with
    | non =>
      have ex : x = .non := hx
      subst ex
      refine ⟨_, rfl, rfl, _, rfl, iteT ?_⟩
      refine ⟨_, rfl, _, _, rfl, rfl, z1, _, _, rfl, rfl, z2, _, rfl, u, y, rfl, wu, oy, by omega, dy, fun H1 S1 => ⟨_, _, rfl, rfl, key _ (by omega), ?_⟩⟩
      have z := q H1 S1
      rw [← hold_text] at z
      exact z
    | name n =>
      have ex : x = .str n := hx
      subst ex
      have nl : n.length ≤ 8 := by
        cases hh with
        | gain h => exact h.2.1
        | lack h => exact h.2.1
      refine ⟨_, rfl, rfl, _, rfl, iteF ?_⟩
      refine ⟨_, rfl, _, _, _, false, rfl, TyOf.str _, .inl ⟨"tuple", rfl, kit_st _⟩, _, rfl, iteF ?_⟩
      obtain ⟨k1, k2⟩ := long n (by omega)
      refine ⟨_, rfl, _, _, rfl, rfl, z1, _, _, rfl, rfl, z2, _, rfl, any_str (.inl rfl) _ _ ⟨_, _, rfl, rfl, key n (by omega), _, _, rfl, rfl, k1, _, rfl, u, y, rfl, wu, oy, by omega, dy, fun H1 S1 => ⟨_, _, rfl, rfl, k2, ?_⟩⟩⟩
      have z := q H1 S1
      rw [← two [n] (List.cons_ne_nil _ _) rfl] at z
      exact z
    | num i =>
      have ex : x = .int (i : Int) := hx
      subst ex
      have hi : i < 1000 := by
        cases hh with
        | be h => exact h
        | more h => exact h
        | less h => exact h
      have nl : (toString (i : Int) : Str).length ≤ 8 := (num_word hi).2.2
      refine ⟨_, rfl, rfl, _, rfl, iteF ?_⟩
      refine ⟨_, rfl, _, _, _, false, rfl, TyOf.int _, .inl ⟨"tuple", rfl, kit_it _⟩, _, rfl, iteF ?_⟩
      obtain ⟨k1, k2⟩ := long (toString (i : Int) : Str) (by omega)
      refine ⟨_, rfl, _, _, rfl, rfl, z1, _, _, rfl, rfl, z2, _, rfl, any_str (.inr ⟨i, hi, rfl, rfl⟩) _ _ ⟨_, _, rfl, rfl, key _ (by omega), _, _, rfl, rfl, k1, _, rfl, u, y, rfl, wu, oy, by omega, dy, fun H1 S1 => ⟨_, _, rfl, rfl, k2, ?_⟩⟩⟩
      have z := q H1 S1
      rw [← two [(toString (i : Int) : Str)] (List.cons_ne_nil _ _) rfl] at z
      exact z
  | w z =>
    obtain ⟨wx, dx⟩ := (show WT H x z ∧ dep z ≤ 2 from hx)
    have oz : z.ok := by
      cases hh with
      | per h => exact h.1
    obtain ⟨b, xs, rfl, eb⟩ := wx.tup
    have zl := whT_len oz dx
    refine ⟨_, rfl, rfl, _, rfl, iteF ?_⟩
    refine ⟨_, rfl, _, _, _, true, rfl, TyOf.tup eb, .inl ⟨"tuple", rfl, rfl⟩, _, rfl, iteT ?_⟩
    obtain ⟨k1, k2⟩ := long (whT z) (by omega)
    refine ⟨_, rfl, _, _, rfl, rfl, z1, _, _, rfl, rfl, z2, _, rfl, _, z, rfl, wx, oz, by omega, dx, fun H1 S1 => ⟨_, _, rfl, rfl, key _ (by omega), _, _, rfl, rfl, k1, _, rfl, u, y, rfl, wu.same S1, oy, by omega, dy, fun H2 S2 => ⟨_, _, rfl, rfl, k2, ?_⟩⟩⟩
    have zz := q H2 (S1.trans S2)
    rw [← two z.words (words_ne z) rfl] at zz
    exact zz
set_option maxHeartbeats 4000000 in
theorem ok__law_rules (T : Tx K mg) : FnOk P w K mg base CX0 7 T.f__law_rules T.d__law_rules P__law_rules spRules8 := by
  have G__law_hold := ok__law_hold (P := P) (w := w) (base := base) T
  refine T.F__law_rules.ok sc__law_rules (fun vs H Q E h => ?_) (fun cdv A outer s H vs Q E hr h => ?_)
  · obtain ⟨nl, ns, c, m, k, rfl, _⟩ := h
    rfl
  obtain ⟨nl, ns, c, m, k, rfl, hk, hm, hm', N0, q⟩ := h
  refine ⟨_,   (pss_cons (ps_set (i := 4) sc__law_rules.nd rfl (Or.inl rfl) (pe_lst pa_nil))
    (pss_cons (ps_for PassesOwn.never rfl (pi_range1 rfl T.z_range (pa_cons (pe_callB (call_min2 rfl) rfl T.z_min boot_min (pa_cons (pv 2) (pa_cons (pe_op op_mod (pv 0) pe_int) pa_nil))) pa_nil)) (pg_name (i := 5) sc__law_rules.nd rfl (Or.inl rfl))
      (pss_cons (ps_set (i := 6) sc__law_rules.nd rfl (Or.inl rfl) (pe_op op_mod (pe_op op_mul (pe_op op_add (pe_op op_fdiv (pv 0) pe_int) pe_int) (pe_op op_add (pe_op op_mul (pv 5) (pv 5)) pe_int)) pe_int))
      (pss_one (ps_expr (pe_bm PySem.F.plainAttrs_list PySem.F.slot_list_append PySem.F.type_list_append mt_append (pv 4) (pa_cons (pe_call G__law_hold hr rfl T.m__law_hold T.F__law_hold.kp (b__law_hold T) .nil pass0 (pa_cons (pv 6) (pa_cons (pv 1) (pa_cons (pv 3) pa_nil)))) pa_nil))))))
    (pss_one (ps_ret (pv 4))))), ?_⟩
  refine ⟨(by show 0 ≤ sizeLine; decide), fun l hl => ?_⟩
  refine laid hl fun H1 S1 e1 => ?_
  have p4 := mod_lo c (m := 4) (by decide)
  refine ⟨_, rfl, _, rfl, _, _, rfl, rfl, (by show (0 : Int) < 4; decide), _, _, rfl, _, rfl, ?_, ?_, ?_⟩
  · split <;> omega
  · split <;> omega
  refine for_range (lo := 0) (n := (if c % 4 < m then c % 4 else m).toNat) (fun i σ H' => ∃ (us : List V) (rs : List Rule) (o5 o6 : Option V), σ = [some (.int c), some (.ref nl), some (.int m), some (.int (k : Int)), some (.ref l), o5, o6] ∧ H' l = some (.lst us) ∧ RTs H' us rs ∧ rs.length = i ∧ Same H H') ⟨[], [], _, _, rfl, e1, .nil, rfl, S1⟩ ?_ ?_
  · rintro i σ H' hi ⟨us, rs, o5, o6, rfl, f', ht, hlen, S'⟩
    have i3 : i < 3 := by
      revert hi
      split <;> intro hi <;> omega
    have ii : (0 : Int) ≤ (0 + (i : Int)) * (0 + (i : Int)) ∧ (0 + (i : Int)) * (0 + (i : Int)) ≤ 9 := by
      have : i = 0 ∨ i = 1 ∨ i = 2 := by omega
      rcases this with rfl | rfl | rfl <;> decide
    refine ⟨_, rfl, _, _, rfl, rfl, ⟨by decide, by decide⟩, _, _, rfl, rfl, _, rfl, _, rfl, _, _, rfl, rfl, .inl ⟨by omega, by omega⟩, _, _, rfl, rfl, _, _, rfl, rfl, .inr ⟨by omega, by omega⟩, _, _, rfl, rfl, (by show (0 : Int) < 2147483563; decide), ?_⟩
    refine ⟨_, rfl, .inl ⟨rfl, _, SqL.of f'⟩, _, rfl, _, rfl, _, rfl, nl, ns, _, k, rfl, hk, N0.same S', fun v r H2 S2 rt => ?_⟩
    refine ⟨l, _, _, rfl, rfl, S2 _ _ f', ?_, ?_⟩
    · rw [ht.len]
      exact small1000 (by omega)
    have up : ∀ {x : V} {y : Rule}, RT H2 x y → RT (upd H2 l (.lst (us ++ [v]))) x y := fun {x y} h => by
      obtain ⟨a, w, x, u, hv, y, rfl, rfl, e, h1, h2, h3, h4, h5⟩ := h
      have tp : ∀ b xs, H2 b = some (.tup xs) → upd H2 l (.lst (us ++ [v])) b = some (.tup xs) := fun b xs z => by
        rw [upd_ne (ne_of z (S2 _ _ f') (by intro y; cases y))]
        exact z
      refine ⟨a, w, x, u, hv, y, rfl, rfl, tp _ _ e, ?_, h2, h3.put tp, h4, h5⟩
      cases hv with
      | v z => cases z <;> exact h1
      | w z => exact ⟨h1.1.put tp, h1.2⟩
    refine ⟨us ++ [v], rs ++ [r], _, _, rfl, upd_same, ?_, ?_, same_put (S'.trans S2) hl _⟩
    · exact RTs.snoc (up rt) ((ht.same S2).map up)
    · rw [List.length_append, hlen]
      rfl
  · rintro σ H' ⟨us, rs, o5, o6, rfl, f', ht, hlen, S'⟩
    refine ⟨_, rfl, q l us rs H' S' hl f' ht ?_⟩
    rw [hlen]
    split <;> omega
end
theorem idx_head (n L : Nat) (h : n ≤ L) : Builtin.Str.strSliceIndices none (some (n : Int)) 1 L = List.range n := by
  unfold Builtin.Str.strSliceIndices
  dsimp only
  have e : (if (1 : Int) > 0 then max 0 (min (if (n : Int) < 0 then (n : Int) + (L : Int) else (n : Int)) (L : Int)) else max (-1) (min (if (n : Int) < 0 then (n : Int) + (L : Int) else (n : Int)) ((L : Int) - 1))) = (n : Int) := by
    rw [if_pos (by decide), if_neg (by omega)]
    omega
  rw [e, if_pos (by decide)]
  have z := sliceRange_one 0 n
  rw [Nat.sub_zero] at z
  rw [show ((0 : Int)) = ((0 : Nat) : Int) from rfl, z]
  simp
theorem pick_head {x : Array Nat} : ∀ n : Nat, n ≤ x.size → (List.range n).filterMap (fun j => x[j]?) = x.toList.take n
  | 0, _ => rfl
  | n + 1, h => by
    rw [List.range_succ, List.filterMap_append, pick_head n (by omega), List.take_add_one]
    have e : x.toList[n]? = x[n]? := by rw [Array.getElem?_toList]
    have hn : n < x.size := by omega
    have e2 : x[n]? = some x[n] := Array.getElem?_eq_getElem hn
    rw [e, List.filterMap_cons, e2, List.filterMap_nil]
    rfl
theorem slice_head (x : Str) (n : Nat) (h : n ≤ x.length) : Txt.slice x none (some (n : Int)) = ⟨(x.cps.toList.take n).toArray⟩ := by
  unfold Txt.slice
  rw [idx_head n x.length h, List.length_range]
  by_cases e : n = x.length
  · subst e
    rw [if_pos (by simp)]
    have : x.cps.toList.take x.length = x.cps.toList := List.take_of_length_le (by simp [Str.length])
    rw [this, Array.toArray_toList]
  · rw [if_neg (by simp [e])]
    rw [show (fun j => x.cps[j]?) = (fun j => x.cps[j]?) from rfl]
    have z := pick_head (x := x.cps) n h
    rw [← z]
structure R8 where
  num : Int
  keeper : Int
  came : Int
  force : Nat
  cost : Nat
  spare : Nat
  marks : List Str
  own : List Str
  rules : List Rule
structure R8.ok (r : R8) : Prop where
  n0 : 0 ≤ r.num
  n1 : r.num < 16
  k0 : 0 ≤ r.keeper
  k1 : r.keeper < 4
  fo : r.force < 1000
  co : r.cost < 1000
  sp : r.spare < 9
  mks : Marks r.marks
  ow : Marks r.own
  ru : r.rules.length + (if 0 < r.spare % 3 then 1 else 0) ≤ 3
def headT (co fo : Nat) (own : List Str) : Str := Str.join " " (Crd.mk "x" co fo own []).head
def RowT (x : Addr) (H : Hp) (v : V) (r : R8) : Prop := ∃ (a tm tl : Addr) (us : List V), v = .ref a ∧ H a = some (.tup [.int r.num, .int (r.force : Int), .int r.keeper, .int r.came, .ref tm, .ref tl, .int (r.spare : Int), .str (headT r.cost r.force r.own)]) ∧ H tm = some (.tup (r.marks.map V.str)) ∧ H tl = some (.lst us) ∧ tl ≠ x ∧ RTs H us r.rules
theorem RT.put {H H' : Hp} (s : ∀ a xs, H a = some (.tup xs) → H' a = some (.tup xs)) {v : V} {r : Rule} (h : RT H v r) : RT H' v r := by
  obtain ⟨a, w, x, u, hv, y, rfl, rfl, e, h1, h2, h3, h4, h5⟩ := h
  refine ⟨a, w, x, u, hv, y, rfl, rfl, s _ _ e, ?_, h2, h3.put s, h4, h5⟩
  cases hv with
  | v z => cases z <;> exact h1
  | w z => exact ⟨h1.1.put s, h1.2⟩
theorem RowT.put {x : Addr} {H : Hp} {us vs : List V} {v : V} {r : R8} (h : RowT x H v r) (e : H x = some (.lst us)) : RowT x (upd H x (.lst vs)) v r := by
  obtain ⟨a, tm, tl, ws, rfl, h1, h2, h3, n, h4⟩ := h
  have tp : ∀ b xs, H b = some (.tup xs) → upd H x (.lst vs) b = some (.tup xs) := fun b xs z => by
    rw [upd_ne (ne_of z e (by intro y; cases y))]
    exact z
  exact ⟨a, tm, tl, ws, rfl, tp _ _ h1, tp _ _ h2, by rw [upd_ne n]; exact h3, n, h4.map fun {_ _} z => z.put tp⟩
theorem RowT.same {x : Addr} {H H' : Hp} (s : Same H H') {v : V} {r : R8} (h : RowT x H v r) : RowT x H' v r := by
  obtain ⟨a, tm, tl, ws, rfl, h1, h2, h3, n, h4⟩ := h
  exact ⟨a, tm, tl, ws, rfl, s _ _ h1, s _ _ h2, s _ _ h3, n, h4.same s⟩
inductive RowTs (x : Addr) (H : Hp) : List V → List R8 → Prop where
  | nil : RowTs x H [] []
  | cons {v : V} {r : R8} {vs : List V} {rs : List R8} : RowT x H v r → RowTs x H vs rs → RowTs x H (v :: vs) (r :: rs)
theorem RowTs.map {x y : Addr} {H H' : Hp} (f : ∀ {v : V} {r : R8}, RowT x H v r → RowT y H' v r) : ∀ {vs : List V} {rs : List R8}, RowTs x H vs rs → RowTs y H' vs rs
  | _, _, .nil => .nil
  | _, _, .cons h t => .cons (f h) (t.map f)
theorem RowTs.snoc {x : Addr} {H : Hp} {v : V} {r : R8} (h : RowT x H v r) : ∀ {vs : List V} {rs : List R8}, RowTs x H vs rs → RowTs x H (vs ++ [v]) (rs ++ [r])
  | _, _, .nil => .cons h .nil
  | _, _, .cons g t => .cons g (t.snoc h)
theorem RowTs.len {x : Addr} {H : Hp} : ∀ {xs : List V} {us : List R8}, RowTs x H xs us → xs.length = us.length
  | _, _, .nil => rfl
  | _, _, .cons _ t => by rw [List.length_cons, List.length_cons, t.len]
theorem RowTs.get {x : Addr} {H : Hp} : ∀ {vs : List V} {rs : List R8} {i : Nat} {v : V}, RowTs x H vs rs → vs[i]? = some v → ∃ r, rs[i]? = some r ∧ RowT x H v r
  | _, _, _, _, .nil, e => by simp at e
  | _, _, 0, _, .cons h t, e => by
    rw [List.getElem?_cons_zero] at e
    cases e
    exact ⟨_, rfl, h⟩
  | _, _, i + 1, _, .cons h t, e => by
    rw [List.getElem?_cons_succ] at e
    obtain ⟨u, h1, h2⟩ := t.get e
    exact ⟨u, by rw [List.getElem?_cons_succ]; exact h1, h2⟩
theorem marks_of3 {ns ms zs : List Str} (hs : ms.Sublist ns) (hl : ns.length = 3) (hok : ∀ n ∈ ns, NameOk n) (hnd : ns.Nodup) (hp : zs.Perm ms) (so : sortedS zs = true) : Marks zs where
  ok := fun m hm => hok m (hs.subset (hp.mem_iff.mp hm))
  nd := hp.nodup_iff.mpr (hs.nodup hnd)
  so := so
  le := by
    have a := hs.length_le
    have b := hp.length_eq
    omega
theorem own_cut {zs : List Str} (h : Marks zs) : Txt.slice (Str.join "," zs ++ "-") none (some (if ((Str.join "," zs).length : Int) > 1 then ((Str.join "," zs).length : Int) else 1)) = marksT zs := by
  cases zs with
  | nil =>
    have e : (if (((Str.join "," ([] : List Str)).length : Nat) : Int) > 1 then (((Str.join "," ([] : List Str)).length : Nat) : Int) else 1) = ((1 : Nat) : Int) := by decide
    rw [e, slice_head _ _ (by decide)]
    decide
  | cons m r =>
    have l1 := (marksT_len h).1
    have e : (if (((Str.join "," (m :: r)).length : Nat) : Int) > 1 then (((Str.join "," (m :: r)).length : Nat) : Int) else 1) = (((Str.join "," (m :: r)).length : Nat) : Int) := by
      have l2 : 1 ≤ (Str.join "," (m :: r)).length := l1
      split <;> omega
    rw [e, slice_head _ _ (by rw [len_app]; omega)]
    show (⟨(List.take (Str.join "," (m :: r)).length ((Str.join "," (m :: r)).cps ++ ("-" : Str).cps).toList).toArray⟩ : Str) = Str.join CM (m :: r)
    rw [Array.toList_append, List.take_left' (by simp [Str.length]), Array.toArray_toList]
    rfl
theorem head_text (co fo : Nat) (own : List Str) : ("x " : Str) ++ (toString (co : Int) : Str) ++ " " ++ (toString (fo : Int) : Str) ++ " " ++ marksT own = headT co fo own := by
  show _ = ("x" : Str) ++ " " ++ ((toString (co : Int) : Str) ++ " " ++ ((toString (fo : Int) : Str) ++ " " ++ marksT own))
  have e : ("x " : Str) = "x" ++ " " := by decide
  rw [e]
  simp only [str_assoc]
theorem ins_perm {ks xs : List Int} {x : Int} (i : Nat) (h : ks.Perm xs) : (ks.take i ++ x :: ks.drop i).Perm (xs ++ [x]) := by
  have a : (ks.take i ++ x :: ks.drop i).Perm (x :: (ks.take i ++ ks.drop i)) := List.perm_middle
  rw [List.take_append_drop] at a
  exact a.trans ((h.cons x).trans (List.perm_append_singleton x xs).symm)
def spRows8 (K : PySem.W.Frag) : Sp := fun vs H Q _ => ∃ (sa nl : Addr) (ss : List Int) (ns : List Str) (many most : Nat), vs = [.ref sa, .ref nl, .int (many : Int), .int (most : Int)] ∧ SqF K H sa (ss.map V.int) ∧ ss.length ≤ 63 ∧ N3 H nl ns ∧ many ≤ 16 ∧ most ≤ 100 ∧ ∀ (l : Addr) (us : List V) (rs : List R8) (H' : Hp), Same H H' → H l = none → H' l = some (.lst us) → RowTs l H' us rs → rs.length = many → (∀ r ∈ rs, r.ok) → (rs.map (·.num)).Nodup → Q (.ref l) H'
section
variable {P : Program} {w : World} {K : PySem.W.Frag} {mg : Str → Option Value} {base : Heap}
set_option maxHeartbeats 16000000 in
theorem ok__law_rows (T : Tx K mg) : FnOk P w K mg base CX0 8 T.f__law_rows T.d__law_rows P__law_rows (spRows8 K) := by
  have G__law_at := (ok__law_at (P := P) (w := w) (base := base) T).mono (by decide : 2 ≤ 7)
  have G__law_rules := ok__law_rules (P := P) (w := w) (base := base) T
  refine T.F__law_rows.ok sc__law_rows (fun vs H Q E h => ?_) (fun cdv A outer s H vs Q E hr h => ?_)
  · obtain ⟨sa, nl, ss, ns, many, most, rfl, _⟩ := h
    rfl
  obtain ⟨sa, nl, ss, ns, many, most, rfl, hS, h63, N0, hmany, hmost, q⟩ := h
  refine ⟨_,   (pss_cons (ps_set (i := 4) sc__law_rows.nd rfl (Or.inl rfl) (pe_lst pa_nil))
    (pss_cons (ps_set (i := 5) sc__law_rows.nd rfl (Or.inl rfl) (pe_lst pa_nil))
    (pss_cons (ps_for PassesOwn.never rfl (pi_range1 rfl T.z_range (pa_cons pe_int pa_nil)) (pg_name (i := 6) sc__law_rows.nd rfl (Or.inl rfl))
      (pss_one (ps_expr (pe_bm PySem.F.plainAttrs_list PySem.F.slot_list_insert PySem.F.type_list_insert mt_insert (pv 5) (pa_cons (pe_op op_mod (pe_op op_fdiv (pe_call G__law_at hr rfl T.m__law_at T.F__law_at.kp (b__law_at T) .nil pass0 (pa_cons (pv 0) (pa_cons pe_int pa_nil))) (pe_op op_add (pv 6) pe_int)) (pe_op op_add (pv 6) pe_int)) (pa_cons (pv 6) pa_nil))))))
    (pss_cons (ps_for PassesOwn.never rfl (pi_range1 rfl T.z_range (pa_cons (pv 2) pa_nil)) (pg_name (i := 6) sc__law_rows.nd rfl (Or.inl rfl))
      (pss_cons (ps_set (i := 7) sc__law_rows.nd rfl (Or.inr rfl) (pe_op op_mod (pe_call G__law_at hr rfl T.m__law_at T.F__law_at.kp (b__law_at T) .nil pass0 (pa_cons (pv 0) (pa_cons (pe_op op_add pe_int (pe_op op_mul pe_int (pv 6))) pa_nil))) pe_int))
      (pss_cons (ps_set (i := 8) sc__law_rows.nd rfl (Or.inl rfl) (pe_op op_mod (pe_call G__law_at hr rfl T.m__law_at T.F__law_at.kp (b__law_at T) .nil pass0 (pa_cons (pv 0) (pa_cons (pe_op op_add pe_int (pe_op op_mul pe_int (pv 6))) pa_nil))) pe_int))
      (pss_cons (ps_set (i := 9) sc__law_rows.nd rfl (Or.inl rfl) (pe_op op_mod (pe_op op_fdiv (pv 7) pe_int) pe_int))
      (pss_cons (ps_set (i := 10) sc__law_rows.nd rfl (Or.inl rfl) (pe_callB (call_min2 rfl) rfl T.z_min boot_min (pa_cons (pv 3) (pa_cons (pe_op op_sub pe_int (pe_callTy call_int1 rfl T.z_int boot_int (pa_cons (pe_cmpR op_gt (pe_op op_mod (pv 9) pe_int) pe_int (nomark _)) pa_nil))) pa_nil))))
      (pss_cons (ps_set (i := 11) sc__law_rows.nd rfl (Or.inl rfl) (pe_call G__law_rules hr rfl T.m__law_rules T.F__law_rules.kp (b__law_rules T) .nil pass0 (pa_cons (pv 8) (pa_cons (pv 1) (pa_cons (pv 10) (pa_cons (pe_op op_mod (pe_call G__law_at hr rfl T.m__law_at T.F__law_at.kp (b__law_at T) .nil pass0 (pa_cons (pv 0) (pa_cons pe_int pa_nil))) pe_int) pa_nil))))))
      (pss_cons (ps_set (i := 3) sc__law_rows.nd rfl (Or.inl rfl) (pe_op op_sub (pv 3) (pe_callB call_len_seq rfl T.z_len PySem.boot_len (pa_cons (pv 11) pa_nil))))
      (pss_cons (ps_set (i := 12) sc__law_rows.nd rfl (Or.inl rfl) (pe_op op_sub (pe_op op_add (pe_op op_mul (pe_op op_mod (pe_call G__law_at hr rfl T.m__law_at T.F__law_at.kp (b__law_at T) .nil pass0 (pa_cons (pv 0) (pa_cons (pe_op op_add pe_int (pe_op op_mul pe_int (pv 6))) pa_nil))) (pe_op op_pow pe_int pe_int)) pe_int) (pv 6)) (pe_op op_pow pe_int pe_int)))
      (pss_cons (ps_set (i := 13) sc__law_rows.nd rfl (Or.inl rfl) (pe_callTy call_tuple_of rfl T.z_tuple boot_tuple (pa_cons (pe_callB call_sorted_strs rfl T.z_sorted boot_sorted (pa_cons (pe_comp (own := ["_law_j"]) (cap := ["_law_names_here", "_law_cell"]) rfl (BlkScope.chk rfl rfl) (.cons (j := 1) rfl (.inl rfl) (.inl rfl) (.cons (j := 7) rfl (.inl rfl) (.inl rfl) .nil)) (pi_range1 rfl T.z_range (pa_cons pe_int pa_nil)) (fun _ _ _ _ => (pg_name (i := 0) (show List.Nodup (["_law_j", "_law_names_here", "_law_cell"] : List Str) by decide +kernel) rfl (Or.inl rfl))) (fun _ _ _ _ => pts_one (pt_cmpR op_eq (pe_op op_mod (pe_op op_fdiv (pv 2) (pe_ix (ix_tupK K) (pe_tup (pa_cons pe_int (pa_cons pe_int (pa_cons pe_int pa_nil)))) (pv 0) (fun _ _ => rfl))) pe_int) pe_int (nomark _))) (fun _ _ _ _ => by exact (pe_ix (ix_listK K) (pv 1) (pv 0) (fun _ _ => rfl)))) pa_nil)) pa_nil)))
      (pss_cons (ps_set (i := 14) sc__law_rows.nd rfl (Or.inl rfl) (pe_ix ix_tup (pe_tup (pa_cons (pe_op op_mod (pe_op op_fdiv (pv 7) pe_int) pe_int) (pa_cons (pe_op op_mod (pe_op op_fdiv (pv 7) pe_int) pe_int) pa_nil))) (pe_op op_fdiv (pe_op op_mod (pe_op op_fdiv (pv 7) pe_int) pe_int) pe_int) (fun _ _ => rfl)))
      (pss_cons (ps_set (i := 15) sc__law_rows.nd rfl (Or.inl rfl) (pe_bm PySem.F.plainAttrs_str PySem.F.slot_str_join PySem.F.type_str_join mt_join pe_str (pa_cons (pe_callB call_sorted_strs rfl T.z_sorted boot_sorted (pa_cons (pe_comp (own := ["_law_j"]) (cap := ["_law_names_here", "_law_cell"]) rfl (BlkScope.chk rfl rfl) (.cons (j := 1) rfl (.inl rfl) (.inl rfl) (.cons (j := 7) rfl (.inl rfl) (.inl rfl) .nil)) (pi_range1 rfl T.z_range (pa_cons pe_int pa_nil)) (fun _ _ _ _ => (pg_name (i := 0) (show List.Nodup (["_law_j", "_law_names_here", "_law_cell"] : List Str) by decide +kernel) rfl (Or.inl rfl))) (fun _ _ _ _ => pts_one (pt_cmpR op_eq (pe_op op_mod (pe_op op_fdiv (pv 2) (pe_ix (ix_tupK K) (pe_tup (pa_cons pe_int (pa_cons pe_int (pa_cons pe_int pa_nil)))) (pv 0) (fun _ _ => rfl))) pe_int) pe_int (nomark _))) (fun _ _ _ _ => by exact (pe_ix (ix_listK K) (pv 1) (pv 0) (fun _ _ => rfl)))) pa_nil)) pa_nil)))
      (pss_cons (ps_set (i := 16) sc__law_rows.nd rfl (Or.inl rfl) (pe_op op_add_str (pe_op op_add_str (pe_op op_add_str (pe_op op_add_str (pe_op op_add_str pe_str (pe_callTy call_str_int rfl T.z_str boot_str (pa_cons (pe_op op_mod (pv 8) pe_int) pa_nil))) pe_str) (pe_callTy call_str_int rfl T.z_str boot_str (pa_cons (pv 14) pa_nil))) pe_str) (pe_slice sl_str (pe_op op_add_str (pv 15) pe_str) po_none (po_some (pe_callB (call_max2 rfl) rfl T.z_max boot_max (pa_cons pe_int (pa_cons (pe_callB call_len_str rfl T.z_len PySem.boot_len (pa_cons (pv 15) pa_nil)) pa_nil)))))))
      (pss_one (ps_expr (pe_bm PySem.F.plainAttrs_list PySem.F.slot_list_append PySem.F.type_list_append mt_append (pv 4) (pa_cons (pe_tup (pa_cons (pe_ix ix_list (pv 5) (pv 6) (fun _ _ => rfl)) (pa_cons (pv 14) (pa_cons (pe_op op_mod (pe_op op_fdiv (pv 7) pe_int) pe_int) (pa_cons (pv 12) (pa_cons (pv 13) (pa_cons (pv 11) (pa_cons (pv 9) (pa_cons (pv 16) pa_nil))))))))) pa_nil))))))))))))))))
    (pss_one (ps_ret (pv 4))))))), ?_⟩
  refine ⟨(by show 0 ≤ sizeLine; decide), fun rl hrl => ?_⟩
  refine laid hrl fun H1 S1 e1 => ?_
  refine ⟨(by show 0 ≤ sizeLine; decide), fun nu hnu => ?_⟩
  have nrn : rl ≠ nu := ne_of_none e1 hnu
  refine laid hnu fun H2 S2 e2 => ?_
  refine ⟨16, rfl, by decide, by decide, ?_⟩
  refine for_range (lo := 0) (n := (16 : Int).toNat) (fun i σ H' => ∃ (ks : List Int) (o6 o7 o8 o9 o10 o11 o12 o13 o14 o15 o16 : Option V), σ = [some (.ref sa), some (.ref nl), some (.int (many : Int)), some (.int (most : Int)), some (.ref rl), some (.ref nu), o6, o7, o8, o9, o10, o11, o12, o13, o14, o15, o16] ∧ H' nu = some (.lst (ks.map V.int)) ∧ ks.Perm ((List.range i).map fun j : Nat => (0 : Int) + (j : Int)) ∧ Same H1 H') ⟨[], _, _, _, _, _, _, _, _, _, _, _, rfl, e2, .nil, S2⟩ ?_ ?_
  · rintro i σ H' hi ⟨ks, o6, o7, o8, o9, o10, o11, o12, o13, o14, o15, o16, rfl, f', pk, S'⟩
    have i16 : i < 16 := hi
    have kl : ks.length = i := by rw [pk.length_eq, List.length_map, List.length_range]
    refine ⟨_, rfl, .inl ⟨rfl, _, SqL.of f'⟩, _, rfl, sa, ss, 2, rfl, hS.same (S1.trans S'), h63, by decide, fun z => ?_⟩
    have m := mod_lo (z / (0 + (i : Int) + 1)) (m := 0 + (i : Int) + 1) (by omega)
    refine ⟨_, rfl, _, _, rfl, rfl, _, _, rfl, rfl, ⟨by omega, by omega⟩, _, rfl, _, _, rfl, rfl, _, _, rfl, rfl, (by show (0 : Int) < 0 + (i : Int) + 1; omega), _, rfl, nu, _, _, _, rfl, rfl, f', m.1, (by rw [List.length_map]; omega), (by rw [List.length_map]; omega), ?_⟩
    refine ⟨ks.take (z / (0 + (i : Int) + 1) % (0 + (i : Int) + 1)).toNat ++ (0 + (i : Int)) :: ks.drop (z / (0 + (i : Int) + 1) % (0 + (i : Int) + 1)).toNat, _, _, _, _, _, _, _, _, _, _, _, rfl, ?_, ?_, same_put S' hnu _⟩
    · rw [upd_same, List.map_append, List.map_cons, List.map_take, List.map_drop]
    · rw [List.range_succ, List.map_append]
      exact ins_perm _ pk
  rintro σ H3 ⟨ks, o6, o7, o8, o9, o10, o11, o12, o13, o14, o15, o16, rfl, f3, pk, S3⟩
  have kl : ks.length = 16 := by rw [pk.length_eq, List.length_map, List.length_range]; rfl
  have knd : ks.Nodup := by
    refine pk.nodup_iff.mpr ?_
    decide +kernel
  have kin : ∀ x ∈ ks, 0 ≤ x ∧ x < 16 := fun x hx => by
    obtain ⟨j, hj, rfl⟩ := List.mem_map.mp (pk.mem_iff.mp hx)
    have := List.mem_range.mp hj
    have e16 : (16 : Int).toNat = 16 := rfl
    omega
  refine ⟨_, rfl, _, rfl, by omega, by omega, ?_⟩
  rw [Int.toNat_natCast]
  refine for_range (lo := 0) (n := many) (fun i σ H' => ∃ (us : List V) (rs : List R8) (mo : Nat) (o6 o7 o8 o9 o10 o11 o12 o13 o14 o15 o16 : Option V), σ = [some (.ref sa), some (.ref nl), some (.int (many : Int)), some (.int (mo : Int)), some (.ref rl), some (.ref nu), o6, o7, o8, o9, o10, o11, o12, o13, o14, o15, o16] ∧ mo ≤ 100 ∧ H' nu = some (.lst (ks.map V.int)) ∧ H' rl = some (.lst us) ∧ RowTs rl H' us rs ∧ rs.map (·.num) = ks.take i ∧ (∀ r ∈ rs, r.ok) ∧ Same H H') ⟨[], [], most, _, _, _, _, _, _, _, _, _, _, _, rfl, hmost, f3, S3 _ _ e1, .nil, rfl, by simp, S1.trans S3⟩ ?_ ?_
  · rintro i σ H' hi ⟨us, rs, mo, o6, o7, o8, o9, o10, o11, o12, o13, o14, o15, o16, rfl, hmo, fn, fr, RW, em, hok, S'⟩
    have i16 : i < 16 := by omega
    have rsl : rs.length = i := by
      have := congrArg List.length em
      rw [List.length_map, List.length_take] at this
      omega
    have hS' := hS.same S'
    have N' := N0.same S'
    refine ⟨_, rfl, _, rfl, _, _, rfl, rfl, .inl ⟨by decide, by decide⟩, _, _, rfl, rfl, sa, ss, 4 + 3 * i, (by show [V.ref sa, V.int (4 + 3 * (0 + (i : Int)))] = _; rw [show 4 + 3 * (0 + (i : Int)) = ((4 + 3 * i : Nat) : Int) by omega]), hS', h63, by omega, fun z1 => ⟨_, _, rfl, rfl, (by show (0 : Int) < 2147483647; decide), ?_⟩⟩
    dsimp only
    generalize z1 % 2147483647 = cell
    refine ⟨_, rfl, _, rfl, _, _, rfl, rfl, .inl ⟨by decide, by decide⟩, _, _, rfl, rfl, sa, ss, 5 + 3 * i, (by show [V.ref sa, V.int (5 + 3 * (0 + (i : Int)))] = _; rw [show 5 + 3 * (0 + (i : Int)) = ((5 + 3 * i : Nat) : Int) by omega]), hS', h63, by omega, fun z2 => ⟨_, _, rfl, rfl, (by show (0 : Int) < 2147483647; decide), ?_⟩⟩
    dsimp only
    generalize z2 % 2147483647 = mixed
    refine ⟨_, rfl, _, _, rfl, rfl, ⟨by decide, by decide⟩, _, _, rfl, rfl, (by show (0 : Int) < 9; decide), ?_⟩
    have s9 := mod_lo (cell / 480) (m := 9) (by decide)
    obtain ⟨sp, hsp⟩ : ∃ sp : Nat, cell / 480 % 9 = (sp : Int) := ⟨(cell / 480 % 9).toNat, by omega⟩
    dsimp only
    rw [hsp]
    have room : (if decide ((sp : Int) % 3 > 0) = true then (1 : Int) else 0) = ((if 0 < sp % 3 then 1 else 0 : Nat) : Int) := by
      by_cases c : 0 < sp % 3
      · rw [if_pos c, if_pos (decide_eq_true (by omega))]
        rfl
      · rw [if_neg c, if_neg (by intro z; have := of_decide_eq_true z; omega)]
        rfl
    refine ⟨_, rfl, _, rfl, _, _, rfl, rfl, (by show (0 : Int) < 3; decide), _, _, rfl, rfl, .inr ⟨_, rfl, _, _, rfl, rfl, _, _, rfl, ?_⟩⟩
    dsimp only
    rw [room]
    generalize hex : (if 0 < sp % 3 then 1 else 0 : Nat) = ex
    have ex1 : ex ≤ 1 := by rw [← hex]; split <;> omega
    refine ⟨_, rfl, _, rfl, _, rfl, _, rfl, sa, ss, 3, rfl, hS', h63, by decide, fun z3 => ⟨_, _, rfl, rfl, (by show (0 : Int) < 5; decide), ?_⟩⟩
    have k5 := mod_lo z3 (m := 5) (by decide)
    obtain ⟨kd, hkd⟩ : ∃ kd : Nat, z3 % 5 = (kd : Int) := ⟨(z3 % 5).toNat, by omega⟩
    dsimp only
    rw [hkd]
    refine ⟨nl, ns, mixed, _, kd, rfl, by omega, (by split <;> omega), (by split <;> omega), N', fun tl ws ru H4 S4 ntl etl RTr rlen => ?_⟩
    have ntr : tl ≠ rl := Ne.symm (ne_of_none fr ntl)
    have wl : ws.length = ru.length := RTr.len
    refine ⟨_, rfl, _, rfl, tl, _, rfl, .inl (SqL.of etl), _, _, rfl, rfl, ?_⟩
    have rl2 : ru.length ≤ mo ∧ ru.length + ex ≤ 3 := by
      revert rlen
      split <;> intro rlen <;> omega
    obtain ⟨mo2, hmo2⟩ : ∃ mo2 : Nat, (mo : Int) - (ws.length : Int) = (mo2 : Int) := ⟨mo - ws.length, by omega⟩
    dsimp only
    rw [hmo2]
    refine ⟨_, rfl, _, rfl, _, _, rfl, rfl, .inl ⟨by decide, by decide⟩, _, _, rfl, rfl, sa, ss, 6 + 3 * i, (by show [V.ref sa, V.int (6 + 3 * (0 + (i : Int)))] = _; rw [show 6 + 3 * (0 + (i : Int)) = ((6 + 3 * i : Nat) : Int) by omega]), hS'.same S4, h63, by omega, fun z4 => ⟨_, _, rfl, rfl, ⟨by decide, by decide, by decide⟩, _, _, rfl, rfl, (by show (0 : Int) < 10 ^ (9 : Int).toNat; decide), _, _, rfl, rfl, .inr ⟨by decide, by decide⟩, _, rfl, _, _, rfl, rfl, _, _, rfl, rfl, ⟨by decide, by decide, by decide⟩, _, _, rfl, rfl, ?_⟩⟩
    dsimp only
    generalize z4 % 10 ^ (9 : Int).toNat * 16 + (0 + (i : Int)) - 10 ^ (9 : Int).toNat = came
    have N4 := N'.same S4
    refine ⟨3, rfl, by decide, by decide, ?_⟩
    refine comp_range (fun j ys Hx => ∃ ms : List Str, ys = ms.map V.str ∧ ms.Sublist (ns.take j) ∧ Same H4 Hx ∧ j ≤ 3) ⟨[], rfl, List.nil_sublist _, Same.refl _, by omega⟩ ?_ ?_ ?_
    · rintro j ys Hx ⟨ms, rfl, hs, _, hj⟩
      rw [List.length_map]
      have := hs.length_le
      rw [List.length_take] at this
      exact small (by omega)
    · rintro j ys Hx hj ⟨ms, rfl, hs, Sx, _⟩
      have hj3 : j < 3 := hj
      have ei : ns[j]? = some (ns[j]'(by rw [N0.len]; exact hj3)) := List.getElem?_eq_getElem _
      obtain ⟨d, hd, d0, d1⟩ : ∃ d : Int, atI [V.int 1, V.int 2, V.int 4] (0 + (j : Int)) = some (.int d) ∧ 0 < d ∧ d < 1073741824 := by
        obtain ⟨v, hv, hm⟩ := at_get (xs := [V.int 1, V.int 2, V.int 4]) (i := 0 + (j : Int)) (by omega) (by show 0 + (j : Int) < 3; omega)
        simp only [List.mem_cons, List.not_mem_nil, or_false] at hm
        rcases hm with e | e | e <;> subst e <;> exact ⟨_, hv, by decide, by decide⟩
      refine ⟨rfl, _, rfl, (by show 3 ≤ sizeLine; decide), fun tp htp => ?_⟩
      refine laid htp fun Hy Sy ey => ?_
      have Ny := N4.same (Sx.trans Sy)
      refine ⟨_, rfl, tp, _, _, _, rfl, rfl, SqT.of ey, hd, _, _, rfl, rfl, ⟨d0, d1⟩, _, _, rfl, rfl, (by show (0 : Int) < 2; decide), rfl, _, rfl, ite2 (fun _ => ?_) (fun _ => ?_)⟩
      · refine ⟨_, rfl, _, rfl, nl, _, _, V.str (ns[j]'(by rw [N0.len]; exact hj3)), rfl, rfl, SqL.of Ny.at_, ?_, ms ++ [ns[j]'(by rw [N0.len]; exact hj3)], ?_, ?_, Sx.trans Sy, by omega⟩
        · rw [Int.zero_add]
          exact at_str ei
        · rw [List.map_append]
          rfl
        · rw [List.take_add_one, ei]
          exact hs.append (List.Sublist.refl _)
      · refine ⟨ms, rfl, ?_, Sx.trans Sy, by omega⟩
        rw [List.take_add_one, ei]
        exact hs.trans (List.sublist_append_left _ _)
    rintro ys H5 ⟨ms, rfl, hs, S5, _⟩ b hb
    rw [List.take_of_length_le (by rw [N0.len]; exact Nat.le_refl 3)] at hs
    refine laid hb fun H6 S6 e6 => ?_
    have ml := hs.length_le
    refine ⟨b, ms, rfl, SqL.of e6, (by rw [N0.len] at ml; omega), fun so zs hso pz sz => ?_⟩
    have MK := marks_of3 hs N0.len N0.ok N0.nd pz sz
    refine laid hso fun H7 S7 e7 => ?_
    refine ⟨so, _, rfl, .inl ⟨SqL.of e7, fun tm htm => ?_⟩⟩
    refine laid htm fun H8 S8 e8 => ?_
    have S48 := S5.trans (S6.trans (S7.trans S8))
    have N8 := N4.same S48
    have etl8 := S48 _ _ etl
    have RT8 := RTr.same S48
    have S08 := S'.trans (S4.trans S48)
    have Srl := S4.trans S48
    clear S5 S6 S7 S8 S48 e6 e7 hb hso htm hs pz sz
    refine ⟨_, rfl, _, _, rfl, rfl, ⟨by decide, by decide⟩, _, _, rfl, rfl, (by show (0 : Int) < 5; decide), _, rfl, _, _, rfl, rfl, ⟨by decide, by decide⟩, _, _, rfl, rfl, (by show (0 : Int) < 1000; decide), (by show 2 ≤ sizeLine; decide), fun t9 ht9 => ?_⟩
    refine laid ht9 fun H9 S9 e9 => ?_
    have h9 := half_lo (cell / 7)
    have p5 := mod_lo (cell / 24) (m := 5) (by decide)
    obtain ⟨fo, hfo, hfo2⟩ := pick_n h9.1 h9.2 (x := cell / 24 % 5) (y := cell / 24 % 1000) ⟨p5.1, by omega⟩ (mod_lo (cell / 24) (by decide))
    refine ⟨_, rfl, _, _, rfl, rfl, ⟨by decide, by decide⟩, _, _, rfl, rfl, (by show (0 : Int) < 9; decide), _, _, rfl, rfl, ⟨by decide, by decide⟩, t9, _, _, _, rfl, rfl, SqT.of e9, hfo, ?_⟩
    have N9 := N8.same S9
    refine ⟨rfl, ?_⟩
    refine ⟨3, rfl, by decide, by decide, ?_⟩
    refine comp_range (fun j ys Hx => ∃ ms : List Str, ys = ms.map V.str ∧ ms.Sublist (ns.take j) ∧ Same H9 Hx ∧ j ≤ 3) ⟨[], rfl, List.nil_sublist _, Same.refl _, by omega⟩ ?_ ?_ ?_
    · rintro j ys Hx ⟨ms, rfl, hs, _, hj⟩
      rw [List.length_map]
      have := hs.length_le
      rw [List.length_take] at this
      exact small (by omega)
    · rintro j ys Hx hj ⟨ms, rfl, hs, Sx, _⟩
      have hj3 : j < 3 := hj
      have ei : ns[j]? = some (ns[j]'(by rw [N0.len]; exact hj3)) := List.getElem?_eq_getElem _
      obtain ⟨d, hd, d0, d1⟩ : ∃ d : Int, atI [V.int 4320, V.int 8640, V.int 17280] (0 + (j : Int)) = some (.int d) ∧ 0 < d ∧ d < 1073741824 := by
        obtain ⟨v, hv, hm⟩ := at_get (xs := [V.int 4320, V.int 8640, V.int 17280]) (i := 0 + (j : Int)) (by omega) (by show 0 + (j : Int) < 3; omega)
        simp only [List.mem_cons, List.not_mem_nil, or_false] at hm
        rcases hm with e | e | e <;> subst e <;> exact ⟨_, hv, by decide, by decide⟩
      refine ⟨rfl, _, rfl, (by show 3 ≤ sizeLine; decide), fun tp htp => ?_⟩
      refine laid htp fun Hy Sy ey => ?_
      have Ny := N9.same (Sx.trans Sy)
      refine ⟨_, rfl, tp, _, _, _, rfl, rfl, SqT.of ey, hd, _, _, rfl, rfl, ⟨d0, d1⟩, _, _, rfl, rfl, (by show (0 : Int) < 2; decide), rfl, _, rfl, ite2 (fun _ => ?_) (fun _ => ?_)⟩
      · refine ⟨_, rfl, _, rfl, nl, _, _, V.str (ns[j]'(by rw [N0.len]; exact hj3)), rfl, rfl, SqL.of Ny.at_, ?_, ms ++ [ns[j]'(by rw [N0.len]; exact hj3)], ?_, ?_, Sx.trans Sy, by omega⟩
        · rw [Int.zero_add]
          exact at_str ei
        · rw [List.map_append]
          rfl
        · rw [List.take_add_one, ei]
          exact hs.append (List.Sublist.refl _)
      · refine ⟨ms, rfl, ?_, Sx.trans Sy, by omega⟩
        rw [List.take_add_one, ei]
        exact hs.trans (List.sublist_append_left _ _)
    rintro ys H10 ⟨ms2, rfl, hs2, S10, _⟩ b2 hb2
    rw [List.take_of_length_le (by rw [N0.len]; exact Nat.le_refl 3)] at hs2
    refine laid hb2 fun H11 S11 e11 => ?_
    have ml2 := hs2.length_le
    refine ⟨b2, ms2, rfl, SqL.of e11, (by rw [N0.len] at ml2; omega), fun so2 ow hso2 pz2 sz2 => ?_⟩
    have OW := marks_of3 hs2 N0.len N0.ok N0.nd pz2 sz2
    refine laid hso2 fun H12 S12 e12 => ?_
    have owl : ow.length ≤ 3 := by
      rw [pz2.length_eq]
      rw [N0.len] at ml2
      exact ml2
    have ols : (ow.map (·.length)).sum ≤ 24 := by
      have z := sum_le (l := ow.map (·.length)) (k := 8) fun x hx => by
        obtain ⟨u, hu, rfl⟩ := List.mem_map.mp hx
        exact (OW.ok u hu).2.1
      rw [List.length_map] at z
      omega
    have c1 : ("," : Str).length = 1 := rfl
    refine ⟨",", so2, ow, rfl, rfl, SqL.of e12, (by rw [c1]; omega), ?_⟩
    have ol : (Str.join "," ow).length ≤ 100 := by
      have := join_len "," ow
      rw [c1] at this
      omega
    have S912 := S9.trans (S10.trans (S11.trans S12))
    clear S9 S10 S11 S12 e9 e11 e12 hb2 hso2 hs2 pz2 sz2 ht9 N9
    have m1000 := mod_lo mixed (m := 1000) (by decide)
    obtain ⟨co, hco⟩ : ∃ co : Nat, mixed % 1000 = (co : Int) := ⟨(mixed % 1000).toNat, by omega⟩
    have co2 : co < 1000 := by omega
    have cl : (toString (co : Int) : Str).length ≤ 8 := (num_word co2).2.2
    have fl : (toString (fo : Int) : Str).length ≤ 8 := (num_word hfo2).2.2
    have x2 : ("x " : Str).length = 2 := by decide
    have b1 : (" " : Str).length = 1 := rfl
    have d1 : ("-" : Str).length = 1 := rfl
    have mlen := (marksT_len OW).2
    refine ⟨_, rfl, _, _, rfl, rfl, (by show (0 : Int) < 1000; decide), (co : Int), (by show [V.int (mixed % 1000)] = _; rw [hco]), (by rw [Int.natAbs_natCast]; exact log_small _ co2), _, _, rfl, rfl, small (by omega), _, _, rfl, rfl, (by rw [len_app]; exact small (by omega)), ?_⟩
    refine ⟨_, rfl, (fo : Int), rfl, (by rw [Int.natAbs_natCast]; exact log_small _ hfo2), _, _, rfl, rfl, (by simp only [len_app]; exact small (by omega)), _, _, rfl, rfl, (by simp only [len_app]; exact small (by omega)), ?_⟩
    refine ⟨_, rfl, _, _, rfl, rfl, small (by omega), _, rfl, _, rfl, small (by omega), _, _, rfl, _, rfl, _, rfl, (by rw [len_app]; exact small (by omega)), fun t' et _ => ?_⟩
    rw [own_cut OW] at et
    subst et
    refine ⟨_, _, rfl, rfl, (by simp only [len_app]; exact small (by omega)), ?_⟩
    have fn2 := S912 _ _ (Srl _ _ fn)
    have fr2 := S912 _ _ (Srl _ _ fr)
    have ki : ks[i]? = some (ks[i]'(by omega)) := List.getElem?_eq_getElem _
    have kat : atI (ks.map V.int) (0 + (i : Int)) = some (.int (ks[i]'(by omega))) := by
      rw [Int.zero_add]
      refine atI_nat ?_
      rw [List.getElem?_map, ki]
      rfl
    refine ⟨_, rfl, .inl ⟨rfl, _, SqL.of fr2⟩, _, rfl, _, rfl, nu, _, _, _, rfl, rfl, SqL.of fn2, kat, _, rfl, _, rfl, _, _, rfl, rfl, ⟨by decide, by decide⟩, _, _, rfl, rfl, (by show (0 : Int) < 4; decide), _, rfl, _, rfl, _, rfl, _, rfl, _, rfl, (by show 8 ≤ sizeLine; decide), fun tr htr => ?_⟩
    refine laid htr fun H13 S13 e13 => ?_
    have S013 := S08.trans (S912.trans S13)
    have fr3 := S13 _ _ fr2
    refine ⟨rl, _, _, rfl, rfl, fr3, (by rw [RW.len]; exact small1000 (by omega)), ?_⟩
    have kk := kin _ (List.getElem_mem (l := ks) (n := i) (by omega))
    have p4 := mod_lo (cell / 120) (m := 4) (by decide)
    have row : RowT rl H13 (.ref tr) ⟨ks[i]'(by omega), cell / 120 % 4, came, fo, co, sp, zs, ow, ru⟩ := by
      refine ⟨tr, tm, tl, ws, rfl, ?_, S13 _ _ (S912 _ _ e8), S13 _ _ (S912 _ _ etl8), ntr, RT8.same (S912.trans S13)⟩
      rw [e13]
      show some (HO.tup [_, _, _, _, _, _, _, V.str _]) = some (HO.tup [_, _, _, _, _, _, _, V.str _])
      rw [← head_text]
    refine ⟨us ++ [.ref tr], rs ++ [⟨ks[i]'(by omega), cell / 120 % 4, came, fo, co, sp, zs, ow, ru⟩], mo2, _, _, _, _, _, _, _, _, _, _, _, rfl, by omega, ?_, upd_same, ?_, ?_, ?_, same_put S013 hrl _⟩
    · rw [upd_ne (Ne.symm nrn)]
      exact S13 _ _ fn2
    · exact RowTs.snoc (row.put fr3) (RW.map fun {_ _} z => (z.same (Srl.trans (S912.trans S13))).put fr3)
    · rw [List.map_append, em, List.take_add_one, ki]
      rfl
    · intro r hr
      rcases List.mem_append.mp hr with z | z
      · exact hok r z
      · rw [List.mem_singleton.mp z]
        refine ⟨kk.1, kk.2, p4.1, p4.2, hfo2, co2, by show sp < 9; omega, MK, OW, ?_⟩
        show ru.length + (if 0 < sp % 3 then 1 else 0) ≤ 3
        rw [hex]
        exact rl2.2
  · rintro σ H' ⟨us, rs, mo, o6, o7, o8, o9, o10, o11, o12, o13, o14, o15, o16, rfl, hmo, fn, fr, RW, em, hok, S'⟩
    have rsl : rs.length = many := by
      have := congrArg List.length em
      rw [List.length_map, List.length_take] at this
      omega
    refine ⟨_, rfl, q rl us rs H' S' hrl fr RW rsl hok ?_⟩
    rw [em]
    exact (List.take_sublist _ _).nodup knd
end
def extra : Nat → Rule
  | 0 => .may 0 ⟨"each", "score", .num 1, .all⟩
  | 1 => .wen "come" .all ⟨"one", "hurt", .num 1, .self⟩
  | _ => .instead "hurt" .all "none" .non
theorem extra_ok : ∀ k, (extra k).ok
  | 0 => ⟨by decide, by show ("each" : Str) ∈ eaches; decide, .score (by decide), ⟨trivial, by decide⟩⟩
  | 1 => ⟨by show ("come" : Str) ∈ whenKinds; decide, ⟨trivial, by decide⟩, by show ("one" : Str) ∈ eaches; decide, .hurt (by decide), ⟨trivial, by decide⟩⟩
  | _ + 2 => ⟨by show ("hurt" : Str) ∈ deedKinds; decide, ⟨trivial, by decide⟩, by show ("none" : Str) ∈ turns "hurt"; decide, .none⟩
def preR (sp : Nat) : List Rule := if sp % 3 = 1 then [extra (sp / 3)] else []
def postR (sp : Nat) : List Rule := if sp % 3 = 2 then [extra (sp / 3)] else []
def crd (r : R8) : Crd := ⟨"x", r.cost, r.force, r.own, preR r.spare ++ r.rules ++ postR r.spare⟩
theorem pre_ok (sp : Nat) : ∀ r ∈ preR sp, r.ok := by
  unfold preR
  split
  · intro r hr
    rw [List.mem_singleton.mp hr]
    exact extra_ok _
  · simp
theorem post_ok (sp : Nat) : ∀ r ∈ postR sp, r.ok := by
  unfold postR
  split
  · intro r hr
    rw [List.mem_singleton.mp hr]
    exact extra_ok _
  · simp
theorem pp_len (sp : Nat) : (preR sp).length + (postR sp).length ≤ (if 0 < sp % 3 then 1 else 0) := by
  unfold preR postR
  have : sp % 3 = 0 ∨ sp % 3 = 1 ∨ sp % 3 = 2 := by omega
  rcases this with h | h | h <;> simp [h]
theorem x_ok : NameOk ("x" : Str) := by
  have q : ∀ u ∈ (["x"] : List Str), 1 ≤ u.length ∧ u.length ≤ 8 ∧ ∀ c ∈ u.cps.toList, 97 ≤ c ∧ c ≤ 122 := by decide +kernel
  exact q _ (by simp)
theorem part_ok {r : R8} (h : r.ok) (hr : ∀ q ∈ r.rules, q.ok) {rs : List Rule} (h1 : ∀ q ∈ rs, q ∈ preR r.spare ∨ q ∈ r.rules ∨ q ∈ postR r.spare) (h2 : rs.length ≤ 3) : (Crd.mk "x" r.cost r.force r.own rs).ok :=
  ⟨x_ok, h.co, h.fo, h.ow, fun q hq => by
    rcases h1 q hq with z | z | z
    · exact pre_ok _ q z
    · exact hr q z
    · exact post_ok _ q z, h2⟩
theorem crd_ok {r : R8} (h : r.ok) (hr : ∀ q ∈ r.rules, q.ok) : (crd r).ok := by
  refine part_ok h hr (fun q hq => ?_) ?_
  · rcases List.mem_append.mp hq with z | z
    · rcases List.mem_append.mp z with z | z
      · exact .inl z
      · exact .inr (.inl z)
    · exact .inr (.inr z)
  · have := h.ru
    have := pp_len r.spare
    rw [List.length_append, List.length_append]
    omega
def tx (r : R8) (rs : List Rule) : Str := (Crd.mk "x" r.cost r.force r.own rs).text
theorem tx_add (r : R8) (rs : List Rule) (q : Rule) : tx r rs ++ " / " ++ ruleT q = tx r (rs ++ [q]) := by
  show Str.join SL (_ :: rs.map ruleT) ++ " / " ++ ruleT q = Str.join SL (_ :: (rs ++ [q]).map ruleT)
  rw [List.map_append]
  exact (join_app SL (List.cons_ne_nil _ _) (List.cons_ne_nil (ruleT q) [])).symm
theorem extra_text : ∀ k : Nat, k < 3 → atI [V.str " / may 0 do each score 1 all", V.str " / when come all do one hurt 1 self", V.str " / instead hurt all do none"] (k : Int) = some (.str (" / " ++ ruleT (extra k))) := by
  intro k hk
  have : k = 0 ∨ k = 1 ∨ k = 2 := by omega
  rcases this with rfl | rfl | rfl
  · exact (atI_nat (j := 0) rfl).trans (by rw [show (" / may 0 do each score 1 all" : Str) = " / " ++ ruleT (extra 0) by decide +kernel])
  · exact (atI_nat (j := 1) rfl).trans (by rw [show (" / when come all do one hurt 1 self" : Str) = " / " ++ ruleT (extra 1) by decide +kernel])
  · exact (atI_nat (j := 2) rfl).trans (by rw [show (" / instead hurt all do none" : Str) = " / " ++ ruleT (extra 2) by decide +kernel])
def spCard8 (B D : Addr) : Sp := fun vs H Q _ => ∃ (v : V) (x : Addr) (r : R8), vs = [v] ∧ RowT x H v r ∧ r.ok ∧ ∀ v' H', Same H H' → IsCard B D H' v' (crd r) → Q v' H'
section
variable {P : Program} {w : World} {K : PySem.W.Frag} {mg : Str → Option Value} {base : Heap}
set_option maxHeartbeats 8000000 in
theorem ok__law_card (T : Tx K mg) (kb : K.In base) : FnOk P w K mg base CX0 10 T.f__law_card T.d__law_card P__law_card (spCard8 T.c_Card T.c_Whom) := by
  have G__law_rule_text := (ok__law_rule_text (P := P) (w := w) (base := base) T).mono (by decide : 6 ≤ 9)
  have G_read_card := ok_read_card (P := P) (w := w) (base := base) T kb
  refine T.F__law_card.ok sc__law_card (fun vs H Q E h => ?_) (fun cdv A outer s H vs Q E hr h => ?_)
  · obtain ⟨v, x, r, rfl, _⟩ := h
    rfl
  obtain ⟨v, x, r, rfl, rt, ok, q⟩ := h
  obtain ⟨a, tm, tl, us, rfl, ea, em, el, _, RU⟩ := rt
  have rok := RU.ok
  refine ⟨_,   (pss_cons (ps_set (i := 1) sc__law_card.nd rfl (Or.inl rfl) (pe_ix ix_tup (pv 0) pe_int (fun _ _ => rfl)))
    (pss_cons (ps_set (i := 2) sc__law_card.nd rfl (Or.inl rfl) (pe_tup (pa_cons pe_str (pa_cons pe_str (pa_cons pe_str pa_nil)))))
    (pss_cons (ps_if (pt_cmpR op_eq (pe_op op_mod (pe_ix ix_tup (pv 0) pe_int (fun _ _ => rfl)) pe_int) pe_int (nomark _))
      (pss_one (ps_set (i := 1) sc__law_card.nd rfl (Or.inl rfl) (pe_op op_add_str (pv 1) (pe_ix ix_tup (pv 2) (pe_op op_fdiv (pe_ix ix_tup (pv 0) pe_int (fun _ _ => rfl)) pe_int) (fun _ _ => rfl)))))
      pss_nil)
    (pss_cons (ps_for PassesOwn.never rfl (pi_list (pe_ix ix_tup (pv 0) pe_int (fun _ _ => rfl))) (pg_name (i := 3) sc__law_card.nd rfl (Or.inl rfl))
      (pss_one (ps_set (i := 1) sc__law_card.nd rfl (Or.inl rfl) (pe_op op_add_str (pe_op op_add_str (pv 1) pe_str) (pe_call G__law_rule_text hr rfl T.m__law_rule_text T.F__law_rule_text.kp (b__law_rule_text T) .nil pass0 (pa_cons (pv 3) pa_nil))))))
    (pss_cons (ps_if (pt_cmpR op_eq (pe_op op_mod (pe_ix ix_tup (pv 0) pe_int (fun _ _ => rfl)) pe_int) pe_int (nomark _))
      (pss_one (ps_set (i := 1) sc__law_card.nd rfl (Or.inl rfl) (pe_op op_add_str (pv 1) (pe_ix ix_tup (pv 2) (pe_op op_fdiv (pe_ix ix_tup (pv 0) pe_int (fun _ _ => rfl)) pe_int) (fun _ _ => rfl)))))
      pss_nil)
    (pss_one (ps_ret (pe_call G_read_card hr rfl T.m_read_card T.F_read_card.kp (b_read_card T) .nil pass0 (pa_cons (pv 1) pa_nil))))))))), ?_⟩
  refine ⟨_, rfl, a, _, _, _, rfl, rfl, SqT.of ea, atI_nat (j := 7) rfl, ?_⟩
  refine ⟨(by show 3 ≤ sizeLine; decide), fun ot hot => ?_⟩
  refine laid hot fun H1 S1 eo => ?_
  have ea1 := S1 _ _ ea
  have el1 := S1 _ _ el
  have RU1 := RU.same S1
  have sp9 := ok.sp
  have k3 : ((r.spare : Int) / 3) = ((r.spare / 3 : Nat) : Int) := by omega
  have xt := extra_text (r.spare / 3) (by omega)
  have exl : (" / " ++ ruleT (extra (r.spare / 3)) : Str).length ≤ 453 := by
    rw [len_app]
    have := ruleT_len (extra_ok (r.spare / 3))
    have : (" / " : Str).length = 3 := by decide
    omega
  have t0 : tx r [] = headT r.cost r.force r.own := rfl
  have tl0 := text_le (part_ok ok rok (rs := []) (by simp) (by simp))
  have ruL := ok.ru
  have ppL := pp_len r.spare
  refine ⟨_, rfl, a, _, _, _, rfl, rfl, SqT.of ea1, atI_nat (j := 6) rfl, _, _, rfl, rfl, (by show (0 : Int) < 3; decide), rfl, _, rfl, ite2 (fun c1 => ?g1) (fun c1 => ?g2)⟩
  case' g1 =>
    have m1 : r.spare % 3 = 1 := by
      have z : V.int ((r.spare : Int) % 3) = V.int 1 := of_decide_eq_true c1
      injection z with z
      omega
    refine ⟨_, rfl, _, rfl, _, rfl, a, _, _, _, rfl, rfl, SqT.of ea1, atI_nat (j := 6) rfl, _, _, rfl, rfl, ⟨by decide, by decide⟩, ot, _, _, _, rfl, rfl, SqT.of eo, (by show atI _ ((r.spare : Int) / 3) = _; rw [k3]; exact xt), _, _, rfl, rfl, (by rw [← t0]; show (tx r []).length + _ ≤ _; exact Nat.le_trans (Nat.add_le_add tl0 exl) (by decide)), ?_⟩
    have et : headT r.cost r.force r.own ++ (" / " ++ ruleT (extra (r.spare / 3))) = tx r (preR r.spare) := by
      unfold preR
      rw [if_pos m1, ← t0, ← str_assoc]
      exact tx_add r [] _
    rw [et]
  case' g2 =>
    have m1 : ¬ r.spare % 3 = 1 := fun z => c1 (decide_eq_true (by show V.int ((r.spare : Int) % 3) = V.int 1; rw [show ((r.spare : Int) % 3) = 1 by omega]))
    have et : headT r.cost r.force r.own = tx r (preR r.spare) := by
      unfold preR
      rw [if_neg m1]
      rfl
    rw [et]
  all_goals
    clear c1 et
    refine ⟨_, rfl, a, _, _, _, rfl, rfl, SqT.of ea1, atI_nat (j := 5) rfl, tl, rfl, ⟨_, SqL.of el1⟩, ?_⟩
    refine for_list (xs := us) (fun i σ H' => ∃ o3, σ = [some (.ref a), some (.str (tx r (preR r.spare ++ r.rules.take i))), some (.ref ot), o3] ∧ Same H1 H') ⟨_, by rw [List.take_zero, List.append_nil]; rfl, Same.refl _⟩ ?_ ?_ ?_
    · rintro i σ H' _ ⟨o3, rfl, S⟩
      exact SqL.of (S _ _ el1)
    · rintro i u σ H' hu ⟨o3, rfl, S⟩
      obtain ⟨p, ep, rp⟩ := RU1.get hu
      have tli := text_le (part_ok ok rok (rs := preR r.spare ++ r.rules.take i) (fun q hq => by
        rcases List.mem_append.mp hq with z | z
        · exact .inl z
        · exact .inr (.inl (List.mem_of_mem_take z))) (by rw [List.length_append, List.length_take]; omega))
      have pl := ruleT_len rp.ok
      have s3 : (" / " : Str).length = 3 := by decide
      refine ⟨_, rfl, _, _, rfl, rfl, (by rw [s3]; show (tx r _).length + 3 ≤ _; exact Nat.le_trans (Nat.add_le_add_right tli 3) (by decide)), _, rfl, u, p, rfl, rp.same S, fun H2 S2 => ⟨_, _, rfl, rfl, ?_, ?_⟩⟩
      · rw [len_app, s3]
        exact Nat.le_trans (Nat.add_le_add (Nat.add_le_add_right tli 3) pl) (by decide)
      · have en : tx r (preR r.spare ++ r.rules.take i) ++ " / " ++ ruleT p = tx r (preR r.spare ++ r.rules.take (i + 1)) := by
          rw [tx_add, List.take_add_one, ep, List.append_assoc]
          rfl
        rw [en]
        exact ⟨some u, rfl, S.trans S2⟩
    · rintro σ H' ⟨o3, rfl, S⟩
      rw [List.take_of_length_le (by rw [RU1.len]; exact Nat.le_refl _)]
      have tli := text_le (part_ok ok rok (rs := preR r.spare ++ r.rules) (fun q hq => by
        rcases List.mem_append.mp hq with z | z
        · exact .inl z
        · exact .inr (.inl z)) (by rw [List.length_append]; omega))
      refine ⟨_, rfl, a, _, _, _, rfl, rfl, SqT.of (S _ _ ea1), atI_nat (j := 6) rfl, _, _, rfl, rfl, (by show (0 : Int) < 3; decide), rfl, _, rfl, ite2 (fun c2 => ?_) (fun c2 => ?_)⟩
      · have m2 : r.spare % 3 = 2 := by
          have z : V.int ((r.spare : Int) % 3) = V.int 2 := of_decide_eq_true c2
          injection z with z
          omega
        refine ⟨_, rfl, _, rfl, _, rfl, a, _, _, _, rfl, rfl, SqT.of (S _ _ ea1), atI_nat (j := 6) rfl, _, _, rfl, rfl, ⟨by decide, by decide⟩, ot, _, _, _, rfl, rfl, SqT.of (S _ _ eo), (by show atI _ ((r.spare : Int) / 3) = _; rw [k3]; exact xt), _, _, rfl, rfl, (by show (tx r _).length + _ ≤ _; exact Nat.le_trans (Nat.add_le_add tli exl) (by decide)), ?_⟩
        have et : tx r (preR r.spare ++ r.rules) ++ (" / " ++ ruleT (extra (r.spare / 3))) = (crd r).text := by
          rw [← str_assoc, tx_add]
          unfold crd postR
          rw [if_pos m2]
          rfl
        rw [et]
        exact ⟨_, rfl, crd r, rfl, crd_ok ok rok, fun v' H2 S2 ic => q v' H2 (S1.trans (S.trans S2)) ic⟩
      · have m2 : ¬ r.spare % 3 = 2 := fun z => c2 (decide_eq_true (by show V.int ((r.spare : Int) % 3) = V.int 2; rw [show ((r.spare : Int) % 3) = 2 by omega]))
        have et : tx r (preR r.spare ++ r.rules) = (crd r).text := by
          unfold crd postR
          rw [if_neg m2, List.append_nil]
          rfl
        rw [et]
        exact ⟨_, rfl, crd r, rfl, crd_ok ok rok, fun v' H2 S2 ic => q v' H2 (S1.trans (S.trans S2)) ic⟩
end
def LyT (B D : Addr) (H : Hp) (u : V) (r : R8) : Prop := ∃ (a tm : Addr) (c : V), u = .ref a ∧ H a = some (.tup [.int r.num, c, .int r.keeper, .int r.came, .ref tm]) ∧ H tm = some (.tup (r.marks.map V.str)) ∧ IsCard B D H c (crd r)
theorem LyT.same {B D : Addr} {H H' : Hp} (s : Same H H') {v : V} {r : R8} (h : LyT B D H v r) : LyT B D H' v r := by
  obtain ⟨a, tm, c, rfl, h1, h2, h3⟩ := h
  exact ⟨a, tm, c, rfl, s _ _ h1, s _ _ h2, h3.same s⟩
theorem cfs8_force (n : Str) (c f : Nat) (m t : Addr) : (cfs n c f m t).lookup ("force" : Str) = some (.int f) := (look_miss (by decide +kernel)).trans ((look_miss (by decide +kernel)).trans look_hit)
inductive All2 {α β : Type} (R : α → β → Prop) : List α → List β → Prop where
  | nil : All2 R [] []
  | cons {a : α} {b : β} {as : List α} {bs : List β} : R a b → All2 R as bs → All2 R (a :: as) (b :: bs)
theorem All2.imp {α β : Type} {R S : α → β → Prop} (f : ∀ {a b}, R a b → S a b) : ∀ {as : List α} {bs : List β}, All2 R as bs → All2 S as bs
  | _, _, .nil => .nil
  | _, _, .cons h t => .cons (f h) (t.imp f)
theorem All2.snoc {α β : Type} {R : α → β → Prop} {a : α} {b : β} (h : R a b) : ∀ {as : List α} {bs : List β}, All2 R as bs → All2 R (as ++ [a]) (bs ++ [b])
  | _, _, .nil => .cons h .nil
  | _, _, .cons g t => .cons g (t.snoc h)
theorem All2.len {α β : Type} {R : α → β → Prop} : ∀ {as : List α} {bs : List β}, All2 R as bs → as.length = bs.length
  | _, _, .nil => rfl
  | _, _, .cons _ t => by rw [List.length_cons, List.length_cons, t.len]
theorem All2.get {α β : Type} {R : α → β → Prop} : ∀ {as : List α} {bs : List β} {i : Nat} {a : α}, All2 R as bs → as[i]? = some a → ∃ b, bs[i]? = some b ∧ R a b
  | _, _, _, _, .nil, e => by simp at e
  | _, _, 0, _, .cons h t, e => by
    rw [List.getElem?_cons_zero] at e
    cases e
    exact ⟨_, rfl, h⟩
  | _, _, i + 1, _, .cons h t, e => by
    rw [List.getElem?_cons_succ] at e
    obtain ⟨u, h1, h2⟩ := t.get e
    exact ⟨u, by rw [List.getElem?_cons_succ]; exact h1, h2⟩
theorem All2.mem {α β : Type} {R : α → β → Prop} {as : List α} {bs : List β} (h : All2 R as bs) {a : α} (ha : a ∈ as) : ∃ b ∈ bs, R a b := by
  induction h with
  | nil => cases ha
  | cons r t ih =>
    rcases List.mem_cons.mp ha with rfl | z
    · exact ⟨_, List.mem_cons_self, r⟩
    · obtain ⟨b, hb, rb⟩ := ih z
      exact ⟨b, List.mem_cons_of_mem _ hb, rb⟩
theorem All2.perm {α β : Type} {R : α → β → Prop} {as cs : List α} (p : cs.Perm as) : ∀ {bs : List β}, All2 R as bs → ∃ ds, All2 R cs ds ∧ ds.Perm bs := by
  induction p with
  | nil => intro bs h; exact ⟨bs, h, .refl _⟩
  | cons x p ih =>
    intro bs h
    cases h with
    | cons r t =>
      obtain ⟨ds, h1, h2⟩ := ih t
      exact ⟨_ :: ds, .cons r h1, h2.cons _⟩
  | swap x y l =>
    intro bs h
    cases h with
    | cons r t =>
      cases t with
      | cons r' t' => exact ⟨_, .cons r' (.cons r t'), .swap _ _ _⟩
  | trans p1 p2 ih1 ih2 =>
    intro bs h
    obtain ⟨ds, h1, h2⟩ := ih2 h
    obtain ⟨es, h3, h4⟩ := ih1 h1
    exact ⟨es, h3, h4.trans h2⟩
def spLying8 (B D : Addr) : Sp := fun vs H Q _ => ∃ (l x : Addr) (us : List V) (rs : List R8), vs = [.ref l] ∧ H l = some (.lst us) ∧ RowTs x H us rs ∧ (∀ r ∈ rs, r.ok) ∧ rs.length ≤ 16 ∧ ∀ (p : Addr) (ws : List V) (H' : Hp), Same H H' → H p = none → H' p = some (.lst ws) → All2 (LyT B D H') ws rs → Q (.ref p) H'
section
variable {P : Program} {w : World} {K : PySem.W.Frag} {mg : Str → Option Value} {base : Heap}
set_option maxHeartbeats 8000000 in
theorem ok__law_lying (T : Tx K mg) (kb : K.In base) : FnOk P w K mg base CX0 11 T.f__law_lying T.d__law_lying P__law_lying (spLying8 T.c_Card T.c_Whom) := by
  have G__law_card := ok__law_card (P := P) (w := w) (base := base) T kb
  refine T.F__law_lying.ok sc__law_lying (fun vs H Q E h => ?_) (fun cdv A outer s H vs Q E hr h => ?_)
  · obtain ⟨l, x, us, rs, rfl, _⟩ := h
    rfl
  obtain ⟨l, x, us, rs, rfl, el, RW, hok, h16, q⟩ := h
  have ul := RW.len
  refine ⟨_,   (pss_one (ps_ret (pe_comp (own := ["_law_row"]) (cap := []) rfl (BlkScope.chk rfl rfl) .nil (pi_list (pv 0)) (fun _ _ _ _ => (pg_name (i := 0) (show List.Nodup (["_law_row"] : List Str) by decide +kernel) rfl (Or.inl rfl))) (fun _ _ _ _ => pts_nil) (fun _ _ _ _ => by exact (pe_tup (pa_cons (pe_ix (ix_tupK K) (pv 0) pe_int (fun _ _ => rfl)) (pa_cons (pe_call G__law_card hr rfl T.m__law_card T.F__law_card.kp (b__law_card T) .nil pass0 (pa_cons (pv 0) pa_nil)) (pa_cons (pe_ix (ix_tupK K) (pv 0) pe_int (fun _ _ => rfl)) (pa_cons (pe_ix (ix_tupK K) (pv 0) pe_int (fun _ _ => rfl)) (pa_cons (pe_ix (ix_tupK K) (pv 0) pe_int (fun _ _ => rfl)) pa_nil)))))))))), ?_⟩
  refine ⟨_, rfl, l, rfl, ⟨_, SqL.of el⟩, ?_⟩
  refine comp_list (xs := us) (fun i ys H' => Same H H' ∧ i ≤ us.length ∧ All2 (LyT T.c_Card T.c_Whom H') ys (rs.take i)) (fun i ys H' z => SqL.of (z.1 _ _ el)) ⟨Same.refl _, Nat.zero_le _, .nil⟩ ?_ ?_ ?_
  · rintro i ys H' ⟨_, hi, hy⟩
    have := hy.len
    rw [List.length_take] at this
    exact small (by omega)
  · rintro i u ys H' hu ⟨S, _, hy⟩
    have hi : i < us.length := (List.getElem?_eq_some_iff.mp hu).1
    obtain ⟨r, er, rt⟩ := RW.get hu
    have rt' := rt.same S
    obtain ⟨a, tm, tl, ws, rfl, ea, em, et, _, _⟩ := id rt'
    refine ⟨rfl, _, rfl, a, _, _, _, rfl, rfl, SqT.of ea, atI_nat (j := 0) rfl, ?_⟩
    refine ⟨_, rfl, _, x, r, rfl, rt', hok r (List.mem_of_getElem? er), fun v H2 S2 ic => ?_⟩
    have ea2 := S2 _ _ ea
    refine ⟨_, rfl, a, _, _, _, rfl, rfl, SqT.of ea2, atI_nat (j := 2) rfl, _, rfl, a, _, _, _, rfl, rfl, SqT.of ea2, atI_nat (j := 3) rfl, _, rfl, a, _, _, _, rfl, rfl, SqT.of ea2, atI_nat (j := 4) rfl, (by show 5 ≤ sizeLine; decide), fun t ht => ?_⟩
    refine laid ht fun H3 S3 e3 => ?_
    refine ⟨S.trans (S2.trans S3), hi, ?_⟩
    rw [List.take_add_one, er]
    exact All2.snoc ⟨t, tm, v, rfl, e3, S3 _ _ (S2 _ _ em), ic.same S3⟩ (hy.imp fun z => z.same (S2.trans S3))
  · rintro ys H' ⟨S, _, hy⟩ p hp
    rw [List.take_of_length_le (by omega)] at hy
    refine laid hp fun H2 S2 e2 => ?_
    exact q p ys H2 (S.trans S2) (none_of S hp) e2 (hy.imp fun z => z.same S2)
end
def SgT (H : Hp) (u : V) (r : R8) : Prop := ∃ (a tm : Addr), u = .ref a ∧ H a = some (.tup [.int r.num, .int r.keeper, .ref tm, .int (r.force : Int), .bl false]) ∧ H tm = some (.tup (r.marks.map V.str))
theorem SgT.same {H H' : Hp} (s : Same H H') {v : V} {r : R8} (h : SgT H v r) : SgT H' v r := by
  obtain ⟨a, tm, rfl, h1, h2⟩ := h
  exact ⟨a, tm, rfl, s _ _ h1, s _ _ h2⟩
def numG (H : Hp) : V → List Int
  | .ref a => match H a with
    | some (.tup (.int n :: _)) => [n]
    | _ => []
  | _ => []
theorem SgT.num {H : Hp} {v : V} {r : R8} (h : SgT H v r) : numG H v = [r.num] := by
  obtain ⟨a, tm, rfl, h1, h2⟩ := h
  show (match H a with
    | some (.tup (.int n :: _)) => [n]
    | _ => []) = [r.num]
  rw [h1]
theorem sg_nums {H : Hp} : ∀ {vs : List V} {rs : List R8}, All2 (SgT H) vs rs → vs.map (numG H) = rs.map fun r => [r.num]
  | _, _, .nil => rfl
  | _, _, .cons h t => by rw [List.map_cons, List.map_cons, h.num, sg_nums t]
theorem one_lt {a b : Int} (h : ([a] : List Int) < [b]) : a < b := by
  rcases List.cons_lt_cons_iff.mp h with z | ⟨_, z⟩
  · exact z
  · exact absurd z (List.lt_irrefl _)
theorem nums_nodup {rs : List R8} (h : (rs.map (·.num)).Nodup) : (rs.map fun r => [r.num]).Nodup := by
  have e : (rs.map fun r => [r.num]) = (rs.map (·.num)).map fun n => [n] := by rw [List.map_map]; rfl
  rw [e]
  refine List.pairwise_map.mpr (List.Pairwise.imp ?_ h)
  intro a b n z
  injection z with z
  exact n z
def Rising (ss : List R8) : Prop := ss.Pairwise fun a b => a.num < b.num
theorem rising_of {H : Hp} {out : List V} {ss : List R8} (h : All2 (SgT H) out ss) (p : (out.map (numG H)).Pairwise (· < ·)) : Rising ss := by
  rw [sg_nums h] at p
  exact List.Pairwise.imp (fun z => one_lt z) (List.pairwise_map.mp p)
theorem rising_one {rs ss ts : List R8} (h1 : Rising ss) (h2 : Rising ts) (p1 : ss.Perm rs) (p2 : ts.Perm rs) : ss = ts :=
  List.Perm.eq_of_pairwise (le := fun a b : R8 => a.num < b.num) (fun a b _ _ x y => absurd (Int.lt_trans x y) (Int.lt_irrefl _)) h1 h2 (p1.trans p2.symm)
def spFirst8 : Sp := fun vs H Q _ => ∃ (l x : Addr) (us : List V) (rs : List R8), vs = [.ref l] ∧ H l = some (.lst us) ∧ RowTs x H us rs ∧ rs.length ≤ 16 ∧ (rs.map (·.num)).Nodup ∧ ∀ (p : Addr) (out : List V) (ss : List R8) (H' : Hp), Same H H' → H p = none → H' p = some (.lst out) → All2 (SgT H') out ss → ss.Perm rs → Rising ss → Q (.ref p) H'
def spSight8 (B D : Addr) : Sp := fun vs H Q _ => ∃ (l : Addr) (us : List V) (rs : List R8), vs = [.ref l] ∧ H l = some (.lst us) ∧ All2 (LyT B D H) us rs ∧ rs.length ≤ 16 ∧ (rs.map (·.num)).Nodup ∧ ∀ (p : Addr) (out : List V) (ss : List R8) (H' : Hp), Same H H' → H p = none → H' p = some (.lst out) → All2 (SgT H') out ss → ss.Perm rs → Rising ss → Q (.ref p) H'
section
variable {P : Program} {w : World} {K : PySem.W.Frag} {mg : Str → Option Value} {base : Heap}
set_option maxHeartbeats 8000000 in
theorem ok__law_first (T : Tx K mg) : FnOk P w K mg base CX0 2 T.f__law_first T.d__law_first P__law_first spFirst8 := by
  refine T.F__law_first.ok sc__law_first (fun vs H Q E h => ?_) (fun cdv A outer s H vs Q E hr h => ?_)
  · obtain ⟨l, x, us, rs, rfl, _⟩ := h
    rfl
  obtain ⟨l, x, us, rs, rfl, el, RW, h16, hnd, q⟩ := h
  have ul := RW.len
  refine ⟨_,   (pss_one (ps_ret (pe_callB call_sorted_tups rfl T.z_sorted boot_sorted (pa_cons (pe_comp (own := ["_law_row"]) (cap := []) rfl (BlkScope.chk rfl rfl) .nil (pi_list (pv 0)) (fun _ _ _ _ => (pg_name (i := 0) (show List.Nodup (["_law_row"] : List Str) by decide +kernel) rfl (Or.inl rfl))) (fun _ _ _ _ => pts_nil) (fun _ _ _ _ => by exact (pe_tup (pa_cons (pe_ix (ix_tupK K) (pv 0) pe_int (fun _ _ => rfl)) (pa_cons (pe_ix (ix_tupK K) (pv 0) pe_int (fun _ _ => rfl)) (pa_cons (pe_ix (ix_tupK K) (pv 0) pe_int (fun _ _ => rfl)) (pa_cons (pe_ix (ix_tupK K) (pv 0) pe_int (fun _ _ => rfl)) (pa_cons pe_bl pa_nil)))))))) pa_nil)))), ?_⟩
  refine ⟨_, rfl, l, rfl, ⟨_, SqL.of el⟩, ?_⟩
  refine comp_list (xs := us) (fun i ys H' => Same H H' ∧ i ≤ us.length ∧ All2 (SgT H') ys (rs.take i)) (fun i ys H' z => SqL.of (z.1 _ _ el)) ⟨Same.refl _, Nat.zero_le _, .nil⟩ ?_ ?_ ?_
  · rintro i ys H' ⟨_, hi, hy⟩
    have := hy.len
    rw [List.length_take] at this
    exact small (by omega)
  · rintro i u ys H' hu ⟨S, _, hy⟩
    have hi : i < us.length := (List.getElem?_eq_some_iff.mp hu).1
    obtain ⟨r, er, rt⟩ := RW.get hu
    obtain ⟨a, tm, tl, ws, rfl, ea, em, et, _, _⟩ := rt.same S
    refine ⟨rfl, _, rfl, a, _, _, _, rfl, rfl, SqT.of ea, atI_nat (j := 0) rfl, _, rfl, a, _, _, _, rfl, rfl, SqT.of ea, atI_nat (j := 2) rfl, _, rfl, a, _, _, _, rfl, rfl, SqT.of ea, atI_nat (j := 4) rfl, _, rfl, a, _, _, _, rfl, rfl, SqT.of ea, atI_nat (j := 1) rfl, (by show 5 ≤ sizeLine; decide), fun t ht => ?_⟩
    refine laid ht fun H3 S3 e3 => ?_
    refine ⟨S.trans S3, hi, ?_⟩
    rw [List.take_add_one, er]
    exact All2.snoc ⟨t, tm, rfl, e3, S3 _ _ em⟩ (hy.imp fun z => z.same S3)
  · rintro ys H' ⟨S, _, hy⟩ p hp
    rw [List.take_of_length_le (by omega)] at hy
    refine laid hp fun H2 S2 e2 => ?_
    have hy2 : All2 (SgT H2) ys rs := hy.imp fun z => z.same S2
    have yl := hy2.len
    refine ⟨p, ys, numG H2, 1, rfl, SqL.of e2, by omega, by decide, fun u hu => ?_, ?_, fun p' out hp' po so => ?_⟩
    · obtain ⟨r, _, sg⟩ := hy2.mem hu
      have en := sg.num
      obtain ⟨a, tm, rfl, h1, _⟩ := sg
      exact ⟨a, [r.num], _, rfl, SqT.of h1, en, rfl⟩
    · rw [sg_nums hy2]
      exact nums_nodup hnd
    · obtain ⟨ss, h1, h2⟩ := hy2.perm po
      refine laid hp' fun H3 S3 e3 => ?_
      exact q p' out ss H3 (S.trans (S2.trans S3)) (none_of (S.trans S2) hp') e3 (h1.imp fun z => z.same S3) h2 (rising_of h1 so)
set_option maxHeartbeats 8000000 in
theorem ok_first_sight (T : Tx K mg) : FnOk P w K mg base CX0 2 T.f_first_sight T.d_first_sight P_first_sight (spSight8 T.c_Card T.c_Whom) := by
  refine T.F_first_sight.ok sc_first_sight (fun vs H Q E h => ?_) (fun cdv A outer s H vs Q E hr h => ?_)
  · obtain ⟨l, us, rs, rfl, _⟩ := h
    rfl
  obtain ⟨l, us, rs, rfl, el, LY, h16, hnd, q⟩ := h
  have ul := LY.len
  refine ⟨_,   (pss_one (ps_ret (pe_callB call_sorted_tups rfl T.z_sorted boot_sorted (pa_cons (pe_comp (own := ["number", "card", "keeper", "came", "marks"]) (cap := []) rfl (BlkScope.chk rfl rfl) .nil (pi_list (pv 0)) (fun _ _ _ _ => (pg_tupK K (n := 5) rfl (pgs_cons (pg_name (i := 0) (show List.Nodup (["number", "card", "keeper", "came", "marks"] : List Str) by decide +kernel) rfl (Or.inl rfl)) (pgs_cons (pg_name (i := 1) (show List.Nodup (["number", "card", "keeper", "came", "marks"] : List Str) by decide +kernel) rfl (Or.inl rfl)) (pgs_cons (pg_name (i := 2) (show List.Nodup (["number", "card", "keeper", "came", "marks"] : List Str) by decide +kernel) rfl (Or.inl rfl)) (pgs_cons (pg_name (i := 3) (show List.Nodup (["number", "card", "keeper", "came", "marks"] : List Str) by decide +kernel) rfl (Or.inl rfl)) (pgs_cons (pg_name (i := 4) (show List.Nodup (["number", "card", "keeper", "came", "marks"] : List Str) by decide +kernel) rfl (Or.inl rfl)) pgs_nil))))))) (fun _ _ _ _ => pts_nil) (fun _ _ _ _ => by exact (pe_tup (pa_cons (pv 0) (pa_cons (pv 2) (pa_cons (pe_callTy (call_tuple_ofK K) rfl T.z_tuple boot_tuple (pa_cons (pv 4) pa_nil)) (pa_cons (pe_fldK K (pv 1) rfl) (pa_cons pe_bl pa_nil)))))))) pa_nil)))), ?_⟩
  refine ⟨_, rfl, l, rfl, ⟨_, SqL.of el⟩, ?_⟩
  refine comp_list (xs := us) (fun i ys H' => Same H H' ∧ i ≤ us.length ∧ All2 (SgT H') ys (rs.take i)) (fun i ys H' z => SqL.of (z.1 _ _ el)) ⟨Same.refl _, Nat.zero_le _, .nil⟩ ?_ ?_ ?_
  · rintro i ys H' ⟨_, hi, hy⟩
    have := hy.len
    rw [List.length_take] at this
    exact small (by omega)
  · rintro i u ys H' hu ⟨S, _, hy⟩
    have hi : i < us.length := (List.getElem?_eq_some_iff.mp hu).1
    obtain ⟨r, er, ly⟩ := LY.get hu
    obtain ⟨a, tm, c, rfl, ea, em, ic⟩ := ly.same S
    obtain ⟨ca, dx, mm, tt, vs, rfl, hc, _⟩ := ic
    refine ⟨a, _, rfl, SqT.of ea, rfl, _, _, rfl, _, _, rfl, _, _, rfl, _, _, rfl, _, _, rfl, rfl, rfl, ?_⟩
    refine ⟨_, rfl, _, rfl, _, rfl, tm, _, rfl, .inr ⟨SqT.of em, ?_⟩⟩
    refine ⟨_, rfl, ca, _, dx, _, _, rfl, hc, T.cl_Card, T.n_Card_force, cfs8_force _ _ _ _ _, (by show 5 ≤ sizeLine; decide), fun t ht => ?_⟩
    refine laid ht fun H3 S3 e3 => ?_
    refine ⟨S.trans S3, hi, ?_⟩
    rw [List.take_add_one, er]
    exact All2.snoc ⟨t, tm, rfl, e3, S3 _ _ em⟩ (hy.imp fun z => z.same S3)
  · rintro ys H' ⟨S, _, hy⟩ p hp
    rw [List.take_of_length_le (by omega)] at hy
    refine laid hp fun H2 S2 e2 => ?_
    have hy2 : All2 (SgT H2) ys rs := hy.imp fun z => z.same S2
    have yl := hy2.len
    refine ⟨p, ys, numG H2, 1, rfl, SqL.of e2, by omega, by decide, fun u hu => ?_, ?_, fun p' out hp' po so => ?_⟩
    · obtain ⟨r, _, sg⟩ := hy2.mem hu
      have en := sg.num
      obtain ⟨a, tm, rfl, h1, _⟩ := sg
      exact ⟨a, [r.num], _, rfl, SqT.of h1, en, rfl⟩
    · rw [sg_nums hy2]
      exact nums_nodup hnd
    · obtain ⟨ss, h1, h2⟩ := hy2.perm po
      refine laid hp' fun H3 S3 e3 => ?_
      exact q p' out ss H3 (S.trans (S2.trans S3)) (none_of (S.trans S2) hp') e3 (h1.imp fun z => z.same S3) h2 (rising_of h1 so)
end
theorem kt_lt (K : PySem.W.Frag) : PySem.W.kitOne K (.type "list") (.type "tuple") = some false := by kernel_rfl
theorem kt_tl (K : PySem.W.Frag) : PySem.W.kitOne K (.type "tuple") (.type "list") = some false := by kernel_rfl
theorem kt_is (K : PySem.W.Frag) : PySem.W.kitOne K (.type "int") (.type "str") = some false := by kernel_rfl
theorem kt_bs (K : PySem.W.Frag) : PySem.W.kitOne K (.type "bool") (.type "str") = some false := by kernel_rfl
theorem kt_ib (K : PySem.W.Frag) : PySem.W.kitOne K (.type "int") (.type "bool") = some false := by kernel_rfl
theorem ka_l (K : PySem.W.Frag) : PySem.W.kitAny K (.type "list") (["list", "tuple"].map Value.type) = some true := by kernel_rfl
theorem ka_t (K : PySem.W.Frag) : PySem.W.kitAny K (.type "tuple") (["list", "tuple"].map Value.type) = some true := by kernel_rfl
theorem ka_s (K : PySem.W.Frag) : PySem.W.kitAny K (.type "str") (["list", "tuple"].map Value.type) = some false := by kernel_rfl
theorem ka_b (K : PySem.W.Frag) : PySem.W.kitAny K (.type "bool") (["list", "tuple"].map Value.type) = some false := by kernel_rfl
theorem ka_i (K : PySem.W.Frag) : PySem.W.kitAny K (.type "int") (["list", "tuple"].map Value.type) = some false := by kernel_rfl
mutual
inductive AL (H : Hp) : Nat → V → V → Prop where
  | str {n : Nat} (u : Str) : AL H n (.str u) (.str u)
  | bl {n : Nat} (b : Bool) : AL H n (.bl b) (.bl b)
  | int {n : Nat} (i : Int) : AL H n (.int i) (.int i)
  | lst {n : Nat} {a b : Addr} {xs ys : List V} : H a = some (.lst xs) → H b = some (.lst ys) → ys.length ≤ 1000 → ALs H n xs ys → AL H (n + 1) (.ref a) (.ref b)
  | tup {n : Nat} {a b : Addr} {xs ys : List V} : H a = some (.tup xs) → H b = some (.tup ys) → ys.length ≤ 1000 → ALs H n xs ys → AL H (n + 1) (.ref a) (.ref b)
inductive ALs (H : Hp) : Nat → List V → List V → Prop where
  | nil {n : Nat} : ALs H n [] []
  | cons {n : Nat} {x y : V} {xs ys : List V} : AL H n x y → ALs H n xs ys → ALs H n (x :: xs) (y :: ys)
end
mutual
theorem AL.same {H H' : Hp} (s : Same H H') : ∀ {n : Nat} {x y : V}, AL H n x y → AL H' n x y
  | _, _, _, .str u => .str u
  | _, _, _, .bl u => .bl u
  | _, _, _, .int u => .int u
  | _, _, _, .lst h g l t => .lst (s _ _ h) (s _ _ g) l (t.same s)
  | _, _, _, .tup h g l t => .tup (s _ _ h) (s _ _ g) l (t.same s)
theorem ALs.same {H H' : Hp} (s : Same H H') : ∀ {n : Nat} {xs ys : List V}, ALs H n xs ys → ALs H' n xs ys
  | _, _, _, .nil => .nil
  | _, _, _, .cons h t => .cons (h.same s) (t.same s)
end
theorem ALs.len {H : Hp} {n : Nat} : ∀ {xs ys : List V}, ALs H n xs ys → xs.length = ys.length
  | _, _, .nil => rfl
  | _, _, .cons _ t => by rw [List.length_cons, List.length_cons, t.len]
theorem ALs.get {H : Hp} {n : Nat} : ∀ {xs ys : List V} {i : Nat}, ALs H n xs ys → i < ys.length → ∃ x y, xs[i]? = some x ∧ ys[i]? = some y ∧ AL H n x y
  | _, _, i, .nil, h => absurd h (Nat.not_lt_zero i)
  | _, _, 0, .cons h t, _ => ⟨_, _, rfl, rfl, h⟩
  | _, _, i + 1, .cons h t, l => by
    obtain ⟨x, y, e1, e2, z⟩ := t.get (i := i) (by rw [List.length_cons] at l; omega)
    exact ⟨x, y, by rw [List.getElem?_cons_succ]; exact e1, by rw [List.getElem?_cons_succ]; exact e2, z⟩
theorem al_strs {H : Hp} {n : Nat} : ∀ ss : List Str, ALs H n (ss.map V.str) (ss.map V.str)
  | [] => .nil
  | s :: r => .cons (.str s) (al_strs r)
def spWhole8 : Sp := fun vs H Q _ => ∃ i : Int, vs = [.int i] ∧ Q (.bl true) H
def spAlike8 (n : Nat) : Sp := fun vs H Q _ => ∃ (m : Nat) (x y : V), vs = [x, y] ∧ m < n ∧ AL H m x y ∧ ∀ H', Same H H' → Q (.bl true) H'
theorem trues : ∀ n : Nat, (List.replicate n true).all id = true
  | 0 => rfl
  | n + 1 => by rw [List.replicate_succ, List.all_cons, trues n]; rfl
section
variable {P : Program} {w : World} {K : PySem.W.Frag} {mg : Str → Option Value} {base : Heap}
theorem ok__law_whole (T : Tx K mg) : FnOk P w K mg base CX0 2 T.f__law_whole T.d__law_whole P__law_whole spWhole8 := by
  refine T.F__law_whole.ok sc__law_whole (fun vs H Q E h => ?_) (fun cdv A outer s H vs Q E hr h => ?_)
  · obtain ⟨i, rfl, _⟩ := h
    rfl
  obtain ⟨i, rfl, q⟩ := h
  refine ⟨_,   (pss_one (ps_ret (pe_and (pe_callB call_isinst rfl T.z_isinstance boot_isinstance (pa_cons (pv 0) (pa_cons (pe_bltn (v := .ty "int") rfl T.z_int boot_int rfl) pa_nil))) (pe_one (pe_not (pe_callB call_isinst rfl T.z_isinstance boot_isinstance (pa_cons (pv 0) (pa_cons (pe_bltn (v := .ty "bool") rfl T.z_bool boot_bool rfl) pa_nil)))))))), ?_⟩
  exact ⟨_, rfl, _, _, _, true, rfl, TyOf.int _, .inl ⟨"int", rfl, rfl⟩, _, rfl, iteT ⟨_, rfl, _, _, _, false, rfl, TyOf.int _, .inl ⟨"bool", rfl, kt_ib _⟩, _, rfl, q⟩⟩
set_option maxHeartbeats 8000000 in
theorem alike_step (T : Tx K mg) {n : Nat} (G__law_alike : FnOk P w K mg base CX0 (n + 2) T.f__law_alike T.d__law_alike P__law_alike (spAlike8 n)) : FnOk P w K mg base CX0 (n + 3) T.f__law_alike T.d__law_alike P__law_alike (spAlike8 (n + 1)) := by
  have G__law_whole := (ok__law_whole (P := P) (w := w) (base := base) T).mono (by omega : 2 ≤ n + 2)
  refine T.F__law_alike.ok sc__law_alike (fun vs H Q E h => ?_) (fun cdv A outer s H vs Q E hr h => ?_)
  · obtain ⟨m, x, y, rfl, _⟩ := h
    rfl
  obtain ⟨m, x, y, rfl, hm, al, q⟩ := h
  refine ⟨_,   (pss_cons (ps_if (pt_val (pe_callB call_isinstT rfl T.z_isinstance boot_isinstance (pa_cons (pv 1) (pa_cons (pe_tup (pa_cons (pe_bltn (v := .ty "list") rfl T.z_list boot_list rfl) (pa_cons (pe_bltn (v := .ty "tuple") rfl T.z_tuple boot_tuple rfl) pa_nil))) pa_nil))))
      (pss_cons (ps_if (PW.pt (pw_or (pt_cmpR op_ne (pe_callB call_isinst rfl T.z_isinstance boot_isinstance (pa_cons (pv 0) (pa_cons (pe_bltn (v := .ty "list") rfl T.z_list boot_list rfl) pa_nil))) (pe_callB call_isinst rfl T.z_isinstance boot_isinstance (pa_cons (pv 1) (pa_cons (pe_bltn (v := .ty "list") rfl T.z_list boot_list rfl) pa_nil))) (nomark _)) (pw_or1 (pt_cmpR op_ne (pe_callB call_isinst rfl T.z_isinstance boot_isinstance (pa_cons (pv 0) (pa_cons (pe_bltn (v := .ty "tuple") rfl T.z_tuple boot_tuple rfl) pa_nil))) (pe_callB call_isinst rfl T.z_isinstance boot_isinstance (pa_cons (pv 1) (pa_cons (pe_bltn (v := .ty "tuple") rfl T.z_tuple boot_tuple rfl) pa_nil))) (nomark _)))))
        (pss_one (ps_ret pe_bl))
        pss_nil)
      (pss_one (ps_ret (pe_and (pe_cmpR op_eq (pe_callB call_len_seq rfl T.z_len PySem.boot_len (pa_cons (pv 0) pa_nil)) (pe_callB call_len_seq rfl T.z_len PySem.boot_len (pa_cons (pv 1) pa_nil)) (nomark _)) (pe_one (pe_callB (call_all rfl) rfl T.z_all boot_all (pa_cons (pe_comp (own := ["_law_k"]) (cap := ["_law_found", "_law_due"]) rfl (BlkScope.chk rfl rfl) (.cons (j := 0) rfl (.inl rfl) (.inl rfl) (.cons (j := 1) rfl (.inl rfl) (.inl rfl) .nil)) (pi_range1 rfl T.z_range (pa_cons (pe_callB call_len_seq rfl T.z_len PySem.boot_len (pa_cons (pv 1) pa_nil)) pa_nil)) (fun _ _ _ _ => (pg_name (i := 0) (show List.Nodup (["_law_k", "_law_found", "_law_due"] : List Str) by decide +kernel) rfl (Or.inl rfl))) (fun _ _ _ _ => pts_nil) (fun _ _ _ _ => by exact (pe_call G__law_alike hr rfl T.m__law_alike T.F__law_alike.kp (b__law_alike T) .nil pass0 (pa_cons (pe_ix (ix_seqK K) (pv 1) (pv 0) (fun _ _ => rfl)) (pa_cons (pe_ix (ix_seqK K) (pv 2) (pv 0) (fun _ _ => rfl)) pa_nil))))) pa_nil)))))))
      pss_nil)
    (pss_cons (ps_if (pt_val (pe_callB call_isinst rfl T.z_isinstance boot_isinstance (pa_cons (pv 1) (pa_cons (pe_bltn (v := .ty "str") rfl T.z_str boot_str rfl) pa_nil))))
      (pss_one (ps_ret (pe_and (pe_callB call_isinst rfl T.z_isinstance boot_isinstance (pa_cons (pv 0) (pa_cons (pe_bltn (v := .ty "str") rfl T.z_str boot_str rfl) pa_nil))) (pe_one (pe_cmpR op_eq (pv 0) (pv 1) (nomark _))))))
      pss_nil)
    (pss_cons (ps_if (pt_val (pe_callB call_isinst rfl T.z_isinstance boot_isinstance (pa_cons (pv 1) (pa_cons (pe_bltn (v := .ty "bool") rfl T.z_bool boot_bool rfl) pa_nil))))
      (pss_one (ps_ret (pe_and (pe_callB call_isinst rfl T.z_isinstance boot_isinstance (pa_cons (pv 0) (pa_cons (pe_bltn (v := .ty "bool") rfl T.z_bool boot_bool rfl) pa_nil))) (pe_one (pe_cmpR op_eq (pv 0) (pv 1) (nomark _))))))
      pss_nil)
    (pss_one (ps_ret (pe_and (pe_call G__law_whole hr rfl T.m__law_whole T.F__law_whole.kp (b__law_whole T) .nil pass0 (pa_cons (pv 0) pa_nil)) (pe_one (pe_cmpR op_eq (pv 0) (pv 1) (nomark _))))))))), ?_⟩
  refine ⟨_, rfl, (by show 2 ≤ sizeLine; decide), fun t1 ht1 => ?_⟩
  refine laid ht1 fun H1 S1 e1 => ?_
  have q1 : ∀ H', Same H1 H' → Q (.bl true) H' := fun H' S => q H' (S1.trans S)
  cases al.same S1 with
  | str u =>
    refine ⟨_, t1, _, ["list", "tuple"], false, rfl, TyB.str u, SqT.of e1, ka_s _, _, rfl, iteF ?_⟩
    exact ⟨_, rfl, _, _, _, true, rfl, TyOf.str _, .inl ⟨"str", rfl, rfl⟩, _, rfl, iteT ⟨_, rfl, _, _, _, true, rfl, TyOf.str _, .inl ⟨"str", rfl, rfl⟩, _, rfl, iteT ⟨_, rfl, _, rfl, rfl, by rw [decide_eq_true rfl]; exact q1 H1 (Same.refl _)⟩⟩⟩
  | bl u =>
    refine ⟨_, t1, _, ["list", "tuple"], false, rfl, TyB.bl u, SqT.of e1, ka_b _, _, rfl, iteF ?_⟩
    refine ⟨_, rfl, _, _, _, false, rfl, TyOf.bl _, .inl ⟨"str", rfl, kt_bs _⟩, _, rfl, iteF ?_⟩
    exact ⟨_, rfl, _, _, _, true, rfl, TyOf.bl _, .inl ⟨"bool", rfl, rfl⟩, _, rfl, iteT ⟨_, rfl, _, _, _, true, rfl, TyOf.bl _, .inl ⟨"bool", rfl, rfl⟩, _, rfl, iteT ⟨_, rfl, _, rfl, rfl, by rw [decide_eq_true rfl]; exact q1 H1 (Same.refl _)⟩⟩⟩
  | int u =>
    refine ⟨_, t1, _, ["list", "tuple"], false, rfl, TyB.int u, SqT.of e1, ka_i _, _, rfl, iteF ?_⟩
    refine ⟨_, rfl, _, _, _, false, rfl, TyOf.int _, .inl ⟨"str", rfl, kt_is _⟩, _, rfl, iteF ?_⟩
    refine ⟨_, rfl, _, _, _, false, rfl, TyOf.int _, .inl ⟨"bool", rfl, kt_ib _⟩, _, rfl, iteF ?_⟩
    exact ⟨_, rfl, u, rfl, _, rfl, iteT ⟨_, rfl, _, rfl, rfl, by rw [decide_eq_true rfl]; exact q1 H1 (Same.refl _)⟩⟩
  | @lst m a b xs ys ea eb yl als =>
    refine ⟨_, t1, _, ["list", "tuple"], true, rfl, TyB.lst (SqL.of eb), SqT.of e1, ka_l _, _, rfl, iteT ?_⟩
    refine ⟨_, rfl, _, _, _, true, rfl, TyOf.lst ea, .inl ⟨"list", rfl, rfl⟩, _, rfl, _, _, _, true, rfl, TyOf.lst eb, .inl ⟨"list", rfl, rfl⟩, rfl, _, rfl, iteF ?_⟩
    refine ⟨_, rfl, _, _, _, false, rfl, TyOf.lst ea, .inl ⟨"tuple", rfl, kt_lt _⟩, _, rfl, _, _, _, false, rfl, TyOf.lst eb, .inl ⟨"tuple", rfl, kt_lt _⟩, rfl, _, rfl, iteF ?_⟩
    refine ⟨_, rfl, a, _, rfl, .inl (SqL.of ea), _, rfl, b, _, rfl, .inl (SqL.of eb), rfl, _, rfl, ?_⟩
    rw [als.len, decide_eq_true rfl]
    refine iteT ⟨_, rfl, b, _, rfl, .inl (SqL.of eb), _, rfl, by omega, by omega, ?_⟩
    rw [Int.toNat_natCast]
    refine comp_range (fun j zs Hx => Same H1 Hx ∧ j ≤ ys.length ∧ zs = (List.replicate j true).map V.bl) ⟨Same.refl _, Nat.zero_le _, rfl⟩ ?_ ?_ ?_
    · rintro j zs Hx ⟨_, hj, rfl⟩
      rw [List.length_map, List.length_replicate]
      exact small (by omega)
    · rintro j zs Hx hj ⟨Sx, _, rfl⟩
      obtain ⟨x', y', ex, ey, al'⟩ := als.get hj
      have ax : atI xs (0 + (j : Int)) = some x' := by rw [Int.zero_add]; exact atI_nat ex
      have ay : atI ys (0 + (j : Int)) = some y' := by rw [Int.zero_add]; exact atI_nat ey
      refine ⟨rfl, _, rfl, _, rfl, .inl ⟨a, _, _, _, rfl, rfl, SqL.of (Sx _ _ ea), ax, ?_⟩⟩
      refine ⟨_, rfl, _, rfl, .inl ⟨b, _, _, _, rfl, rfl, SqL.of (Sx _ _ eb), ay, ?_⟩⟩
      refine ⟨m, x', y', rfl, by omega, al'.same Sx, fun Hy Sy => ⟨Sx.trans Sy, hj, ?_⟩⟩
      rw [List.replicate_succ', List.map_append]
      rfl
    · rintro zs Hx ⟨Sx, _, rfl⟩ l hl
      refine laid hl fun H3 S3 e3 => ?_
      refine ⟨l, _, rfl, SqL.of e3, ?_⟩
      rw [trues]
      exact q1 H3 (Sx.trans S3)
  | @tup m a b xs ys ea eb yl als =>
    refine ⟨_, t1, _, ["list", "tuple"], true, rfl, TyB.tup (SqT.of eb), SqT.of e1, ka_t _, _, rfl, iteT ?_⟩
    refine ⟨_, rfl, _, _, _, false, rfl, TyOf.tup ea, .inl ⟨"list", rfl, kt_tl _⟩, _, rfl, _, _, _, false, rfl, TyOf.tup eb, .inl ⟨"list", rfl, kt_tl _⟩, rfl, _, rfl, iteF ?_⟩
    refine ⟨_, rfl, _, _, _, true, rfl, TyOf.tup ea, .inl ⟨"tuple", rfl, rfl⟩, _, rfl, _, _, _, true, rfl, TyOf.tup eb, .inl ⟨"tuple", rfl, rfl⟩, rfl, _, rfl, iteF ?_⟩
    refine ⟨_, rfl, a, _, rfl, .inr (SqT.of ea), _, rfl, b, _, rfl, .inr (SqT.of eb), rfl, _, rfl, ?_⟩
    rw [als.len, decide_eq_true rfl]
    refine iteT ⟨_, rfl, b, _, rfl, .inr (SqT.of eb), _, rfl, by omega, by omega, ?_⟩
    rw [Int.toNat_natCast]
    refine comp_range (fun j zs Hx => Same H1 Hx ∧ j ≤ ys.length ∧ zs = (List.replicate j true).map V.bl) ⟨Same.refl _, Nat.zero_le _, rfl⟩ ?_ ?_ ?_
    · rintro j zs Hx ⟨_, hj, rfl⟩
      rw [List.length_map, List.length_replicate]
      exact small (by omega)
    · rintro j zs Hx hj ⟨Sx, _, rfl⟩
      obtain ⟨x', y', ex, ey, al'⟩ := als.get hj
      have ax : atI xs (0 + (j : Int)) = some x' := by rw [Int.zero_add]; exact atI_nat ex
      have ay : atI ys (0 + (j : Int)) = some y' := by rw [Int.zero_add]; exact atI_nat ey
      refine ⟨rfl, _, rfl, _, rfl, .inr (.inl ⟨a, _, _, _, rfl, rfl, SqT.of (Sx _ _ ea), ax, ?_⟩)⟩
      refine ⟨_, rfl, _, rfl, .inr (.inl ⟨b, _, _, _, rfl, rfl, SqT.of (Sx _ _ eb), ay, ?_⟩)⟩
      refine ⟨m, x', y', rfl, by omega, al'.same Sx, fun Hy Sy => ⟨Sx.trans Sy, hj, ?_⟩⟩
      rw [List.replicate_succ', List.map_append]
      rfl
    · rintro zs Hx ⟨Sx, _, rfl⟩ l hl
      refine laid hl fun H3 S3 e3 => ?_
      refine ⟨l, _, rfl, SqL.of e3, ?_⟩
      rw [trues]
      exact q1 H3 (Sx.trans S3)
theorem alike_none (T : Tx K mg) : FnOk P w K mg base CX0 2 T.f__law_alike T.d__law_alike P__law_alike (spAlike8 0) := by
  have no : ∀ vs H Q E, ¬ spAlike8 0 vs H Q E := fun vs H Q E h => by
    obtain ⟨m, x, y, _, hd, _⟩ := h
    omega
  exact ⟨fun vs H Q E h => absurd h (no vs H Q E), fun A outer s H args us vs Q E _ _ _ _ h => absurd h (no vs H Q E)⟩
theorem alike_all (T : Tx K mg) : ∀ n : Nat, FnOk P w K mg base CX0 (n + 2) T.f__law_alike T.d__law_alike P__law_alike (spAlike8 n)
  | 0 => alike_none T
  | n + 1 => alike_step T (alike_all T n)
end
theorem al_sg {H : Hp} {x y : V} {r : R8} (ok : r.ok) (h : SgT H x r) (g : SgT H y r) : AL H 2 x y := by
  obtain ⟨a, tm, rfl, h1, h2⟩ := h
  obtain ⟨b, tn, rfl, g1, g2⟩ := g
  exact .tup h1 g1 (by simp) (.cons (.int _) (.cons (.int _) (.cons (.tup h2 g2 (by rw [List.length_map]; have := ok.mks.le; omega) (al_strs _)) (.cons (.int _) (.cons (.bl _) .nil)))))
theorem al_sgs {H : Hp} : ∀ {xs ys : List V} {rs : List R8}, (∀ r ∈ rs, r.ok) → All2 (SgT H) xs rs → All2 (SgT H) ys rs → ALs H 2 xs ys
  | _, _, _, _, .nil, .nil => .nil
  | _, _, _, ok, .cons h t, .cons g u => .cons (al_sg (ok _ List.mem_cons_self) h g) (al_sgs (fun r hr => ok r (List.mem_cons_of_mem _ hr)) t u)
section
variable {P : Program} {w : World} {K : PySem.W.Frag} {mg : Str → Option Value} {base : Heap}
theorem LyT.ref {B D : Addr} {H : Hp} {u : V} {r : R8} (h : LyT B D H u r) : ∃ c, u = .ref c := by
  obtain ⟨a, _, _, rfl, _⟩ := h
  exact ⟨a, rfl⟩
set_option maxHeartbeats 8000000 in
theorem ok_law (T : Tx K mg) (kb : K.In base) : FnOk P w K mg base CX0 12 T.f_law T.d_law P_law (spLaw K) := by
  have G__law_at := (ok__law_at (P := P) (w := w) (base := base) T).mono (by decide : 2 ≤ 11)
  have G__law_names := (ok__law_names (P := P) (w := w) (base := base) T).mono (by decide : 3 ≤ 11)
  have G__law_rows := (ok__law_rows (P := P) (w := w) (base := base) T).mono (by decide : 8 ≤ 11)
  have G__law_lying := ok__law_lying (P := P) (w := w) (base := base) T kb
  have G__law_first := (ok__law_first (P := P) (w := w) (base := base) T).mono (by decide : 2 ≤ 11)
  have G_first_sight := (ok_first_sight (P := P) (w := w) (base := base) T).mono (by decide : 2 ≤ 11)
  have G__law_alike := (alike_all (P := P) (w := w) (base := base) T 4).mono (by decide : 6 ≤ 11)
  refine T.F_law.ok sc_law (fun vs H Q E h => ?_) (fun cdv A outer s H vs Q E hr h => ?_)
  · obtain ⟨a, ns, rfl, _⟩ := h
    rfl
  obtain ⟨sa, ss, rfl, hS, h63, q⟩ := h
  refine ⟨_,   (pss_cons (ps_set (i := 1) sc_law.nd rfl (Or.inl rfl) (pe_call G__law_names hr rfl T.m__law_names T.F__law_names.kp (b__law_names T) .nil pass0 (pa_cons (pv 0) pa_nil)))
    (pss_cons (ps_set (i := 2) sc_law.nd rfl (Or.inl rfl) (pe_call G__law_rows hr rfl T.m__law_rows T.F__law_rows.kp (b__law_rows T) .nil pass0 (pa_cons (pv 0) (pa_cons (pv 1) (pa_cons (pe_op op_mod (pe_call G__law_at hr rfl T.m__law_at T.F__law_at.kp (b__law_at T) .nil pass0 (pa_cons (pv 0) (pa_cons pe_int pa_nil))) pe_int) (pa_cons pe_int pa_nil))))))
    (pss_cons (ps_set (i := 3) sc_law.nd rfl (Or.inl rfl) (pe_call G__law_lying hr rfl T.m__law_lying T.F__law_lying.kp (b__law_lying T) .nil pass0 (pa_cons (pv 2) pa_nil)))
    (pss_cons (ps_set (i := 4) sc_law.nd rfl (Or.inl rfl) (pe_callTy call_list_of rfl T.z_list boot_list (pa_cons (pv 3) pa_nil)))
    (pss_cons (ps_set (i := 5) sc_law.nd rfl (Or.inl rfl) (pe_call G__law_first hr rfl T.m__law_first T.F__law_first.kp (b__law_first T) .nil pass0 (pa_cons (pv 2) pa_nil)))
    (pss_cons (ps_set (i := 6) sc_law.nd rfl (Or.inl rfl) (pe_call G_first_sight hr rfl T.m_first_sight T.F_first_sight.kp (b_first_sight T) .nil pass0 (pa_cons (pv 4) pa_nil)))
    (pss_cons (ps_if (PW.pt (pw_or (pt_not (pt_val (pe_call G__law_alike hr rfl T.m__law_alike T.F__law_alike.kp (b__law_alike T) .nil pass0 (pa_cons (pv 6) (pa_cons (pv 5) pa_nil))))) (pw_or1 (pt_cmpR (op_neI hr.units) (pv 4) (pv 3) (nomark _)))))
      (pss_one (ps_ret pe_bl))
      pss_nil)
    (pss_cons (ps_expr (pe_bm0 PySem.F.plainAttrs_list PySem.F.slot_list_clear PySem.F.type_list_clear mt_clear (pv 6)))
    (pss_one (ps_ret (pe_and (pe_call G__law_alike hr rfl T.m__law_alike T.F__law_alike.kp (b__law_alike T) .nil pass0 (pa_cons (pe_call G_first_sight hr rfl T.m_first_sight T.F_first_sight.kp (b_first_sight T) .nil pass0 (pa_cons (pv 4) pa_nil)) (pa_cons (pv 5) pa_nil))) (pe_one (pe_cmpR (op_eqI hr.units) (pv 4) (pv 3) (nomark _)))))))))))))), ?_⟩
  refine ⟨_, rfl, sa, ss, rfl, hS, h63, fun nl ns H1 S1 N1 => ?_⟩
  refine ⟨_, rfl, _, rfl, _, rfl, sa, ss, 0, rfl, hS.same S1, h63, by decide, fun z => ⟨_, _, rfl, rfl, (by show (0 : Int) < 9; decide), ?_⟩⟩
  have z9 := mod_lo z (m := 9) (by decide)
  obtain ⟨many, hmany⟩ : ∃ many : Nat, z % 9 = (many : Int) := ⟨(z % 9).toNat, by omega⟩
  refine ⟨sa, nl, ss, ns, many, 6, (by show [V.ref sa, V.ref nl, V.int (z % 9), V.int 6] = _; rw [hmany]; rfl), hS.same S1, h63, N1, by omega, by decide, fun rl us rs H2 S2 _ er RW rlen rok rnd => ?_⟩
  refine ⟨_, rfl, rl, rl, us, rs, rfl, er, RW, rok, by omega, fun ll ws H3 S3 nll ell LY => ?_⟩
  refine ⟨_, rfl, ll, _, rfl, .inl (SqL.of ell), fun hd hhd => ?_⟩
  refine laid hhd fun H4 S4 eh => ?_
  refine ⟨_, rfl, rl, rl, us, rs, rfl, S4 _ _ (S3 _ _ er), RW.map fun {_ _} z => z.same (S3.trans S4), by omega, rnd, fun dl out ds H5 S5 _ ed SG pd rd => ?_⟩
  have LY5 : All2 (LyT T.c_Card T.c_Whom H5) ws rs := LY.imp fun z => z.same (S4.trans S5)
  have eh5 := S5 _ _ eh
  have ell5 := S5 _ _ (S4 _ _ ell)
  have refs : ∀ u ∈ ws, ∃ c, u = .ref c := fun u hu => by
    obtain ⟨r, _, ly⟩ := LY5.mem hu
    exact ly.ref
  have dok : ∀ r ∈ ds, r.ok := fun r hr => rok r (pd.mem_iff.mp hr)
  have outl : out.length ≤ 16 := by
    rw [SG.len, pd.length_eq]
    omega
  refine ⟨_, rfl, hd, ws, rs, rfl, eh5, LY5, by omega, rnd, fun fl out2 fs H6 S6 nfl ef SG2 pf rf => ?_⟩
  obtain rfl : fs = ds := rising_one rf rd pf pd
  have al1 : AL H6 3 (.ref fl) (.ref dl) := .lst ef (S6 _ _ ed) (by omega) (al_sgs dok SG2 (SG.imp fun z => z.same S6))
  refine ⟨_, rfl, _, rfl, 3, _, _, rfl, by decide, al1, fun H7 S7 => ⟨_, rfl, iteF ?_⟩⟩
  refine ⟨_, rfl, _, rfl, hd, ll, ws, rfl, rfl, SqL.of (S7 _ _ (S6 _ _ eh5)), SqL.of (S7 _ _ (S6 _ _ ell5)), refs, _, rfl, iteF ?_⟩
  refine ⟨_, rfl, .inl ⟨rfl, _, SqL.of (S7 _ _ ef)⟩, fl, _, rfl, rfl, S7 _ _ ef, ?_⟩
  have S8 : Same H5 (upd H7 fl (.lst [])) := same_put (S6.trans S7) nfl _
  generalize upd H7 fl (.lst []) = H8 at *
  refine ⟨_, rfl, hd, ws, rs, rfl, S8 _ _ eh5, LY5.imp fun z => z.same S8, by omega, rnd, fun f2 out3 gs H9 S9 _ ef2 SG3 pg rg => ?_⟩
  obtain rfl : gs = fs := rising_one rg rd pg pd
  have S59 := S8.trans S9
  have al2 : AL H9 3 (.ref f2) (.ref dl) := .lst ef2 (S59 _ _ ed) (by omega) (al_sgs dok SG3 (SG.imp fun z => z.same S59))
  refine ⟨_, rfl, 3, _, _, rfl, by decide, al2, fun H10 S10 => ⟨_, rfl, iteT ?_⟩⟩
  exact ⟨_, rfl, _, rfl, hd, ll, ws, rfl, rfl, SqL.of (S10 _ _ (S59 _ _ eh5)), SqL.of (S10 _ _ (S59 _ _ ell5)), refs, q _⟩
end
theorem all_mk {l : PySem.W.OpenLaw} {w : World} {K : PySem.W.Frag} {h : Heap} {mg : Str → Option Value} {fa : Addr} (X : K.In h) (G : h.Ns mainGlobals mg) (hfa : mg "law" = some (.ref fa))
    {f1 : Addr} {od1 an1 : Option Addr} {sl1 : Array (Option Value)} {oc1 kV1 dc1 pm1 cd1 ct1 : Value}
    {f2 : Addr} {od2 an2 : Option Addr} {sl2 : Array (Option Value)} {oc2 kV2 dc2 pm2 cd2 ct2 : Value}
    {f3 : Addr} {od3 an3 : Option Addr} {sl3 : Array (Option Value)} {oc3 kV3 dc3 pm3 cd3 ct3 : Value}
    {f4 : Addr} {od4 an4 : Option Addr} {sl4 : Array (Option Value)} {oc4 kV4 dc4 pm4 cd4 ct4 : Value}
    {f5 : Addr} {od5 an5 : Option Addr} {sl5 : Array (Option Value)} {oc5 kV5 dc5 pm5 cd5 ct5 : Value}
    {f6 : Addr} {od6 an6 : Option Addr} {sl6 : Array (Option Value)} {oc6 kV6 dc6 pm6 cd6 ct6 : Value}
    {f7 : Addr} {od7 an7 : Option Addr} {sl7 : Array (Option Value)} {oc7 kV7 dc7 pm7 cd7 ct7 : Value}
    {f8 : Addr} {od8 an8 : Option Addr} {sl8 : Array (Option Value)} {oc8 kV8 dc8 pm8 cd8 ct8 : Value}
    {f9 : Addr} {od9 an9 : Option Addr} {sl9 : Array (Option Value)} {oc9 kV9 dc9 pm9 cd9 ct9 : Value}
    {f10 : Addr} {od10 an10 : Option Addr} {sl10 : Array (Option Value)} {oc10 kV10 dc10 pm10 cd10 ct10 : Value}
    {f11 : Addr} {od11 an11 : Option Addr} {sl11 : Array (Option Value)} {oc11 kV11 dc11 pm11 cd11 ct11 : Value}
    {f12 : Addr} {od12 an12 : Option Addr} {sl12 : Array (Option Value)} {oc12 kV12 dc12 pm12 cd12 ct12 : Value}
    {f13 : Addr} {od13 an13 : Option Addr} {sl13 : Array (Option Value)} {oc13 kV13 dc13 pm13 cd13 ct13 : Value}
    {f14 : Addr} {od14 an14 : Option Addr} {sl14 : Array (Option Value)} {oc14 kV14 dc14 pm14 cd14 ct14 : Value}
    {f15 : Addr} {od15 an15 : Option Addr} {sl15 : Array (Option Value)} {oc15 kV15 dc15 pm15 cd15 ct15 : Value}
    {f16 : Addr} {od16 an16 : Option Addr} {sl16 : Array (Option Value)} {oc16 kV16 dc16 pm16 cd16 ct16 : Value}
    {f17 : Addr} {od17 an17 : Option Addr} {sl17 : Array (Option Value)} {oc17 kV17 dc17 pm17 cd17 ct17 : Value}
    {f18 : Addr} {od18 an18 : Option Addr} {sl18 : Array (Option Value)} {oc18 kV18 dc18 pm18 cd18 ct18 : Value}
    {f19 : Addr} {od19 an19 : Option Addr} {sl19 : Array (Option Value)} {oc19 kV19 dc19 pm19 cd19 ct19 : Value}
    {f20 : Addr} {od20 an20 : Option Addr} {sl20 : Array (Option Value)} {oc20 kV20 dc20 pm20 cd20 ct20 : Value}
    {f21 : Addr} {od21 an21 : Option Addr} {sl21 : Array (Option Value)} {oc21 kV21 dc21 pm21 cd21 ct21 : Value}
    {f22 : Addr} {od22 an22 : Option Addr} {sl22 : Array (Option Value)} {oc22 kV22 dc22 pm22 cd22 ct22 : Value}
    {f23 : Addr} {od23 an23 : Option Addr} {sl23 : Array (Option Value)} {oc23 kV23 dc23 pm23 cd23 ct23 : Value}
    {f24 : Addr} {od24 an24 : Option Addr} {sl24 : Array (Option Value)} {oc24 kV24 dc24 pm24 cd24 ct24 : Value}
    {f25 : Addr} {od25 an25 : Option Addr} {sl25 : Array (Option Value)} {oc25 kV25 dc25 pm25 cd25 ct25 : Value}
    {f26 : Addr} {od26 an26 : Option Addr} {sl26 : Array (Option Value)} {oc26 kV26 dc26 pm26 cd26 ct26 : Value}
    {f27 : Addr} {od27 an27 : Option Addr} {sl27 : Array (Option Value)} {oc27 kV27 dc27 pm27 cd27 ct27 : Value}
    {f28 : Addr} {od28 an28 : Option Addr} {sl28 : Array (Option Value)} {oc28 kV28 dc28 pm28 cd28 ct28 : Value}
    {f29 : Addr} {od29 an29 : Option Addr} {sl29 : Array (Option Value)} {oc29 kV29 dc29 pm29 cd29 ct29 : Value}
    {f30 : Addr} {od30 an30 : Option Addr} {sl30 : Array (Option Value)} {oc30 kV30 dc30 pm30 cd30 ct30 : Value}
    {f31 : Addr} {od31 an31 : Option Addr} {sl31 : Array (Option Value)} {oc31 kV31 dc31 pm31 cd31 ct31 : Value}
    {f32 : Addr} {od32 an32 : Option Addr} {sl32 : Array (Option Value)} {oc32 kV32 dc32 pm32 cd32 ct32 : Value}
    {f33 : Addr} {od33 an33 : Option Addr} {sl33 : Array (Option Value)} {oc33 kV33 dc33 pm33 cd33 ct33 : Value}
    {f34 : Addr} {od34 an34 : Option Addr} {sl34 : Array (Option Value)} {oc34 kV34 dc34 pm34 cd34 ct34 : Value}
    {f35 : Addr} {od35 an35 : Option Addr} {sl35 : Array (Option Value)} {oc35 kV35 dc35 pm35 cd35 ct35 : Value}
    {f36 : Addr} {od36 an36 : Option Addr} {sl36 : Array (Option Value)} {oc36 kV36 dc36 pm36 cd36 ct36 : Value}
    {f37 : Addr} {od37 an37 : Option Addr} {sl37 : Array (Option Value)} {oc37 kV37 dc37 pm37 cd37 ct37 : Value}
    {f38 : Addr} {od38 an38 : Option Addr} {sl38 : Array (Option Value)} {oc38 kV38 dc38 pm38 cd38 ct38 : Value}
    {f39 : Addr} {od39 an39 : Option Addr} {sl39 : Array (Option Value)} {oc39 kV39 dc39 pm39 cd39 ct39 : Value}
    {f40 : Addr} {od40 an40 : Option Addr} {sl40 : Array (Option Value)} {oc40 kV40 dc40 pm40 cd40 ct40 : Value}
    {f41 : Addr} {od41 an41 : Option Addr} {sl41 : Array (Option Value)} {oc41 kV41 dc41 pm41 cd41 ct41 : Value}
    {f42 : Addr} {od42 an42 : Option Addr} {sl42 : Array (Option Value)} {oc42 kV42 dc42 pm42 cd42 ct42 : Value}
    {f43 : Addr} {od43 an43 : Option Addr} {sl43 : Array (Option Value)} {oc43 kV43 dc43 pm43 cd43 ct43 : Value}
    {f44 : Addr} {od44 an44 : Option Addr} {sl44 : Array (Option Value)} {oc44 kV44 dc44 pm44 cd44 ct44 : Value}
    {f45 : Addr} {od45 an45 : Option Addr} {sl45 : Array (Option Value)} {oc45 kV45 dc45 pm45 cd45 ct45 : Value}
    {f46 : Addr} {od46 an46 : Option Addr} {sl46 : Array (Option Value)} {oc46 kV46 dc46 pm46 cd46 ct46 : Value}
    {f47 : Addr} {od47 an47 : Option Addr} {sl47 : Array (Option Value)} {oc47 kV47 dc47 pm47 cd47 ct47 : Value}
    {C_Words : Addr}
    {C_Whom : Addr}
    {C_Card : Addr}
    {t_LETTERS : Tok}
    {t_FIGURES : Tok}
    {t_MOST_WORDS : Tok}
    {A_PARTS : Addr}
    {t_MOST_RULES : Tok}
    {A_SORTS : Addr}
    {A_CHANGES : Addr}
    {A_WHEN_KINDS : Addr}
    {A_DEED_KINDS : Addr}
    {A_PLAYER_KINDS : Addr}
    {A_TURNS : Addr}
    (aC_Words : PySem.W.nsIn K mainGlobals "Words" = some (some (.ref C_Words)))
    (aC_Whom : PySem.W.nsIn K mainGlobals "Whom" = some (some (.ref C_Whom)))
    (aC_Card : PySem.W.nsIn K mainGlobals "Card" = some (some (.ref C_Card)))
    (a1 : PySem.W.nsIn K mainGlobals "is_name" = some (some (.ref f1)))
    (l1 : K.lookup f1 = some ⟨oc1, od1, .func (PySem.W.fnOf "is_name" "is_name" (defArgs s_is_name) (defBody s_is_name) (defScope s_is_name) .none kV1 dc1 pm1 an1 cd1 ct1), sl1⟩)
    (c1 : PySem.W.codeIn K cd1 "is_name" = true)
    (k1 : PySem.W.keepIn K (.ref f1) = true)
    (a2 : PySem.W.nsIn K mainGlobals "is_number" = some (some (.ref f2)))
    (l2 : K.lookup f2 = some ⟨oc2, od2, .func (PySem.W.fnOf "is_number" "is_number" (defArgs s_is_number) (defBody s_is_number) (defScope s_is_number) .none kV2 dc2 pm2 an2 cd2 ct2), sl2⟩)
    (c2 : PySem.W.codeIn K cd2 "is_number" = true)
    (k2 : PySem.W.keepIn K (.ref f2) = true)
    (a3 : PySem.W.nsIn K mainGlobals "is_whole" = some (some (.ref f3)))
    (l3 : K.lookup f3 = some ⟨oc3, od3, .func (PySem.W.fnOf "is_whole" "is_whole" (defArgs s_is_whole) (defBody s_is_whole) (defScope s_is_whole) .none kV3 dc3 pm3 an3 cd3 ct3), sl3⟩)
    (c3 : PySem.W.codeIn K cd3 "is_whole" = true)
    (k3 : PySem.W.keepIn K (.ref f3) = true)
    (a4 : PySem.W.findIn K (.ref C_Words) "__init__" = some (some (.ref f4)))
    (i4 : PySem.W.isFn K (.ref f4) = true)
    (l4 : K.lookup f4 = some ⟨oc4, od4, .func (PySem.W.fnOf "__init__" "Words.__init__" (defArgs s_Words___init__) (defBody s_Words___init__) (defScope s_Words___init__) .none kV4 dc4 pm4 an4 cd4 ct4), sl4⟩)
    (c4 : PySem.W.codeIn K cd4 "Words.__init__" = true)
    (k4 : PySem.W.keepIn K (.ref f4) = true)
    (a5 : PySem.W.findIn K (.ref C_Words) "take" = some (some (.ref f5)))
    (i5 : PySem.W.isFn K (.ref f5) = true)
    (l5 : K.lookup f5 = some ⟨oc5, od5, .func (PySem.W.fnOf "take" "Words.take" (defArgs s_Words_take) (defBody s_Words_take) (defScope s_Words_take) .none kV5 dc5 pm5 an5 cd5 ct5), sl5⟩)
    (c5 : PySem.W.codeIn K cd5 "Words.take" = true)
    (k5 : PySem.W.keepIn K (.ref f5) = true)
    (a6 : PySem.W.findIn K (.ref C_Words) "take_one_of" = some (some (.ref f6)))
    (i6 : PySem.W.isFn K (.ref f6) = true)
    (l6 : K.lookup f6 = some ⟨oc6, od6, .func (PySem.W.fnOf "take_one_of" "Words.take_one_of" (defArgs s_Words_take_one_of) (defBody s_Words_take_one_of) (defScope s_Words_take_one_of) .none kV6 dc6 pm6 an6 cd6 ct6), sl6⟩)
    (c6 : PySem.W.codeIn K cd6 "Words.take_one_of" = true)
    (k6 : PySem.W.keepIn K (.ref f6) = true)
    (a7 : PySem.W.findIn K (.ref C_Words) "take_name" = some (some (.ref f7)))
    (i7 : PySem.W.isFn K (.ref f7) = true)
    (l7 : K.lookup f7 = some ⟨oc7, od7, .func (PySem.W.fnOf "take_name" "Words.take_name" (defArgs s_Words_take_name) (defBody s_Words_take_name) (defScope s_Words_take_name) .none kV7 dc7 pm7 an7 cd7 ct7), sl7⟩)
    (c7 : PySem.W.codeIn K cd7 "Words.take_name" = true)
    (k7 : PySem.W.keepIn K (.ref f7) = true)
    (a8 : PySem.W.findIn K (.ref C_Words) "take_number" = some (some (.ref f8)))
    (i8 : PySem.W.isFn K (.ref f8) = true)
    (l8 : K.lookup f8 = some ⟨oc8, od8, .func (PySem.W.fnOf "take_number" "Words.take_number" (defArgs s_Words_take_number) (defBody s_Words_take_number) (defScope s_Words_take_number) .none kV8 dc8 pm8 an8 cd8 ct8), sl8⟩)
    (c8 : PySem.W.codeIn K cd8 "Words.take_number" = true)
    (k8 : PySem.W.keepIn K (.ref f8) = true)
    (a9 : PySem.W.findIn K (.ref C_Words) "finish" = some (some (.ref f9)))
    (i9 : PySem.W.isFn K (.ref f9) = true)
    (l9 : K.lookup f9 = some ⟨oc9, od9, .func (PySem.W.fnOf "finish" "Words.finish" (defArgs s_Words_finish) (defBody s_Words_finish) (defScope s_Words_finish) .none kV9 dc9 pm9 an9 cd9 ct9), sl9⟩)
    (c9 : PySem.W.codeIn K cd9 "Words.finish" = true)
    (k9 : PySem.W.keepIn K (.ref f9) = true)
    (a10 : PySem.W.findIn K (.ref C_Whom) "__init__" = some (some (.ref f10)))
    (i10 : PySem.W.isFn K (.ref f10) = true)
    (l10 : K.lookup f10 = some ⟨oc10, od10, .func (PySem.W.fnOf "__init__" "Whom.__init__" (defArgs s_Whom___init__) (defBody s_Whom___init__) (defScope s_Whom___init__) .none kV10 dc10 pm10 an10 cd10 ct10), sl10⟩)
    (c10 : PySem.W.codeIn K cd10 "Whom.__init__" = true)
    (k10 : PySem.W.keepIn K (.ref f10) = true)
    (a11 : PySem.W.findIn K (.ref C_Whom) "told" = some (some (.ref f11)))
    (i11 : PySem.W.isFn K (.ref f11) = true)
    (l11 : K.lookup f11 = some ⟨oc11, od11, .func (PySem.W.fnOf "told" "Whom.told" (defArgs s_Whom_told) (defBody s_Whom_told) (defScope s_Whom_told) .none kV11 dc11 pm11 an11 cd11 ct11), sl11⟩)
    (c11 : PySem.W.codeIn K cd11 "Whom.told" = true)
    (k11 : PySem.W.keepIn K (.ref f11) = true)
    (a12 : PySem.W.nsIn K mainGlobals "take_whom" = some (some (.ref f12)))
    (l12 : K.lookup f12 = some ⟨oc12, od12, .func (PySem.W.fnOf "take_whom" "take_whom" (defArgs s_take_whom) (defBody s_take_whom) (defScope s_take_whom) .none kV12 dc12 pm12 an12 cd12 ct12), sl12⟩)
    (c12 : PySem.W.codeIn K cd12 "take_whom" = true)
    (k12 : PySem.W.keepIn K (.ref f12) = true)
    (a13 : PySem.W.nsIn K mainGlobals "take_value" = some (some (.ref f13)))
    (l13 : K.lookup f13 = some ⟨oc13, od13, .func (PySem.W.fnOf "take_value" "take_value" (defArgs s_take_value) (defBody s_take_value) (defScope s_take_value) .none kV13 dc13 pm13 an13 cd13 ct13), sl13⟩)
    (c13 : PySem.W.codeIn K cd13 "take_value" = true)
    (k13 : PySem.W.keepIn K (.ref f13) = true)
    (a14 : PySem.W.nsIn K mainGlobals "built" = some (some (.ref f14)))
    (l14 : K.lookup f14 = some ⟨oc14, od14, .func (PySem.W.fnOf "built" "built" (defArgs s_built) (defBody s_built) (defScope s_built) .none kV14 dc14 pm14 an14 cd14 ct14), sl14⟩)
    (c14 : PySem.W.codeIn K cd14 "built" = true)
    (k14 : PySem.W.keepIn K (.ref f14) = true)
    (a15 : PySem.W.nsIn K mainGlobals "first_sight" = some (some (.ref f15)))
    (l15 : K.lookup f15 = some ⟨oc15, od15, .func (PySem.W.fnOf "first_sight" "first_sight" (defArgs s_first_sight) (defBody s_first_sight) (defScope s_first_sight) .none kV15 dc15 pm15 an15 cd15 ct15), sl15⟩)
    (c15 : PySem.W.codeIn K cd15 "first_sight" = true)
    (k15 : PySem.W.keepIn K (.ref f15) = true)
    (a16 : PySem.W.findIn K (.ref C_Card) "__init__" = some (some (.ref f16)))
    (i16 : PySem.W.isFn K (.ref f16) = true)
    (l16 : K.lookup f16 = some ⟨oc16, od16, .func (PySem.W.fnOf "__init__" "Card.__init__" (defArgs s_Card___init__) (defBody s_Card___init__) (defScope s_Card___init__) .none kV16 dc16 pm16 an16 cd16 ct16), sl16⟩)
    (c16 : PySem.W.codeIn K cd16 "Card.__init__" = true)
    (k16 : PySem.W.keepIn K (.ref f16) = true)
    (a17 : PySem.W.findIn K (.ref C_Card) "__eq__" = some (some (.ref f17)))
    (i17 : PySem.W.isFn K (.ref f17) = true)
    (l17 : K.lookup f17 = some ⟨oc17, od17, .func (PySem.W.fnOf "__eq__" "Card.__eq__" (defArgs s_Card___eq__) (defBody s_Card___eq__) (defScope s_Card___eq__) .none kV17 dc17 pm17 an17 cd17 ct17), sl17⟩)
    (c17 : PySem.W.codeIn K cd17 "Card.__eq__" = true)
    (k17 : PySem.W.keepIn K (.ref f17) = true)
    (a18 : PySem.W.nsIn K mainGlobals "read_card" = some (some (.ref f18)))
    (l18 : K.lookup f18 = some ⟨oc18, od18, .func (PySem.W.fnOf "read_card" "read_card" (defArgs s_read_card) (defBody s_read_card) (defScope s_read_card) .none kV18 dc18 pm18 an18 cd18 ct18), sl18⟩)
    (c18 : PySem.W.codeIn K cd18 "read_card" = true)
    (k18 : PySem.W.keepIn K (.ref f18) = true)
    (a19 : PySem.W.nsIn K mainGlobals "read_marks" = some (some (.ref f19)))
    (l19 : K.lookup f19 = some ⟨oc19, od19, .func (PySem.W.fnOf "read_marks" "read_marks" (defArgs s_read_marks) (defBody s_read_marks) (defScope s_read_marks) .none kV19 dc19 pm19 an19 cd19 ct19), sl19⟩)
    (c19 : PySem.W.codeIn K cd19 "read_marks" = true)
    (k19 : PySem.W.keepIn K (.ref f19) = true)
    (a20 : PySem.W.nsIn K mainGlobals "read_rule" = some (some (.ref f20)))
    (l20 : K.lookup f20 = some ⟨oc20, od20, .func (PySem.W.fnOf "read_rule" "read_rule" (defArgs s_read_rule) (defBody s_read_rule) (defScope s_read_rule) .none kV20 dc20 pm20 an20 cd20 ct20), sl20⟩)
    (c20 : PySem.W.codeIn K cd20 "read_rule" = true)
    (k20 : PySem.W.keepIn K (.ref f20) = true)
    (a21 : PySem.W.nsIn K mainGlobals "take_hold" = some (some (.ref f21)))
    (l21 : K.lookup f21 = some ⟨oc21, od21, .func (PySem.W.fnOf "take_hold" "take_hold" (defArgs s_take_hold) (defBody s_take_hold) (defScope s_take_hold) .none kV21 dc21 pm21 an21 cd21 ct21), sl21⟩)
    (c21 : PySem.W.codeIn K cd21 "take_hold" = true)
    (k21 : PySem.W.keepIn K (.ref f21) = true)
    (a22 : PySem.W.nsIn K mainGlobals "take_change_value" = some (some (.ref f22)))
    (l22 : K.lookup f22 = some ⟨oc22, od22, .func (PySem.W.fnOf "take_change_value" "take_change_value" (defArgs s_take_change_value) (defBody s_take_change_value) (defScope s_take_change_value) .none kV22 dc22 pm22 an22 cd22 ct22), sl22⟩)
    (c22 : PySem.W.codeIn K cd22 "take_change_value" = true)
    (k22 : PySem.W.keepIn K (.ref f22) = true)
    (a23 : PySem.W.nsIn K mainGlobals "take_when" = some (some (.ref f23)))
    (l23 : K.lookup f23 = some ⟨oc23, od23, .func (PySem.W.fnOf "take_when" "take_when" (defArgs s_take_when) (defBody s_take_when) (defScope s_take_when) .none kV23 dc23 pm23 an23 cd23 ct23), sl23⟩)
    (c23 : PySem.W.codeIn K cd23 "take_when" = true)
    (k23 : PySem.W.keepIn K (.ref f23) = true)
    (a24 : PySem.W.nsIn K mainGlobals "take_instead" = some (some (.ref f24)))
    (l24 : K.lookup f24 = some ⟨oc24, od24, .func (PySem.W.fnOf "take_instead" "take_instead" (defArgs s_take_instead) (defBody s_take_instead) (defScope s_take_instead) .none kV24 dc24 pm24 an24 cd24 ct24), sl24⟩)
    (c24 : PySem.W.codeIn K cd24 "take_instead" = true)
    (k24 : PySem.W.keepIn K (.ref f24) = true)
    (a25 : PySem.W.nsIn K mainGlobals "take_turn_value" = some (some (.ref f25)))
    (l25 : K.lookup f25 = some ⟨oc25, od25, .func (PySem.W.fnOf "take_turn_value" "take_turn_value" (defArgs s_take_turn_value) (defBody s_take_turn_value) (defScope s_take_turn_value) .none kV25 dc25 pm25 an25 cd25 ct25), sl25⟩)
    (c25 : PySem.W.codeIn K cd25 "take_turn_value" = true)
    (k25 : PySem.W.keepIn K (.ref f25) = true)
    (a26 : PySem.W.nsIn K mainGlobals "take_may" = some (some (.ref f26)))
    (l26 : K.lookup f26 = some ⟨oc26, od26, .func (PySem.W.fnOf "take_may" "take_may" (defArgs s_take_may) (defBody s_take_may) (defScope s_take_may) .none kV26 dc26 pm26 an26 cd26 ct26), sl26⟩)
    (c26 : PySem.W.codeIn K cd26 "take_may" = true)
    (k26 : PySem.W.keepIn K (.ref f26) = true)
    (a27 : PySem.W.nsIn K mainGlobals "take_deed" = some (some (.ref f27)))
    (l27 : K.lookup f27 = some ⟨oc27, od27, .func (PySem.W.fnOf "take_deed" "take_deed" (defArgs s_take_deed) (defBody s_take_deed) (defScope s_take_deed) .none kV27 dc27 pm27 an27 cd27 ct27), sl27⟩)
    (c27 : PySem.W.codeIn K cd27 "take_deed" = true)
    (k27 : PySem.W.keepIn K (.ref f27) = true)
    (a28 : PySem.W.nsIn K mainGlobals "take_amount" = some (some (.ref f28)))
    (l28 : K.lookup f28 = some ⟨oc28, od28, .func (PySem.W.fnOf "take_amount" "take_amount" (defArgs s_take_amount) (defBody s_take_amount) (defScope s_take_amount) .none kV28 dc28 pm28 an28 cd28 ct28), sl28⟩)
    (c28 : PySem.W.codeIn K cd28 "take_amount" = true)
    (k28 : PySem.W.keepIn K (.ref f28) = true)
    (a29 : PySem.W.nsIn K mainGlobals "show_card" = some (some (.ref f29)))
    (l29 : K.lookup f29 = some ⟨oc29, od29, .func (PySem.W.fnOf "show_card" "show_card" (defArgs s_show_card) (defBody s_show_card) (defScope s_show_card) .none kV29 dc29 pm29 an29 cd29 ct29), sl29⟩)
    (c29 : PySem.W.codeIn K cd29 "show_card" = true)
    (k29 : PySem.W.keepIn K (.ref f29) = true)
    (a30 : PySem.W.nsIn K mainGlobals "show_marks" = some (some (.ref f30)))
    (l30 : K.lookup f30 = some ⟨oc30, od30, .func (PySem.W.fnOf "show_marks" "show_marks" (defArgs s_show_marks) (defBody s_show_marks) (defScope s_show_marks) .none kV30 dc30 pm30 an30 cd30 ct30), sl30⟩)
    (c30 : PySem.W.codeIn K cd30 "show_marks" = true)
    (k30 : PySem.W.keepIn K (.ref f30) = true)
    (a31 : PySem.W.nsIn K mainGlobals "show_rule" = some (some (.ref f31)))
    (l31 : K.lookup f31 = some ⟨oc31, od31, .func (PySem.W.fnOf "show_rule" "show_rule" (defArgs s_show_rule) (defBody s_show_rule) (defScope s_show_rule) .none kV31 dc31 pm31 an31 cd31 ct31), sl31⟩)
    (c31 : PySem.W.codeIn K cd31 "show_rule" = true)
    (k31 : PySem.W.keepIn K (.ref f31) = true)
    (a32 : PySem.W.nsIn K mainGlobals "show_value" = some (some (.ref f32)))
    (l32 : K.lookup f32 = some ⟨oc32, od32, .func (PySem.W.fnOf "show_value" "show_value" (defArgs s_show_value) (defBody s_show_value) (defScope s_show_value) .none kV32 dc32 pm32 an32 cd32 ct32), sl32⟩)
    (c32 : PySem.W.codeIn K cd32 "show_value" = true)
    (k32 : PySem.W.keepIn K (.ref f32) = true)
    (a33 : PySem.W.nsIn K mainGlobals "show_deed" = some (some (.ref f33)))
    (l33 : K.lookup f33 = some ⟨oc33, od33, .func (PySem.W.fnOf "show_deed" "show_deed" (defArgs s_show_deed) (defBody s_show_deed) (defScope s_show_deed) .none kV33 dc33 pm33 an33 cd33 ct33), sl33⟩)
    (c33 : PySem.W.codeIn K cd33 "show_deed" = true)
    (k33 : PySem.W.keepIn K (.ref f33) = true)
    (a34 : PySem.W.nsIn K mainGlobals "_law_at" = some (some (.ref f34)))
    (l34 : K.lookup f34 = some ⟨oc34, od34, .func (PySem.W.fnOf "_law_at" "_law_at" (defArgs s__law_at) (defBody s__law_at) (defScope s__law_at) .none kV34 dc34 pm34 an34 cd34 ct34), sl34⟩)
    (c34 : PySem.W.codeIn K cd34 "_law_at" = true)
    (k34 : PySem.W.keepIn K (.ref f34) = true)
    (a35 : PySem.W.nsIn K mainGlobals "_law_names" = some (some (.ref f35)))
    (l35 : K.lookup f35 = some ⟨oc35, od35, .func (PySem.W.fnOf "_law_names" "_law_names" (defArgs s__law_names) (defBody s__law_names) (defScope s__law_names) .none kV35 dc35 pm35 an35 cd35 ct35), sl35⟩)
    (c35 : PySem.W.codeIn K cd35 "_law_names" = true)
    (k35 : PySem.W.keepIn K (.ref f35) = true)
    (a36 : PySem.W.nsIn K mainGlobals "_law_whom" = some (some (.ref f36)))
    (l36 : K.lookup f36 = some ⟨oc36, od36, .func (PySem.W.fnOf "_law_whom" "_law_whom" (defArgs s__law_whom) (defBody s__law_whom) (defScope s__law_whom) .none kV36 dc36 pm36 an36 cd36 ct36), sl36⟩)
    (c36 : PySem.W.codeIn K cd36 "_law_whom" = true)
    (k36 : PySem.W.keepIn K (.ref f36) = true)
    (a37 : PySem.W.nsIn K mainGlobals "_law_words" = some (some (.ref f37)))
    (l37 : K.lookup f37 = some ⟨oc37, od37, .func (PySem.W.fnOf "_law_words" "_law_words" (defArgs s__law_words) (defBody s__law_words) (defScope s__law_words) .none kV37 dc37 pm37 an37 cd37 ct37), sl37⟩)
    (c37 : PySem.W.codeIn K cd37 "_law_words" = true)
    (k37 : PySem.W.keepIn K (.ref f37) = true)
    (a38 : PySem.W.nsIn K mainGlobals "_law_hold" = some (some (.ref f38)))
    (l38 : K.lookup f38 = some ⟨oc38, od38, .func (PySem.W.fnOf "_law_hold" "_law_hold" (defArgs s__law_hold) (defBody s__law_hold) (defScope s__law_hold) .none kV38 dc38 pm38 an38 cd38 ct38), sl38⟩)
    (c38 : PySem.W.codeIn K cd38 "_law_hold" = true)
    (k38 : PySem.W.keepIn K (.ref f38) = true)
    (a39 : PySem.W.nsIn K mainGlobals "_law_rule_text" = some (some (.ref f39)))
    (l39 : K.lookup f39 = some ⟨oc39, od39, .func (PySem.W.fnOf "_law_rule_text" "_law_rule_text" (defArgs s__law_rule_text) (defBody s__law_rule_text) (defScope s__law_rule_text) .none kV39 dc39 pm39 an39 cd39 ct39), sl39⟩)
    (c39 : PySem.W.codeIn K cd39 "_law_rule_text" = true)
    (k39 : PySem.W.keepIn K (.ref f39) = true)
    (a40 : PySem.W.nsIn K mainGlobals "_law_rules" = some (some (.ref f40)))
    (l40 : K.lookup f40 = some ⟨oc40, od40, .func (PySem.W.fnOf "_law_rules" "_law_rules" (defArgs s__law_rules) (defBody s__law_rules) (defScope s__law_rules) .none kV40 dc40 pm40 an40 cd40 ct40), sl40⟩)
    (c40 : PySem.W.codeIn K cd40 "_law_rules" = true)
    (k40 : PySem.W.keepIn K (.ref f40) = true)
    (a41 : PySem.W.nsIn K mainGlobals "_law_rows" = some (some (.ref f41)))
    (l41 : K.lookup f41 = some ⟨oc41, od41, .func (PySem.W.fnOf "_law_rows" "_law_rows" (defArgs s__law_rows) (defBody s__law_rows) (defScope s__law_rows) .none kV41 dc41 pm41 an41 cd41 ct41), sl41⟩)
    (c41 : PySem.W.codeIn K cd41 "_law_rows" = true)
    (k41 : PySem.W.keepIn K (.ref f41) = true)
    (a42 : PySem.W.nsIn K mainGlobals "_law_card" = some (some (.ref f42)))
    (l42 : K.lookup f42 = some ⟨oc42, od42, .func (PySem.W.fnOf "_law_card" "_law_card" (defArgs s__law_card) (defBody s__law_card) (defScope s__law_card) .none kV42 dc42 pm42 an42 cd42 ct42), sl42⟩)
    (c42 : PySem.W.codeIn K cd42 "_law_card" = true)
    (k42 : PySem.W.keepIn K (.ref f42) = true)
    (a43 : PySem.W.nsIn K mainGlobals "_law_lying" = some (some (.ref f43)))
    (l43 : K.lookup f43 = some ⟨oc43, od43, .func (PySem.W.fnOf "_law_lying" "_law_lying" (defArgs s__law_lying) (defBody s__law_lying) (defScope s__law_lying) .none kV43 dc43 pm43 an43 cd43 ct43), sl43⟩)
    (c43 : PySem.W.codeIn K cd43 "_law_lying" = true)
    (k43 : PySem.W.keepIn K (.ref f43) = true)
    (a44 : PySem.W.nsIn K mainGlobals "_law_whole" = some (some (.ref f44)))
    (l44 : K.lookup f44 = some ⟨oc44, od44, .func (PySem.W.fnOf "_law_whole" "_law_whole" (defArgs s__law_whole) (defBody s__law_whole) (defScope s__law_whole) .none kV44 dc44 pm44 an44 cd44 ct44), sl44⟩)
    (c44 : PySem.W.codeIn K cd44 "_law_whole" = true)
    (k44 : PySem.W.keepIn K (.ref f44) = true)
    (a45 : PySem.W.nsIn K mainGlobals "_law_alike" = some (some (.ref f45)))
    (l45 : K.lookup f45 = some ⟨oc45, od45, .func (PySem.W.fnOf "_law_alike" "_law_alike" (defArgs s__law_alike) (defBody s__law_alike) (defScope s__law_alike) .none kV45 dc45 pm45 an45 cd45 ct45), sl45⟩)
    (c45 : PySem.W.codeIn K cd45 "_law_alike" = true)
    (k45 : PySem.W.keepIn K (.ref f45) = true)
    (a46 : PySem.W.nsIn K mainGlobals "_law_first" = some (some (.ref f46)))
    (l46 : K.lookup f46 = some ⟨oc46, od46, .func (PySem.W.fnOf "_law_first" "_law_first" (defArgs s__law_first) (defBody s__law_first) (defScope s__law_first) .none kV46 dc46 pm46 an46 cd46 ct46), sl46⟩)
    (c46 : PySem.W.codeIn K cd46 "_law_first" = true)
    (k46 : PySem.W.keepIn K (.ref f46) = true)
    (a47 : PySem.W.nsIn K mainGlobals "law" = some (some (.ref f47)))
    (l47 : K.lookup f47 = some ⟨oc47, od47, .func (PySem.W.fnOf "law" "law" (defArgs s_law) (defBody s_law) (defScope s_law) .none kV47 dc47 pm47 an47 cd47 ct47), sl47⟩)
    (c47 : PySem.W.codeIn K cd47 "law" = true)
    (k47 : PySem.W.keepIn K (.ref f47) = true)
    (pg_Words : PySem.W.plainGet K C_Words Str.empty = true)
    (hd_Words : PySem.W.hasDictIn K C_Words = true)
    (po_Words : PySem.W.plainOver K C_Words = true)
    (sa_Words : PySem.W.findIn K (.ref C_Words) "__setattr__" = some (some (.builtin "object.__setattr__")))
    (mk_Words : PySem.W.makesIn K C_Words = true)
    (kc_Words : PySem.W.keepIn K (.ref C_Words) = true)
    (n_Words_words : PySem.W.findIn K (.ref C_Words) "words" = some none)
    (n_Words_place : PySem.W.findIn K (.ref C_Words) "place" = some none)
    (pg_Whom : PySem.W.plainGet K C_Whom Str.empty = true)
    (hd_Whom : PySem.W.hasDictIn K C_Whom = true)
    (po_Whom : PySem.W.plainOver K C_Whom = true)
    (sa_Whom : PySem.W.findIn K (.ref C_Whom) "__setattr__" = some (some (.builtin "object.__setattr__")))
    (mk_Whom : PySem.W.makesIn K C_Whom = true)
    (kc_Whom : PySem.W.keepIn K (.ref C_Whom) = true)
    (n_Whom_word : PySem.W.findIn K (.ref C_Whom) "word" = some none)
    (n_Whom_value : PySem.W.findIn K (.ref C_Whom) "value" = some none)
    (n_Whom_parts : PySem.W.findIn K (.ref C_Whom) "parts" = some none)
    (q1_Whom : PySem.W.findIn K (.ref C_Whom) "__class__" = some (some (.builtin "object.__class__")))
    (q2_Whom : PySem.W.specialIn K (.builtin "object.__class__") "__get__" = some (some (.builtin "getset_descriptor.__get__")))
    (q3_Whom : PySem.W.takesIn K (.builtin "object.__class__") = some true)
    (q4_Whom : PySem.W.mroIn K C_Whom (.type "object") = some true)
    (q5_Whom : PySem.W.kitOne K (.ref C_Whom) (.type "str") = some false)
    (q6_Whom : PySem.W.kitOne K (.ref C_Whom) (.type "int") = some false)
    (q7_Whom : PySem.W.kitOne K (.ref C_Whom) (.type "tuple") = some false)
    (q8_Whom : PySem.W.kitOne K (.ref C_Whom) (.type "list") = some false)
    (q9_Whom : PySem.W.kitOne K (.type "str") (.ref C_Whom) = some false)
    (q10_Whom : PySem.W.kitOne K (.type "int") (.ref C_Whom) = some false)
    (pg_Card : PySem.W.plainGet K C_Card Str.empty = true)
    (hd_Card : PySem.W.hasDictIn K C_Card = true)
    (po_Card : PySem.W.plainOver K C_Card = true)
    (sa_Card : PySem.W.findIn K (.ref C_Card) "__setattr__" = some (some (.builtin "object.__setattr__")))
    (mk_Card : PySem.W.makesIn K C_Card = true)
    (kc_Card : PySem.W.keepIn K (.ref C_Card) = true)
    (n_Card_name : PySem.W.findIn K (.ref C_Card) "name" = some none)
    (n_Card_cost : PySem.W.findIn K (.ref C_Card) "cost" = some none)
    (n_Card_force : PySem.W.findIn K (.ref C_Card) "force" = some none)
    (n_Card_marks : PySem.W.findIn K (.ref C_Card) "marks" = some none)
    (n_Card_rules : PySem.W.findIn K (.ref C_Card) "rules" = some none)
    (z_all : PySem.W.nsIn K mainGlobals "all" = some none)
    (z_bool : PySem.W.nsIn K mainGlobals "bool" = some none)
    (z_int : PySem.W.nsIn K mainGlobals "int" = some none)
    (z_isinstance : PySem.W.nsIn K mainGlobals "isinstance" = some none)
    (z_len : PySem.W.nsIn K mainGlobals "len" = some none)
    (z_list : PySem.W.nsIn K mainGlobals "list" = some none)
    (z_max : PySem.W.nsIn K mainGlobals "max" = some none)
    (z_min : PySem.W.nsIn K mainGlobals "min" = some none)
    (z_range : PySem.W.nsIn K mainGlobals "range" = some none)
    (z_reversed : PySem.W.nsIn K mainGlobals "reversed" = some none)
    (z_set : PySem.W.nsIn K mainGlobals "set" = some none)
    (z_sorted : PySem.W.nsIn K mainGlobals "sorted" = some none)
    (z_str : PySem.W.nsIn K mainGlobals "str" = some none)
    (z_tuple : PySem.W.nsIn K mainGlobals "tuple" = some none)
    (g_LETTERS : PySem.W.nsIn K mainGlobals "LETTERS" = some (some (.str V_LETTERS t_LETTERS)))
    (g_FIGURES : PySem.W.nsIn K mainGlobals "FIGURES" = some (some (.str V_FIGURES t_FIGURES)))
    (g_MOST_WORDS : PySem.W.nsIn K mainGlobals "MOST_WORDS" = some (some (.int 9 t_MOST_WORDS)))
    (g_PARTS : PySem.W.nsIn K mainGlobals "PARTS" = some (some (.ref A_PARTS)))
    (l_PARTS : KTD.tabLook (KTD.datLooks fun b => K.lookup b) (fun b => K.lookup b) A_PARTS D_PARTS = true)
    (g_MOST_RULES : PySem.W.nsIn K mainGlobals "MOST_RULES" = some (some (.int 3 t_MOST_RULES)))
    (g_SORTS : PySem.W.nsIn K mainGlobals "SORTS" = some (some (.ref A_SORTS)))
    (l_SORTS : TupK K A_SORTS ["hold", "when", "instead", "may"])
    (g_CHANGES : PySem.W.nsIn K mainGlobals "CHANGES" = some (some (.ref A_CHANGES)))
    (l_CHANGES : TupK K A_CHANGES ["mute", "steal", "gain", "lack", "be", "more", "less", "per"])
    (g_WHEN_KINDS : PySem.W.nsIn K mainGlobals "WHEN_KINDS" = some (some (.ref A_WHEN_KINDS)))
    (l_WHEN_KINDS : TupK K A_WHEN_KINDS ["come", "leave", "hurt", "gain", "lack", "lose", "score", "draw"])
    (g_DEED_KINDS : PySem.W.nsIn K mainGlobals "DEED_KINDS" = some (some (.ref A_DEED_KINDS)))
    (l_DEED_KINDS : TupK K A_DEED_KINDS ["leave", "hurt", "gain", "lack", "lose", "score", "draw"])
    (g_PLAYER_KINDS : PySem.W.nsIn K mainGlobals "PLAYER_KINDS" = some (some (.ref A_PLAYER_KINDS)))
    (l_PLAYER_KINDS : TupK K A_PLAYER_KINDS ["lose", "score", "draw"])
    (g_TURNS : PySem.W.nsIn K mainGlobals "TURNS" = some (some (.ref A_TURNS)))
    (l_TURNS : TabK K A_TURNS D_TURNS) :
    ∃ fd : FuncData, (∀ (s : Shared) (v : Value), BindsTo s fd ⟨[v], []⟩ [("_law_script", v)]) ∧ ∀ base : Heap, K.In base → base.Ns mainGlobals mg → FnOk l.prog w K mg base CX0 12 fa fd ["_law_script"] (spLaw K) := by
  have e := hfa.symm.trans (PySem.W.mg_of X G a47)
  cases e
  let T : Tx K mg := {
    f_is_name := f1,
    d_is_name := _,
    F_is_name := fun_mk (st := s_is_name) l1 c1 k1,
    m_is_name := PySem.W.mg_of X G a1,
    f_is_number := f2,
    d_is_number := _,
    F_is_number := fun_mk (st := s_is_number) l2 c2 k2,
    m_is_number := PySem.W.mg_of X G a2,
    f_is_whole := f3,
    d_is_whole := _,
    F_is_whole := fun_mk (st := s_is_whole) l3 c3 k3,
    m_is_whole := PySem.W.mg_of X G a3,
    f_Words___init__ := f4,
    d_Words___init__ := _,
    F_Words___init__ := fun_mk (st := s_Words___init__) l4 c4 k4,
    f_Words_take := f5,
    d_Words_take := _,
    F_Words_take := fun_mk (st := s_Words_take) l5 c5 k5,
    f_Words_take_one_of := f6,
    d_Words_take_one_of := _,
    F_Words_take_one_of := fun_mk (st := s_Words_take_one_of) l6 c6 k6,
    f_Words_take_name := f7,
    d_Words_take_name := _,
    F_Words_take_name := fun_mk (st := s_Words_take_name) l7 c7 k7,
    f_Words_take_number := f8,
    d_Words_take_number := _,
    F_Words_take_number := fun_mk (st := s_Words_take_number) l8 c8 k8,
    f_Words_finish := f9,
    d_Words_finish := _,
    F_Words_finish := fun_mk (st := s_Words_finish) l9 c9 k9,
    f_Whom___init__ := f10,
    d_Whom___init__ := _,
    F_Whom___init__ := fun_mk (st := s_Whom___init__) l10 c10 k10,
    f_Whom_told := f11,
    d_Whom_told := _,
    F_Whom_told := fun_mk (st := s_Whom_told) l11 c11 k11,
    f_take_whom := f12,
    d_take_whom := _,
    F_take_whom := fun_mk (st := s_take_whom) l12 c12 k12,
    m_take_whom := PySem.W.mg_of X G a12,
    f_take_value := f13,
    d_take_value := _,
    F_take_value := fun_mk (st := s_take_value) l13 c13 k13,
    m_take_value := PySem.W.mg_of X G a13,
    f_built := f14,
    d_built := _,
    F_built := fun_mk (st := s_built) l14 c14 k14,
    m_built := PySem.W.mg_of X G a14,
    f_first_sight := f15,
    d_first_sight := _,
    F_first_sight := fun_mk (st := s_first_sight) l15 c15 k15,
    m_first_sight := PySem.W.mg_of X G a15,
    f_Card___init__ := f16,
    d_Card___init__ := _,
    F_Card___init__ := fun_mk (st := s_Card___init__) l16 c16 k16,
    f_Card___eq__ := f17,
    d_Card___eq__ := _,
    F_Card___eq__ := fun_mk (st := s_Card___eq__) l17 c17 k17,
    f_read_card := f18,
    d_read_card := _,
    F_read_card := fun_mk (st := s_read_card) l18 c18 k18,
    m_read_card := PySem.W.mg_of X G a18,
    f_read_marks := f19,
    d_read_marks := _,
    F_read_marks := fun_mk (st := s_read_marks) l19 c19 k19,
    m_read_marks := PySem.W.mg_of X G a19,
    f_read_rule := f20,
    d_read_rule := _,
    F_read_rule := fun_mk (st := s_read_rule) l20 c20 k20,
    m_read_rule := PySem.W.mg_of X G a20,
    f_take_hold := f21,
    d_take_hold := _,
    F_take_hold := fun_mk (st := s_take_hold) l21 c21 k21,
    m_take_hold := PySem.W.mg_of X G a21,
    f_take_change_value := f22,
    d_take_change_value := _,
    F_take_change_value := fun_mk (st := s_take_change_value) l22 c22 k22,
    m_take_change_value := PySem.W.mg_of X G a22,
    f_take_when := f23,
    d_take_when := _,
    F_take_when := fun_mk (st := s_take_when) l23 c23 k23,
    m_take_when := PySem.W.mg_of X G a23,
    f_take_instead := f24,
    d_take_instead := _,
    F_take_instead := fun_mk (st := s_take_instead) l24 c24 k24,
    m_take_instead := PySem.W.mg_of X G a24,
    f_take_turn_value := f25,
    d_take_turn_value := _,
    F_take_turn_value := fun_mk (st := s_take_turn_value) l25 c25 k25,
    m_take_turn_value := PySem.W.mg_of X G a25,
    f_take_may := f26,
    d_take_may := _,
    F_take_may := fun_mk (st := s_take_may) l26 c26 k26,
    m_take_may := PySem.W.mg_of X G a26,
    f_take_deed := f27,
    d_take_deed := _,
    F_take_deed := fun_mk (st := s_take_deed) l27 c27 k27,
    m_take_deed := PySem.W.mg_of X G a27,
    f_take_amount := f28,
    d_take_amount := _,
    F_take_amount := fun_mk (st := s_take_amount) l28 c28 k28,
    m_take_amount := PySem.W.mg_of X G a28,
    f_show_card := f29,
    d_show_card := _,
    F_show_card := fun_mk (st := s_show_card) l29 c29 k29,
    m_show_card := PySem.W.mg_of X G a29,
    f_show_marks := f30,
    d_show_marks := _,
    F_show_marks := fun_mk (st := s_show_marks) l30 c30 k30,
    m_show_marks := PySem.W.mg_of X G a30,
    f_show_rule := f31,
    d_show_rule := _,
    F_show_rule := fun_mk (st := s_show_rule) l31 c31 k31,
    m_show_rule := PySem.W.mg_of X G a31,
    f_show_value := f32,
    d_show_value := _,
    F_show_value := fun_mk (st := s_show_value) l32 c32 k32,
    m_show_value := PySem.W.mg_of X G a32,
    f_show_deed := f33,
    d_show_deed := _,
    F_show_deed := fun_mk (st := s_show_deed) l33 c33 k33,
    m_show_deed := PySem.W.mg_of X G a33,
    f__law_at := f34,
    d__law_at := _,
    F__law_at := fun_mk (st := s__law_at) l34 c34 k34,
    m__law_at := PySem.W.mg_of X G a34,
    f__law_names := f35,
    d__law_names := _,
    F__law_names := fun_mk (st := s__law_names) l35 c35 k35,
    m__law_names := PySem.W.mg_of X G a35,
    f__law_whom := f36,
    d__law_whom := _,
    F__law_whom := fun_mk (st := s__law_whom) l36 c36 k36,
    m__law_whom := PySem.W.mg_of X G a36,
    f__law_words := f37,
    d__law_words := _,
    F__law_words := fun_mk (st := s__law_words) l37 c37 k37,
    m__law_words := PySem.W.mg_of X G a37,
    f__law_hold := f38,
    d__law_hold := _,
    F__law_hold := fun_mk (st := s__law_hold) l38 c38 k38,
    m__law_hold := PySem.W.mg_of X G a38,
    f__law_rule_text := f39,
    d__law_rule_text := _,
    F__law_rule_text := fun_mk (st := s__law_rule_text) l39 c39 k39,
    m__law_rule_text := PySem.W.mg_of X G a39,
    f__law_rules := f40,
    d__law_rules := _,
    F__law_rules := fun_mk (st := s__law_rules) l40 c40 k40,
    m__law_rules := PySem.W.mg_of X G a40,
    f__law_rows := f41,
    d__law_rows := _,
    F__law_rows := fun_mk (st := s__law_rows) l41 c41 k41,
    m__law_rows := PySem.W.mg_of X G a41,
    f__law_card := f42,
    d__law_card := _,
    F__law_card := fun_mk (st := s__law_card) l42 c42 k42,
    m__law_card := PySem.W.mg_of X G a42,
    f__law_lying := f43,
    d__law_lying := _,
    F__law_lying := fun_mk (st := s__law_lying) l43 c43 k43,
    m__law_lying := PySem.W.mg_of X G a43,
    f__law_whole := f44,
    d__law_whole := _,
    F__law_whole := fun_mk (st := s__law_whole) l44 c44 k44,
    m__law_whole := PySem.W.mg_of X G a44,
    f__law_alike := f45,
    d__law_alike := _,
    F__law_alike := fun_mk (st := s__law_alike) l45 c45 k45,
    m__law_alike := PySem.W.mg_of X G a45,
    f__law_first := f46,
    d__law_first := _,
    F__law_first := fun_mk (st := s__law_first) l46 c46 k46,
    m__law_first := PySem.W.mg_of X G a46,
    f_law := fa,
    d_law := _,
    F_law := fun_mk (st := s_law) l47 c47 k47,
    m_law := PySem.W.mg_of X G a47,
    c_Words := C_Words,
    cl_Words := ⟨pg_Words, hd_Words, po_Words, sa_Words⟩,
    m_Words := PySem.W.mg_of X G aC_Words,
    Mk_Words := ⟨mk_Words, a4, i4, kc_Words⟩,
    M_Words_take := ⟨a5, i5, k5⟩,
    M_Words_take_one_of := ⟨a6, i6, k6⟩,
    M_Words_take_name := ⟨a7, i7, k7⟩,
    M_Words_take_number := ⟨a8, i8, k8⟩,
    M_Words_finish := ⟨a9, i9, k9⟩,
    n_Words_words := n_Words_words,
    n_Words_place := n_Words_place,
    c_Whom := C_Whom,
    cl_Whom := ⟨pg_Whom, hd_Whom, po_Whom, sa_Whom⟩,
    m_Whom := PySem.W.mg_of X G aC_Whom,
    Mk_Whom := ⟨mk_Whom, a10, i10, kc_Whom⟩,
    M_Whom_told := ⟨a11, i11, k11⟩,
    n_Whom_word := n_Whom_word,
    n_Whom_value := n_Whom_value,
    n_Whom_parts := n_Whom_parts,
    i_Whom := ⟨q1_Whom, q2_Whom, q3_Whom, q4_Whom, q5_Whom, q6_Whom, q7_Whom, q8_Whom, q9_Whom, q10_Whom⟩,
    c_Card := C_Card,
    cl_Card := ⟨pg_Card, hd_Card, po_Card, sa_Card⟩,
    m_Card := PySem.W.mg_of X G aC_Card,
    Mk_Card := ⟨mk_Card, a16, i16, kc_Card⟩,
    M_Card___eq__ := ⟨a17, i17, k17⟩,
    n_Card_name := n_Card_name,
    n_Card_cost := n_Card_cost,
    n_Card_force := n_Card_force,
    n_Card_marks := n_Card_marks,
    n_Card_rules := n_Card_rules,
    z_all := PySem.W.mg_none_of X G z_all,
    z_bool := PySem.W.mg_none_of X G z_bool,
    z_int := PySem.W.mg_none_of X G z_int,
    z_isinstance := PySem.W.mg_none_of X G z_isinstance,
    z_len := PySem.W.mg_none_of X G z_len,
    z_list := PySem.W.mg_none_of X G z_list,
    z_max := PySem.W.mg_none_of X G z_max,
    z_min := PySem.W.mg_none_of X G z_min,
    z_range := PySem.W.mg_none_of X G z_range,
    z_reversed := PySem.W.mg_none_of X G z_reversed,
    z_set := PySem.W.mg_none_of X G z_set,
    z_sorted := PySem.W.mg_none_of X G z_sorted,
    z_str := PySem.W.mg_none_of X G z_str,
    z_tuple := PySem.W.mg_none_of X G z_tuple,
    k_LETTERS := t_LETTERS,
    g_LETTERS := PySem.W.mg_of X G g_LETTERS,
    k_FIGURES := t_FIGURES,
    g_FIGURES := PySem.W.mg_of X G g_FIGURES,
    k_MOST_WORDS := t_MOST_WORDS,
    g_MOST_WORDS := PySem.W.mg_of X G g_MOST_WORDS,
    a_PARTS := A_PARTS,
    g_PARTS := PySem.W.mg_of X G g_PARTS,
    l_PARTS := l_PARTS,
    k_MOST_RULES := t_MOST_RULES,
    g_MOST_RULES := PySem.W.mg_of X G g_MOST_RULES,
    a_SORTS := A_SORTS,
    g_SORTS := PySem.W.mg_of X G g_SORTS,
    l_SORTS := l_SORTS,
    a_CHANGES := A_CHANGES,
    g_CHANGES := PySem.W.mg_of X G g_CHANGES,
    l_CHANGES := l_CHANGES,
    a_WHEN_KINDS := A_WHEN_KINDS,
    g_WHEN_KINDS := PySem.W.mg_of X G g_WHEN_KINDS,
    l_WHEN_KINDS := l_WHEN_KINDS,
    a_DEED_KINDS := A_DEED_KINDS,
    g_DEED_KINDS := PySem.W.mg_of X G g_DEED_KINDS,
    l_DEED_KINDS := l_DEED_KINDS,
    a_PLAYER_KINDS := A_PLAYER_KINDS,
    g_PLAYER_KINDS := PySem.W.mg_of X G g_PLAYER_KINDS,
    l_PLAYER_KINDS := l_PLAYER_KINDS,
    a_TURNS := A_TURNS,
    g_TURNS := PySem.W.mg_of X G g_TURNS,
    l_TURNS := l_TURNS }
  exact ⟨_, fun s v => .of_eq rfl, fun base kb _ => ok_law T kb⟩
theorem walk {l : PySem.W.OpenLaw} {q : Program} {loose : List Str} {XP : (Str → Option Value) → Heap → Prop} {YP : World → Heap → Prop} {d : DefRec} {K : Params → PySem.W.Frag} (hn : l.most = some 63) (hdf : d.params.defaults = [])
    (hY : ∀ (w : World) (h : Heap), YP w h → (K w.params).In h)
    (F : ∀ (w : World) (mg : Str → Option Value) (fa : Addr) (h : Heap), (K w.params).In h → h.Ns mainGlobals mg → mg d.name = some (.ref fa) →
      ∃ fd : FuncData, (∀ (s : Shared) (u : Value), BindsTo s fd ⟨[u], []⟩ [("_law_script", u)]) ∧ ∀ base : Heap, (K w.params).In base → base.Ns mainGlobals mg → FnOk l.prog w (K w.params) mg base CX0 12 fa fd ["_law_script"] (spLaw (K w.params))) :
    PySem.W.WalkO q loose XP YP l.row.toRowW d [] (fun f vs => PySem.call f vs) :=
  L2.walk_of (n := 63) (k := 12) (x := "_law_script") (CX := fun _ => CX0) (sp := fun w => spLaw (K w.params)) hn (by decide) hdf ⟨rfl, by decide, by decide⟩ hY F (fun _ _ a ns hl hO hS => ⟨a, ns, rfl, SqF.of hO hS, hl, fun _ => rfl⟩) fun _ _ _ _ _ z => z
end K08
def PySem.W.Fast.tw10636905744376343282 : Unit := ()
def PySem.W.Fast.tw1287525710911782221 : Unit := ()
def PySem.W.Fast.tw3250318124888342659 : Unit := ()
def PySem.W.Fast.tw2616840157879339075 : Unit := ()
def PySem.W.Fast.tw7470503240157045768 : Unit := ()
def PySem.W.Fast.tw15430433527410680874 : Unit := ()
def PySem.W.Fast.tw663434342767344686 : Unit := ()
def PySem.W.Fast.tw5152692702646126657 : Unit := ()
def PySem.W.Fast.tw8666576971959158435 : Unit := ()
def PySem.W.Fast.tw1508337341351222517 : Unit := ()
def PySem.W.Fast.tw10855997363559517506 : Unit := ()
def PySem.W.Fast.tw10147529187917104851 : Unit := ()
def PySem.W.Fast.tw3443732425860528010 : Unit := ()
def PySem.W.Fast.tw2953284566237141995 : Unit := ()
def PySem.W.Fast.tw10765334816939177846 : Unit := ()
def PySem.W.Fast.tw16258937177314740305 : Unit := ()
def PySem.W.Fast.tw241476074414695659 : Unit := ()
def PySem.W.Fast.tw8261780887607912446 : Unit := ()
def PySem.W.Fast.tw5518012491469718681 : Unit := ()
def PySem.W.Fast.tw6346803906939911312 : Unit := ()
def PySem.W.Fast.tw16764972122802557368 : Unit := ()
def PySem.W.Fast.tw12721565750130576574 : Unit := ()
def PySem.W.Fast.tw8274053063940183288 : Unit := ()
def PySem.W.Fast.tw394424277111055515 : Unit := ()
def PySem.W.Fast.tw6763905688642283530 : Unit := ()
def PySem.W.Fast.tw17694206481633441008 : Unit := ()
def PySem.W.Fast.tw11872036900668229986 : Unit := ()
def PySem.W.Fast.tw17436468417308587997 : Unit := ()
def PySem.W.Fast.tw13376879443803096749 : Unit := ()
def PySem.W.Fast.tw16876663625838869941 : Unit := ()
def PySem.W.Fast.tw15686061472044214557 : Unit := ()
def PySem.W.Fast.tw8354428057417633229 : Unit := ()
def PySem.W.Fast.tw2697733989493569477 : Unit := ()
def PySem.W.Fast.tw1987263361928890616 : Unit := ()
def PySem.W.Fast.tw16697191188124672344 : Unit := ()
def PySem.W.Fast.tw16368493444066899136 : Unit := ()
def PySem.W.Fast.tw18132565587011011733 : Unit := ()
def PySem.W.Fast.tw16626437970800452765 : Unit := ()
def PySem.W.Fast.tw16519436044637197640 : Unit := ()
def PySem.W.Fast.tw8897263449144350114 : Unit := ()
def PySem.W.Fast.tw8909039289118821215 : Unit := ()
def PySem.W.Fast.tw12867811094786078279 : Unit := ()
def PySem.W.Fast.tw9692502167552554281 : Unit := ()
def PySem.W.Fast.tw2182961537317843112 : Unit := ()
def PySem.W.Fast.tw14555066559740224528 : Unit := ()
def PySem.W.Fast.tw6474376473984534083 : Unit := ()
def PySem.W.Fast.tw1443363143646081496 : Unit := ()
def PySem.W.Fast.tw8503823258627634614 : Unit := ()
def PySem.W.Fast.tw12547761985099557555 : Unit := ()
def PySem.W.Fast.tw12211516128850339174 : Unit := ()
def PySem.W.Fast.tw3815982019375902908 : Unit := ()
def PySem.W.Fast.tw17339907652386493879 : Unit := ()
def PySem.W.Fast.tw2579667385694137273 : Unit := ()
def PySem.W.Fast.tw10234232625808146406 : Unit := ()
open PySem PySem.W PyProof.Rows
set_option maxRecDepth 100000 in
set_option maxHeartbeats 0 in
theorem PySem.Challenge.cw_turnstack_k08_first_sight_holds : PySem.Challenge.rw_turnstack_k08_first_sight.Holds := by
  w_on; o_law; k_head; (case hw => w_witness2)
  k_fill
  refine K08.walk (l := PySem.Challenge.rw_turnstack_k08_first_sight) rfl rfl (fun w h Y => PySem.W.kIn_of Y) ?F
  case F =>
    intro w mg fa h KX G hmg
    refine' K08.all_mk KX G hmg ?aC_Words ?aC_Whom ?aC_Card ?a1 ?l1 ?c1 ?k1 ?a2 ?l2 ?c2 ?k2 ?a3 ?l3 ?c3 ?k3 ?a4 ?i4 ?l4 ?c4 ?k4 ?a5 ?i5 ?l5 ?c5 ?k5 ?a6 ?i6 ?l6 ?c6 ?k6 ?a7 ?i7 ?l7 ?c7 ?k7 ?a8 ?i8 ?l8 ?c8 ?k8 ?a9 ?i9 ?l9 ?c9 ?k9 ?a10 ?i10 ?l10 ?c10 ?k10 ?a11 ?i11 ?l11 ?c11 ?k11 ?a12 ?l12 ?c12 ?k12 ?a13 ?l13 ?c13 ?k13 ?a14 ?l14 ?c14 ?k14 ?a15 ?l15 ?c15 ?k15 ?a16 ?i16 ?l16 ?c16 ?k16 ?a17 ?i17 ?l17 ?c17 ?k17 ?a18 ?l18 ?c18 ?k18 ?a19 ?l19 ?c19 ?k19 ?a20 ?l20 ?c20 ?k20 ?a21 ?l21 ?c21 ?k21 ?a22 ?l22 ?c22 ?k22 ?a23 ?l23 ?c23 ?k23 ?a24 ?l24 ?c24 ?k24 ?a25 ?l25 ?c25 ?k25 ?a26 ?l26 ?c26 ?k26 ?a27 ?l27 ?c27 ?k27 ?a28 ?l28 ?c28 ?k28 ?a29 ?l29 ?c29 ?k29 ?a30 ?l30 ?c30 ?k30 ?a31 ?l31 ?c31 ?k31 ?a32 ?l32 ?c32 ?k32 ?a33 ?l33 ?c33 ?k33 ?a34 ?l34 ?c34 ?k34 ?a35 ?l35 ?c35 ?k35 ?a36 ?l36 ?c36 ?k36 ?a37 ?l37 ?c37 ?k37 ?a38 ?l38 ?c38 ?k38 ?a39 ?l39 ?c39 ?k39 ?a40 ?l40 ?c40 ?k40 ?a41 ?l41 ?c41 ?k41 ?a42 ?l42 ?c42 ?k42 ?a43 ?l43 ?c43 ?k43 ?a44 ?l44 ?c44 ?k44 ?a45 ?l45 ?c45 ?k45 ?a46 ?l46 ?c46 ?k46 ?a47 ?l47 ?c47 ?k47 ?pg_Words ?hd_Words ?po_Words ?sa_Words ?mk_Words ?kc_Words ?n_Words_words ?n_Words_place ?pg_Whom ?hd_Whom ?po_Whom ?sa_Whom ?mk_Whom ?kc_Whom ?n_Whom_word ?n_Whom_value ?n_Whom_parts ?q1_Whom ?q2_Whom ?q3_Whom ?q4_Whom ?q5_Whom ?q6_Whom ?q7_Whom ?q8_Whom ?q9_Whom ?q10_Whom ?pg_Card ?hd_Card ?po_Card ?sa_Card ?mk_Card ?kc_Card ?n_Card_name ?n_Card_cost ?n_Card_force ?n_Card_marks ?n_Card_rules ?z_all ?z_bool ?z_int ?z_isinstance ?z_len ?z_list ?z_max ?z_min ?z_range ?z_reversed ?z_set ?z_sorted ?z_str ?z_tuple ?g_LETTERS ?g_FIGURES ?g_MOST_WORDS ?g_PARTS ?l_PARTS ?g_MOST_RULES ?g_SORTS ?l_SORTS ?g_CHANGES ?l_CHANGES ?g_WHEN_KINDS ?l_WHEN_KINDS ?g_DEED_KINDS ?l_DEED_KINDS ?g_PLAYER_KINDS ?l_PLAYER_KINDS ?g_TURNS ?l_TURNS
    (case aC_Words => k_is)
    (case aC_Whom => k_is)
    (case aC_Card => k_is)
    (case a1 => k_is)
    (case l1 => k_is)
    (case c1 => k_is)
    (case k1 => k_is)
    (case a2 => k_is)
    (case l2 => k_is)
    (case c2 => k_is)
    (case k2 => k_is)
    (case a3 => k_is)
    (case l3 => k_is)
    (case c3 => k_is)
    (case k3 => k_is)
    (case a4 => k_is)
    (case i4 => k_is)
    (case l4 => k_is)
    (case c4 => k_is)
    (case k4 => k_is)
    (case a5 => k_is)
    (case i5 => k_is)
    (case l5 => k_is)
    (case c5 => k_is)
    (case k5 => k_is)
    (case a6 => k_is)
    (case i6 => k_is)
    (case l6 => k_is)
    (case c6 => k_is)
    (case k6 => k_is)
    (case a7 => k_is)
    (case i7 => k_is)
    (case l7 => k_is)
    (case c7 => k_is)
    (case k7 => k_is)
    (case a8 => k_is)
    (case i8 => k_is)
    (case l8 => k_is)
    (case c8 => k_is)
    (case k8 => k_is)
    (case a9 => k_is)
    (case i9 => k_is)
    (case l9 => k_is)
    (case c9 => k_is)
    (case k9 => k_is)
    (case a10 => k_is)
    (case i10 => k_is)
    (case l10 => k_is)
    (case c10 => k_is)
    (case k10 => k_is)
    (case a11 => k_is)
    (case i11 => k_is)
    (case l11 => k_is)
    (case c11 => k_is)
    (case k11 => k_is)
    (case a12 => k_is)
    (case l12 => k_is)
    (case c12 => k_is)
    (case k12 => k_is)
    (case a13 => k_is)
    (case l13 => k_is)
    (case c13 => k_is)
    (case k13 => k_is)
    (case a14 => k_is)
    (case l14 => k_is)
    (case c14 => k_is)
    (case k14 => k_is)
    (case a15 => k_is)
    (case l15 => k_is)
    (case c15 => k_is)
    (case k15 => k_is)
    (case a16 => k_is)
    (case i16 => k_is)
    (case l16 => k_is)
    (case c16 => k_is)
    (case k16 => k_is)
    (case a17 => k_is)
    (case i17 => k_is)
    (case l17 => k_is)
    (case c17 => k_is)
    (case k17 => k_is)
    (case a18 => k_is)
    (case l18 => k_is)
    (case c18 => k_is)
    (case k18 => k_is)
    (case a19 => k_is)
    (case l19 => k_is)
    (case c19 => k_is)
    (case k19 => k_is)
    (case a20 => k_is)
    (case l20 => k_is)
    (case c20 => k_is)
    (case k20 => k_is)
    (case a21 => k_is)
    (case l21 => k_is)
    (case c21 => k_is)
    (case k21 => k_is)
    (case a22 => k_is)
    (case l22 => k_is)
    (case c22 => k_is)
    (case k22 => k_is)
    (case a23 => k_is)
    (case l23 => k_is)
    (case c23 => k_is)
    (case k23 => k_is)
    (case a24 => k_is)
    (case l24 => k_is)
    (case c24 => k_is)
    (case k24 => k_is)
    (case a25 => k_is)
    (case l25 => k_is)
    (case c25 => k_is)
    (case k25 => k_is)
    (case a26 => k_is)
    (case l26 => k_is)
    (case c26 => k_is)
    (case k26 => k_is)
    (case a27 => k_is)
    (case l27 => k_is)
    (case c27 => k_is)
    (case k27 => k_is)
    (case a28 => k_is)
    (case l28 => k_is)
    (case c28 => k_is)
    (case k28 => k_is)
    (case a29 => k_is)
    (case l29 => k_is)
    (case c29 => k_is)
    (case k29 => k_is)
    (case a30 => k_is)
    (case l30 => k_is)
    (case c30 => k_is)
    (case k30 => k_is)
    (case a31 => k_is)
    (case l31 => k_is)
    (case c31 => k_is)
    (case k31 => k_is)
    (case a32 => k_is)
    (case l32 => k_is)
    (case c32 => k_is)
    (case k32 => k_is)
    (case a33 => k_is)
    (case l33 => k_is)
    (case c33 => k_is)
    (case k33 => k_is)
    (case a34 => k_is)
    (case l34 => k_is)
    (case c34 => k_is)
    (case k34 => k_is)
    (case a35 => k_is)
    (case l35 => k_is)
    (case c35 => k_is)
    (case k35 => k_is)
    (case a36 => k_is)
    (case l36 => k_is)
    (case c36 => k_is)
    (case k36 => k_is)
    (case a37 => k_is)
    (case l37 => k_is)
    (case c37 => k_is)
    (case k37 => k_is)
    (case a38 => k_is)
    (case l38 => k_is)
    (case c38 => k_is)
    (case k38 => k_is)
    (case a39 => k_is)
    (case l39 => k_is)
    (case c39 => k_is)
    (case k39 => k_is)
    (case a40 => k_is)
    (case l40 => k_is)
    (case c40 => k_is)
    (case k40 => k_is)
    (case a41 => k_is)
    (case l41 => k_is)
    (case c41 => k_is)
    (case k41 => k_is)
    (case a42 => k_is)
    (case l42 => k_is)
    (case c42 => k_is)
    (case k42 => k_is)
    (case a43 => k_is)
    (case l43 => k_is)
    (case c43 => k_is)
    (case k43 => k_is)
    (case a44 => k_is)
    (case l44 => k_is)
    (case c44 => k_is)
    (case k44 => k_is)
    (case a45 => k_is)
    (case l45 => k_is)
    (case c45 => k_is)
    (case k45 => k_is)
    (case a46 => k_is)
    (case l46 => k_is)
    (case c46 => k_is)
    (case k46 => k_is)
    (case a47 => k_is)
    (case l47 => k_is)
    (case c47 => k_is)
    (case k47 => k_is)
    (case pg_Words => k_is)
    (case hd_Words => k_is)
    (case po_Words => k_is)
    (case sa_Words => k_is)
    (case mk_Words => k_is)
    (case kc_Words => k_is)
    (case n_Words_words => k_is)
    (case n_Words_place => k_is)
    (case pg_Whom => k_is)
    (case hd_Whom => k_is)
    (case po_Whom => k_is)
    (case sa_Whom => k_is)
    (case mk_Whom => k_is)
    (case kc_Whom => k_is)
    (case n_Whom_word => k_is)
    (case n_Whom_value => k_is)
    (case n_Whom_parts => k_is)
    (case q1_Whom => first | k_is | kit_is | kernel_rfl)
    (case q2_Whom => first | k_is | kit_is | kernel_rfl)
    (case q3_Whom => first | k_is | kit_is | kernel_rfl)
    (case q4_Whom => first | k_is | kit_is | kernel_rfl)
    (case q5_Whom => first | k_is | kit_is | kernel_rfl)
    (case q6_Whom => first | k_is | kit_is | kernel_rfl)
    (case q7_Whom => first | k_is | kit_is | kernel_rfl)
    (case q8_Whom => first | k_is | kit_is | kernel_rfl)
    (case q9_Whom => first | k_is | kit_is | kernel_rfl)
    (case q10_Whom => first | k_is | kit_is | kernel_rfl)
    (case pg_Card => k_is)
    (case hd_Card => k_is)
    (case po_Card => k_is)
    (case sa_Card => k_is)
    (case mk_Card => k_is)
    (case kc_Card => k_is)
    (case n_Card_name => k_is)
    (case n_Card_cost => k_is)
    (case n_Card_force => k_is)
    (case n_Card_marks => k_is)
    (case n_Card_rules => k_is)
    (case z_all => k_is)
    (case z_bool => k_is)
    (case z_int => k_is)
    (case z_isinstance => k_is)
    (case z_len => k_is)
    (case z_list => k_is)
    (case z_max => k_is)
    (case z_min => k_is)
    (case z_range => k_is)
    (case z_reversed => k_is)
    (case z_set => k_is)
    (case z_sorted => k_is)
    (case z_str => k_is)
    (case z_tuple => k_is)
    (case g_LETTERS => k_is)
    (case g_FIGURES => k_is)
    (case g_MOST_WORDS => k_is)
    (case g_PARTS => k_is)
    (case l_PARTS => first | kernel_rfl | (unfold L2.TupK; kernel_rfl))
    (case g_MOST_RULES => k_is)
    (case g_SORTS => k_is)
    (case l_SORTS => first | kernel_rfl | (unfold L2.TupK; kernel_rfl))
    (case g_CHANGES => k_is)
    (case l_CHANGES => first | kernel_rfl | (unfold L2.TupK; kernel_rfl))
    (case g_WHEN_KINDS => k_is)
    (case l_WHEN_KINDS => first | kernel_rfl | (unfold L2.TupK; kernel_rfl))
    (case g_DEED_KINDS => k_is)
    (case l_DEED_KINDS => first | kernel_rfl | (unfold L2.TupK; kernel_rfl))
    (case g_PLAYER_KINDS => k_is)
    (case l_PLAYER_KINDS => first | kernel_rfl | (unfold L2.TupK; kernel_rfl))
    (case g_TURNS => k_is)
    (case l_TURNS => first | kernel_rfl | (unfold L2.TupK; kernel_rfl))
