import PyProof.Rows.All
import Wide.All
import OpenK.AllK
import Wide.FinOn
import Lean
import PyProof.EqAt
import PyProof.EqKinds
import PyProof.TupleCall
import PyProof.StrLawsTight
import PyProof.StrLawsChain
import KE.KSortTup
import PyProof.EnumIter
import PyProof.EnumMake
import PyProof.EnumFor
import PySem.Challenge.RW_turnstack_k02_whoms_told_again
set_option Elab.async false
set_option linter.all false
set_option maxRecDepth 100000
namespace L2
open PySem PySem.Spec PyProof.Rows
abbrev Key := Sum Int Str
def keyIs : Key → Value → Bool
  | .inl k, v => Value.isInt k v
  | .inr x, v => Value.isStrOf x v
def keyH (w : World) : Key → Int
  | .inl k => hashInt k
  | .inr x => hashStr w x
theorem keyIs_shape : ∀ {k : Key} {v : Value}, keyIs k v = true → (∃ i t, k = Sum.inl i ∧ v = Value.int i t) ∨ (∃ x t, k = Sum.inr x ∧ v = Value.str x t)
  | .inl i, v, h => by
    obtain ⟨t, e⟩ := Value.isInt_shape (k := i) (v := v) h
    exact .inl ⟨i, t, rfl, e⟩
  | .inr x, v, h => by
    obtain ⟨t, e⟩ := Value.isStrOf_shape (x := x) (v := v) h
    exact .inr ⟨x, t, rfl, e⟩
theorem key_ll (a b : Int) : decide ((Sum.inl a : Key) = Sum.inl b) = (a == b) := by
  by_cases e : a = b
  · subst e; simp
  · have h : ¬ (Sum.inl a : Key) = Sum.inl b := fun q => e (Sum.inl.inj q)
    rw [decide_eq_false h]
    exact (beq_eq_false_iff_ne.mpr e).symm
theorem key_rr (a b : Str) : decide ((Sum.inr a : Key) = Sum.inr b) = decide (a = b) := by
  by_cases e : a = b
  · subst e; simp
  · have h : ¬ (Sum.inr a : Key) = Sum.inr b := fun q => e (Sum.inr.inj q)
    rw [decide_eq_false h, decide_eq_false e]
theorem key_lr (a : Int) (b : Str) : decide ((Sum.inl a : Key) = Sum.inr b) = false := decide_eq_false (fun q => nomatch q)
theorem key_rl (a : Str) (b : Int) : decide ((Sum.inr a : Key) = Sum.inl b) = false := decide_eq_false (fun q => nomatch q)
def mixKind (prog : Program) (w : World) : PySem.KeyKind prog w Key where
  is := keyIs
  hash := keyH w
  inj := fun v a b ha hb => by
    rcases keyIs_shape ha with ⟨i, t, rfl, rfl⟩ | ⟨x, t, rfl, rfl⟩
    · rcases keyIs_shape hb with ⟨j, u, rfl, e⟩ | ⟨y, u, rfl, e⟩
      · injection e with e1 _; rw [e1]
      · exact nomatch e
    · rcases keyIs_shape hb with ⟨j, u, rfl, e⟩ | ⟨y, u, rfl, e⟩
      · exact nomatch e
      · injection e with e1 _; rw [e1]
  byValue := fun k v h => by
    rcases keyIs_shape h with ⟨i, t, rfl, rfl⟩ | ⟨x, t, rfl, rfl⟩ <;> rfl
  pyHash := fun hv h => by
    rcases keyIs_shape hv with ⟨i, t, rfl, rfl⟩ | ⟨x, t, rfl, rfl⟩
    · exact wpAny_pyHash_int h
    · exact wpAny_pyHash_str h
  eqBool := fun hu hv h => by
    rcases keyIs_shape hu with ⟨i, t, rfl, rfl⟩ | ⟨x, t, rfl, rfl⟩
    · rcases keyIs_shape hv with ⟨j, u, rfl, rfl⟩ | ⟨y, u, rfl, rfl⟩
      · rw [key_ll] at h; exact wpAny_eqBool_int h
      · rw [key_lr] at h; exact SeqAt.EqAt.int_str i t y u _ _ _ _ h
    · rcases keyIs_shape hv with ⟨j, u, rfl, rfl⟩ | ⟨y, u, rfl, rfl⟩
      · rw [key_rl] at h; exact SeqAt.EqAt.str_int x t j u _ _ _ _ h
      · rw [key_rr] at h; exact wpAny_eqBool_str h
  «strs» := fun k x t v h => by
    rcases keyIs_shape h with ⟨i, u, rfl, e⟩ | ⟨y, u, rfl, e⟩
    · exact nomatch e
    · injection e with e1 _
      subst e1
      cases v <;> rfl
end L2
namespace L2
open PySem PySem.Spec PyProof.Rows
inductive V where
  | non | bl (b : Bool) | int (i : Int) | str (x : Str) | byt (b : Array UInt8) | flt (b : UInt64) | ref (a : Addr) | ty (n : String)
  deriving DecidableEq
def RelV : V → Value → Prop
  | .non, u => u = Value.none
  | .bl b, u => u = Value.bool b
  | .int i, u => ∃ t, u = Value.int i t
  | .str x, u => ∃ t, u = Value.str x t
  | .byt b, u => ∃ t, u = Value.bytes b t
  | .flt b, u => ∃ t, u = Value.float b t
  | .ref a, u => u = Value.ref a
  | .ty n, u => u = Value.type n
abbrev Vals : List V → List Value → Prop := Paired RelV
theorem Vals.length {xs : List V} {us : List Value} (r : Vals xs us) : xs.length = us.length := Paired.length r
theorem Vals.get : ∀ {xs : List V} {us : List Value} {i : Nat} {x : V}, Vals xs us → xs[i]? = some x → ∃ u, us[i]? = some u ∧ RelV x u
  | _, _, _, _, .nil, e => by simp at e
  | _, _, 0, _, .cons r _, e => by simp at e; subst e; exact ⟨_, rfl, r⟩
  | _, _, i + 1, x, .cons _ t, e => by
    obtain ⟨u, h1, h2⟩ := Vals.get (i := i) (x := x) t (by simpa using e)
    exact ⟨u, by simpa using h1, h2⟩
theorem Vals.set {x : V} {u : Value} (r : RelV x u) : ∀ {xs : List V} {us : List Value} (i : Nat), Vals xs us → Vals (xs.set i x) (us.set i u)
  | _, _, _, .nil => .nil
  | _, _, 0, .cons _ t => .cons r t
  | _, _, i + 1, .cons q t => .cons q (Vals.set r i t)
theorem Vals.append : ∀ {xs ys : List V} {us ws : List Value}, Vals xs us → Vals ys ws → Vals (xs ++ ys) (us ++ ws)
  | _, _, _, _, .nil, s => s
  | _, _, _, _, .cons r t, s => .cons r (Vals.append t s)
theorem Vals.take : ∀ {xs : List V} {us : List Value} (n : Nat), Vals xs us → Vals (xs.take n) (us.take n)
  | _, _, 0, _ => .nil
  | _, _, _ + 1, .nil => .nil
  | _, _, n + 1, .cons r t => .cons r (Vals.take n t)
theorem Vals.drop : ∀ {xs : List V} {us : List Value} (n : Nat), Vals xs us → Vals (xs.drop n) (us.drop n)
  | _, _, 0, r => r
  | _, _, _ + 1, .nil => .nil
  | _, _, n + 1, .cons _ t => Vals.drop n t
theorem Vals.none_of : ∀ {xs : List V} {us : List Value} {i : Nat}, Vals xs us → xs[i]? = none → us[i]? = none := fun {xs us i} r e => by
  have h1 := r.length
  have h2 : xs.length ≤ i := List.getElem?_eq_none_iff.mp e
  exact List.getElem?_eq_none_iff.mpr (by omega)
def RelO : Option V → Option Value → Prop
  | some v, some u => RelV v u
  | none, none => True
  | _, _ => False
def KV {κ : Type} : List (κ × V) → List (κ × Value) → Prop := Paired fun (p : κ × V) (q : κ × Value) => p.1 = q.1 ∧ RelV p.2 q.2
def kV : Key → V
  | .inl i => .int i
  | .inr x => .str x
inductive HO where
  | lst (xs : List V)
  | tup (xs : List V)
  | dK (kvs : List (Key × V)) | dT (kvs : List (List Key × V))
  | set (S : Int → Bool) (n : Nat)
  | ins (C dx : Addr) (fs : List (Str × V))
  | own (x : Addr)
  | xd (fs : List (Str × V))
  | met (f x : Addr)
  | rng (lo hi : Int)
  | frz (o : Obj) (u : HO)
  | tbl (ps : Array Value)
  | ext (φ : Heap → Prop)
abbrev Hp := Addr → Option HO
def upd (H : Hp) (a : Addr) (o : HO) : Hp := fun b => if b = a then some o else H b
theorem upd_same {H : Hp} {a : Addr} {o : HO} : upd H a o a = some o := by unfold upd; rw [if_pos rfl]
theorem upd_ne {H : Hp} {a b : Addr} {o : HO} (h : b ≠ a) : upd H a o b = H b := by unfold upd; rw [if_neg h]
theorem upd_upd {H : Hp} {a : Addr} {o u : HO} : upd (upd H a o) a u = upd H a u := by
  funext b; unfold upd; split <;> rfl
theorem ne_of {H : Hp} {a b : Addr} {o u : HO} (h : H a = some o) (h' : H b = some u) (d : o ≠ u) : a ≠ b := by
  intro e; subst e; rw [h] at h'; exact d (Option.some.inj h')
theorem ne_of_none {H : Hp} {a b : Addr} {o : HO} (h : H a = some o) (h' : H b = none) : a ≠ b := by
  intro e; subst e; rw [h] at h'; cases h'
section
variable (P : Program) (w : World)
def ObjOk (H : Hp) (h : Heap) (a : Addr) : HO → Prop
  | .lst xs => xs.length ≤ sizeLine ∧ ∃ (its : List Value) (n : Nat), Vals xs its ∧ h.get? a = some { cls := .type "list", data := .seq its.toArray n }
  | .tup xs => xs.length ≤ sizeLine ∧ ∃ its : List Value, Vals xs its ∧ IsTup h a its.toArray
  | .dK kvs => kvs.length ≤ sizeLine ∧ (a == sysModules) = false ∧ ∃ vs, KV kvs vs ∧ h.DictOf (mixKind P w) a vs
  | .dT kvs => kvs.length ≤ sizeLine ∧ (a == sysModules) = false ∧ ∃ xs : List (List Key × Addr × Value),
      Paired (fun (p : List Key × V) (q : List Key × Addr × Value) => p.1 = q.1 ∧ H q.2.1 = some (.tup (p.1.map kV)) ∧ RelV p.2 q.2.2) kvs xs ∧
      ∃ o es ep, h.get? a = some o ∧ o.ExactDict ∧ o.data = .dict es ep ∧ es.toList = xs.map (entryOfKey (tupleKind (mixKind P w))) ∧ (xs.map (·.1)).Nodup
  | .set S n => h.SetOf (intKind P w) a S n
  | .ins C dx fs => H dx = some (.own a) ∧ fs.length ≤ 1000 ∧ dx ≠ a ∧ h.get? a = some (PySem.W.instObj C dx) ∧
      ∃ mA, h.Ns1 dx mA ∧ (∀ f, RelO (fs.lookup f) (mA f)) ∧ PySem.Within mA (fs.map (·.1))
  | .own _ => ∃ o, h.get? a = some o
  | .xd fs => ∃ mA, h.Ns1 a mA ∧ ∀ f, RelO (fs.lookup f) (mA f)
  | .rng lo hi => ∃ t u v, h.get? a = some { cls := .type "range", data := .fields #[.int lo t, .int hi u, .int 1 v] }
  | .frz o u => h.get? a = some o ∧ ObjOk H h a u
  | .tbl ps => h.get? a = some { cls := .none, data := .fields ps }
  | .met f x => h.get? a = some (PySem.W.methodObj (.ref f) (.ref x))
  | .ext φ => φ h ∧ (∃ o, h.get? a = some o) ∧ ∀ h1 h2 : Heap, φ h1 → (∀ o, h1.get? a = some o → h2.get? a = some o) → φ h2
def HOk (H : Hp) (h : Heap) : Prop := ∀ a o, H a = some o → ObjOk P w H h a o
end
section
variable {P : Program} {w : World} {H H' : Hp} {h h' : Heap} {a : Addr} {o : HO}
theorem ObjOk.lt (x : ObjOk P w H h a o) : a < h.objs.size := by
  cases o with
  | lst xs => obtain ⟨_, _, _, _, e⟩ := x; exact Heap.lt_size e
  | tup xs => obtain ⟨_, _, _, p⟩ := x; exact p.lt
  | dK kvs => obtain ⟨_, _, _, _, o, _, _, e, _⟩ := x; exact Heap.lt_size e
  | dT kvs => obtain ⟨_, _, _, _, o, _, _, e, _⟩ := x; exact Heap.lt_size e
  | set S n => obtain ⟨o, _, _, _, e, _⟩ := x; exact Heap.lt_size e
  | ins C dx fs => obtain ⟨_, _, _, e, _⟩ := x; exact Heap.lt_size e
  | own y => obtain ⟨_, e⟩ := x; exact Heap.lt_size e
  | xd fs => obtain ⟨_, ⟨_, _, _, e, _⟩, _⟩ := x; exact Heap.lt_size e
  | rng lo hi => obtain ⟨_, _, _, e⟩ := x; exact Heap.lt_size e
  | frz ob u => obtain ⟨e, _⟩ := x; exact Heap.lt_size e
  | tbl ps => exact Heap.lt_size (show h.get? a = some _ from x)
  | met f y => exact Heap.lt_size (show h.get? a = some _ from x)
  | ext φ => obtain ⟨_, ⟨_, e⟩, _⟩ := x; exact Heap.lt_size e
theorem Paired.mapP {α β : Type} {F G : α → β → Prop} : ∀ {l₁ : List α} {l₂ : List β}, Paired F l₁ l₂ → (∀ a b, F a b → G a b) → Paired G l₁ l₂
  | _, _, .nil, _ => .nil
  | _, _, .cons r t, f => .cons (f _ _ r) (Paired.mapP t f)
theorem ObjOk.stay (x : ObjOk P w H h a o) (k : ∀ b u, (b = a ∨ H b = some (.own a)) → h.get? b = some u → h'.get? b = some u)
    (ho : ∀ b, H b = some (.own a) → H' b = some (.own a)) (ht : ∀ b xs, H b = some (.tup xs) → H' b = some (.tup xs)) : ObjOk P w H' h' a o := by
  induction o with
  | lst xs => obtain ⟨z, its, n, r, e⟩ := x; exact ⟨z, its, n, r, k _ _ (.inl rfl) e⟩
  | tup xs => obtain ⟨z, its, r, ob, e, c⟩ := x; exact ⟨z, its, r, ob, k _ _ (.inl rfl) e, c⟩
  | dK kvs => obtain ⟨z, y, vs, r, ob, es, ep, e, c⟩ := x; exact ⟨z, y, vs, r, ob, es, ep, k _ _ (.inl rfl) e, c⟩
  | dT kvs =>
    obtain ⟨z, y, xs, r, ob, es, ep, e, c⟩ := x
    exact ⟨z, y, xs, Paired.mapP r fun p q z => ⟨z.1, ht _ _ z.2.1, z.2.2⟩, ob, es, ep, k _ _ (.inl rfl) e, c⟩
  | set S n => obtain ⟨ob, es, ep, t, e, c⟩ := x; exact ⟨ob, es, ep, t, k _ _ (.inl rfl) e, c⟩
  | ins C dx fs =>
    obtain ⟨d, z, ne, e, mA, ⟨od, es, ep, e2, c⟩, r⟩ := x
    exact ⟨ho _ d, z, ne, k _ _ (.inl rfl) e, mA, ⟨od, es, ep, k _ _ (.inr d) e2, c⟩, r⟩
  | own y => obtain ⟨ob, e⟩ := x; exact ⟨ob, k _ _ (.inl rfl) e⟩
  | xd fs => obtain ⟨mA, ⟨od, es, ep, e, c⟩, r⟩ := x; exact ⟨mA, ⟨od, es, ep, k _ _ (.inl rfl) e, c⟩, r⟩
  | rng lo hi => obtain ⟨t, u, v, e⟩ := x; exact ⟨t, u, v, k _ _ (.inl rfl) e⟩
  | frz ob u ih => obtain ⟨e, q⟩ := x; exact ⟨k _ _ (.inl rfl) e, ih q⟩
  | tbl ps =>
    have e : h.get? a = some { cls := .none, data := .fields ps } := x
    show h'.get? a = some { cls := .none, data := .fields ps }
    exact k a _ (.inl rfl) e
  | met f y =>
    have e : h.get? a = some (PySem.W.methodObj (.ref f) (.ref y)) := x
    show h'.get? a = some (PySem.W.methodObj (.ref f) (.ref y))
    exact k a _ (.inl rfl) e
  | ext φ => obtain ⟨p, ⟨o, e⟩, st⟩ := x; exact ⟨st _ _ p fun o q => k _ _ (.inl rfl) q, ⟨o, k _ _ (.inl rfl) e⟩, st⟩
theorem HOk.lt (x : HOk P w H h) (e : H a = some o) : a < h.objs.size := (x a o e).lt
theorem HOk.fresh (x : HOk P w H h) (e : h.objs.size ≤ a) : H a = none := by
  cases q : H a with
  | none => rfl
  | some u => exact absurd (Nat.lt_of_lt_of_le (x.lt q) e) (Nat.lt_irrefl _)
theorem HOk.kept (x : HOk P w H h) (k : ∀ b u, h.get? b = some u → h'.get? b = some u) : HOk P w H h' := fun a o e =>
  (x a o e).stay (fun b u _ q => k b u q) (fun _ q => q) fun _ _ q => q
theorem HOk.laid (x : HOk P w H h) (k : ∀ b u, h.get? b = some u → h'.get? b = some u) (hp : h.objs.size ≤ a) (new : ObjOk P w (upd H a o) h' a o) : HOk P w (upd H a o) h' := fun b u e => by
  have hn := x.fresh hp
  by_cases hb : b = a
  · subst hb; rw [upd_same] at e; cases e; exact new
  · rw [upd_ne hb] at e
    exact (x b u e).stay (fun c v _ q => k c v q) (fun c q => by rw [upd_ne (ne_of_none q hn)]; exact q) fun c xs q => by rw [upd_ne (ne_of_none q hn)]; exact q
end
def Rd (H : Hp) (a : Addr) (u : HO) : Prop := H a = some u ∨ ∃ o, H a = some (.frz o u)
theorem Rd.of {H : Hp} {a : Addr} {u : HO} (h : H a = some u) : Rd H a u := .inl h
theorem Rd.ok {P : Program} {w : World} {H : Hp} {h : Heap} {a : Addr} {u : HO} (r : Rd H a u) (x : HOk P w H h) : ObjOk P w H h a u := by
  rcases r with r | ⟨o, r⟩
  · exact x a u r
  · obtain ⟨_, q⟩ := x a _ r
    exact q
def Mut : Option HO → Prop
  | some (.lst _) => True
  | some (.dK _) => True
  | some (.dT _) => True
  | some (.set _ _) => True
  | some (.ins _ _ _) => True
  | some (.ext _) => True
  | _ => False
section
variable {P : Program} {w : World} {H : Hp} {h h' : Heap} {x e : Addr} {o' : HO}
theorem HOk.write (ok : HOk P w H h) (mu : Mut (H x)) (he : e = x ∨ H e = some (.own x)) (k : ∀ b u, b ≠ e → h.get? b = some u → h'.get? b = some u) (heo : ∃ u, h'.get? e = some u)
    (new : ObjOk P w (upd H x o') h' x o') : HOk P w (upd H x o') h' := fun b u q => by
  have nown : ∀ c y, H c = some (.own y) → c ≠ x := fun c y r z => by subst z; rw [r] at mu; exact mu
  have ntup : ∀ c xs, H c = some (.tup xs) → c ≠ x := fun c xs r z => by subst z; rw [r] at mu; exact mu
  by_cases hb : b = x
  · subst hb; rw [upd_same] at q; cases q; exact new
  · rw [upd_ne hb] at q
    by_cases hbe : b = e
    · have q' : H b = some (.own x) := by
        rcases he with z | z
        · exact absurd (hbe.trans z) hb
        · rw [hbe]; exact z
      rw [q] at q'; cases q'
      obtain ⟨v, hv⟩ := heo
      exact ⟨v, by rw [hbe]; exact hv⟩
    · refine (ok b u q).stay (fun c v hc r => k c v ?_ r) (fun c r => by rw [upd_ne (nown c b r)]; exact r) fun c xs r => by rw [upd_ne (ntup c xs r)]; exact r
      rcases hc with rfl | hc
      · exact hbe
      · rintro rfl
        rcases he with z | z
        · exact nown c b hc z
        · rw [hc] at z; cases z; exact hb rfl
end
structure Un (fs ex : List Addr) (H H' : Hp) (h h' : Heap) : Prop where
  keep : ∀ b o, h.get? b = some o → H b = none → b ∉ fs → b ∉ ex → h'.get? b = some o
  slot : ∀ b o, h.get? b = some o → H b = none → b ∈ fs → b ∉ ex → ∃ sl, h'.get? b = some { o with slots := sl }
  free : ∀ b o, h.get? b = some o → H b = none → b ∉ ex → H' b = none
  there : ∀ b o, h.get? b = some o → b ∉ ex → ∃ o', h'.get? b = some o'
  tups : ∀ b xs, H b = some (.tup xs) → H' b = some (.tup xs)
  frzs : ∀ b o u, H b = some (.frz o u) → H' b = some (.frz o u)
  tbls : ∀ b ps, H b = some (.tbl ps) → ∃ more, H' b = some (.tbl (ps ++ more))
section
variable {fs fs' ex ex' : List Addr} {H H1 H2 : Hp} {h h1 h2 h' : Heap} {a x e : Addr} {o : HO}
theorem Un.any (u : Un fs ex H H1 h h1) {b : Addr} {ob : Obj} (q : h.get? b = some ob) (n : H b = none) (hx : b ∉ ex) : ∃ sl, h1.get? b = some { ob with slots := sl } := by
  by_cases hb : b ∈ fs
  · exact u.slot b ob q n hb hx
  · exact ⟨ob.slots, u.keep b ob q n hb hx⟩
theorem Un.trans (a : Un fs ex H H1 h h1) (b : Un fs ex H1 H2 h1 h2) : Un fs ex H H2 h h2 where
  keep := fun c ob q n hc hx => b.keep c ob (a.keep c ob q n hc hx) (a.free c ob q n hx) hc hx
  slot := fun c ob q n hc hx => by
    obtain ⟨sl, e1⟩ := a.slot c ob q n hc hx
    obtain ⟨sl', e2⟩ := b.slot c _ e1 (a.free c ob q n hx) hc hx
    exact ⟨sl', e2⟩
  free := fun c ob q n hx => by
    obtain ⟨o', e1⟩ := a.there c ob q hx
    exact b.free c o' e1 (a.free c ob q n hx) hx
  there := fun c ob q hx => by
    obtain ⟨o', e1⟩ := a.there c ob q hx
    exact b.there c o' e1 hx
  tups := fun c xs q => b.tups c xs (a.tups c xs q)
  frzs := fun c ob xs q => b.frzs c ob xs (a.frzs c ob xs q)
  tbls := fun c ps q => by
    obtain ⟨m1, e1⟩ := a.tbls c ps q
    obtain ⟨m2, e2⟩ := b.tbls c _ e1
    exact ⟨m1 ++ m2, by rw [e2, Array.append_assoc]⟩
theorem Un.kept (k : ∀ b u, h.get? b = some u → h'.get? b = some u) : Un fs ex H H h h' :=
  ⟨fun b ob q _ _ _ => k b ob q, fun b ob q _ _ _ => ⟨ob.slots, k b ob q⟩, fun _ _ _ n _ => n, fun b ob q _ => ⟨ob, k b ob q⟩, fun _ _ q => q, fun _ _ _ q => q, fun _ ps q => ⟨#[], by rw [q]; simp⟩⟩
theorem Un.refl : Un fs ex H H h h := Un.kept fun _ _ q => q
theorem Un.laid (k : ∀ b u, h.get? b = some u → h'.get? b = some u) (hp : h.objs.size ≤ a) (hn : H a = none) : Un fs ex H (upd H a o) h h' where
  keep := fun b u q _ _ _ => k b u q
  slot := fun b u q _ _ _ => ⟨u.slots, k b u q⟩
  free := fun b u q n _ => by rw [upd_ne (Nat.ne_of_lt (Nat.lt_of_lt_of_le (Heap.lt_size q) hp))]; exact n
  there := fun b u q _ => ⟨u, k b u q⟩
  tups := fun b xs q => by rw [upd_ne (ne_of_none q hn)]; exact q
  frzs := fun b u xs q => by rw [upd_ne (ne_of_none q hn)]; exact q
  tbls := fun b ps q => ⟨#[], by rw [upd_ne (ne_of_none q hn), q]; simp⟩
theorem Un.write (mu : Mut (H x)) (he : e = x ∨ H e = some (.own x)) (k : ∀ b u, b ≠ e → h.get? b = some u → h'.get? b = some u) (heo : ∃ u, h'.get? e = some u) : Un fs ex H (upd H x o) h h' := by
  have hx : ∀ b, H b = none → b ≠ x := fun b n z => by subst z; rw [n] at mu; exact mu
  have hb : ∀ b, H b = none → b ≠ e := fun b n z => by
    subst z
    rcases he with r | r
    · exact hx b n r
    · rw [n] at r; cases r
  have hm : ∀ b u, H b = some u → ¬ Mut (some u) → b ≠ x := fun b u q nm z => by subst z; rw [q] at mu; exact nm mu
  refine ⟨fun b u q n _ _ => k b u (hb b n) q, fun b u q n _ _ => ⟨u.slots, k b u (hb b n) q⟩, fun b u q n _ => by rw [upd_ne (hx b n)]; exact n, fun b u q _ => ?_,
    fun b xs q => by rw [upd_ne (hm b _ q fun z => z)]; exact q, fun b u xs q => by rw [upd_ne (hm b _ q fun z => z)]; exact q, fun b ps q => ⟨#[], by rw [upd_ne (hm b _ q fun z => z), q]; simp⟩⟩
  by_cases hbe : b = e
  · subst hbe; exact heo
  · exact ⟨u, k b u hbe q⟩
theorem Un.mono (u : Un fs ex H H1 h h1) (hs : ∀ b ∈ fs, b ∈ fs') (hx : ∀ b ∈ ex, b ∈ ex') : Un fs' ex' H H1 h h1 :=
  ⟨fun b ob q n hb he => u.keep b ob q n (fun z => hb (hs b z)) fun z => he (hx b z), fun _ _ q n _ he => u.any q n fun z => he (hx _ z), fun b ob q n he => u.free b ob q n fun z => he (hx b z), fun b ob q he => u.there b ob q fun z => he (hx b z), u.tups, u.frzs, u.tbls⟩
end
def trk (h : Heap) (H : Hp) : List Addr := (List.range h.objs.size).filter fun a => (H a).isSome
def hidT (h : Heap) (H : Hp) : Heap := PySem.W.hideAll h (trk h H)
theorem hidT_size (h : Heap) (H : Hp) : (hidT h H).objs.size = h.objs.size := PySem.W.hideAll_size _ _
theorem hidT_get {h : Heap} {H : Hp} {b : Addr} {o : Obj} (e : h.get? b = some o) (n : H b = none) : (hidT h H).get? b = some o :=
  PySem.W.hideAll_get _ e fun hm => by
    have q : (H b).isSome = true := (List.mem_filter.mp hm).2
    rw [n] at q; simp at q
theorem of_hidT {h : Heap} {H : Hp} {b : Addr} {o : Obj} (e : (hidT h H).get? b = some o) : h.get? b = some o ∧ H b = none := by
  have e' : h.get? b = some o := PySem.W.of_hideAll (trk h H) e
  refine ⟨e', ?_⟩
  cases q : H b with
  | none => rfl
  | some x =>
    have hm : b ∈ trk h H := List.mem_filter.mpr ⟨List.mem_range.mpr (Heap.lt_size e'), by simp [q]⟩
    have z : (hidT h H).get? b = none := PySem.W.hideAll_none (trk h H) hm
    rw [z] at e; cases e
def allNews (g h : Heap) (L : Addr) : List (Addr × Obj) := (List.range h.objs.size).filterMap fun a => if a = L ∨ (g.get? a).isSome = true then none else (h.get? a).map fun o => (a, o)
def rest (g h : Heap) (L d : Addr) : List (Addr × Obj) := (allNews g h L).filter fun p => decide (p.1 ≠ d)
end L2
namespace L2
open PySem PySem.Spec PyProof.Rows
structure Mod (K : PySem.W.Frag) (mg : Str → Option Value) (base : Heap) : Prop where
  kin : K.In base
  glob : base.Ns mainGlobals mg
  blt : ∃ mb, base.Ns builtinsNs mb ∧ ∀ x : Str, x ≠ "__name__" → mb x = bootBuiltins x
  nolimit : base.NoLimit
/-- the context: a def's body (or a comprehension's block) running. base: fixed through the whole law; s₀, H₀: the entry; outer: the frames whose slots others may change (a def's callers); stack: all frames that run;
   ex: iterators that were made ahead of the entry and are walked here (a comprehension's); fn: the names whose cells were made at the entry (a def: all; a comprehension's block: its own); calm: not within an except suite; pn: pins that every state bears; xe: what is wanted of an exception that leaves the code -/
structure Cx where
  prog : Program
  w : World
  K : PySem.W.Frag
  mg : Str → Option Value
  base : Heap
  A : Around
  N : List Str
  s₀ : Shared
  H₀ : Hp
  env : Env
  outer : List Env
  stack : List Env
  ex : List Addr
  fn : Str → Bool
  calm : Bool
  pn : List (Addr × Obj)
  xe : Value → Shared → Prop
def frs (l : List Env) : List Addr := l.filterMap (·.frame)
abbrev Cx.fs (X : Cx) : List Addr := frs X.outer
def Vis (sc : Scope) (x : Str) : Prop := sc.names.lookup x = some .local ∨ sc.names.lookup x = some .cell ∨ sc.names.lookup x = some .free
def Loc (sc : Scope) (x : Str) : Prop := sc.names.lookup x = some .local ∨ sc.names.lookup x = some .cell
def Look (env : Env) (h : Heap) (m : Str → Option Value) (x : Str) (u : Value) : Prop :=
  (env.kindOf x = some .local ∧ m x = some u) ∨ ((env.kindOf x = some .cell ∨ env.kindOf x = some .free) ∧ ∃ c, env.cells.lookup x = some c ∧ h.IsCell c (some u))
structure Cx.Ok (X : Cx) : Prop where
  mod : Mod X.K X.mg X.base
  kind : X.env.scope.kind = .function
  glob : X.env.globals = mainGlobals
  blt : X.env.builtins = builtinsNs
  above : X.s₀.heap.objs.size ≤ X.env.locals
  inj : ∀ x y c, X.env.cells.lookup x = some c → X.env.cells.lookup y = some c → x = y
  has : ∀ x, (X.env.kindOf x = some .cell ∨ X.env.kindOf x = some .free) → ∃ c, X.env.cells.lookup x = some c
  cab : ∀ x c, X.fn x = true → X.env.cells.lookup x = some c → X.s₀.heap.objs.size ≤ c
  hd : X.calm = true → X.A.handled = none
  frames : X.A.frames = some X.stack
  stk : X.stack = X.outer ∨ (X.stack = X.env :: X.outer ∧ X.env.frame = some X.env.locals)
  exf : ∀ b ∈ X.ex, b ≠ X.env.locals ∧ ∀ x c, X.env.cells.lookup x = some c → c ≠ b
  bs : ∀ b o, X.base.get? b = some o → X.s₀.heap.get? b = some o ∧ X.H₀ b = none
  bsz : X.base.objs.size ≤ X.s₀.heap.objs.size
  noex : ∀ b o, X.base.get? b = some o → b ∉ X.ex
  exfs : ∀ b ∈ X.ex, b ∉ X.fs
  funs : X.s₀.heap.FunFrames X.base X.outer
  frf : ∀ b ∈ X.fs, X.H₀ b = none
structure Inv (X : Cx) (pins : List (Addr × Obj)) (σ : List (Option V)) (H : Hp) (s : Shared) : Prop where
  ok : X.Ok
  os : s.os = X.s₀.os
  bare : AllBare s.gens
  base : Un X.fs X.ex X.H₀ H X.s₀.heap s.heap
  loc : ∃ m, s.heap.Ns X.env.locals m ∧ ∀ (i : Nat) (x : Str) (v : V), X.N[i]? = some x → σ[i]? = some (some v) → Vis X.env.scope x → ∃ u, RelV v u ∧ Look X.env s.heap m x u
  cell : ∀ x c, X.env.cells.lookup x = some c → ∃ v, s.heap.IsCell c v
  free : H X.env.locals = none
  freeC : ∀ x c, X.env.cells.lookup x = some c → H c = none
  pin : ∀ p ∈ X.pn ++ pins, s.heap.get? p.1 = some p.2 ∧ H p.1 = none ∧ p.1 ≠ X.env.locals ∧ p.1 ∉ X.fs ∧ ∀ v, p.2.data ≠ .cell v
  hok : HOk X.prog X.w H s.heap
  len : σ.length = X.N.length
section
variable {X : Cx} {pins : List (Addr × Obj)} {σ : List (Option V)} {H H' : Hp} {s : Shared} {h' : Heap}
theorem Cx.Ok.nofr (ok : X.Ok) {b : Addr} {o : Obj} (e : X.base.get? b = some o) : b ∉ X.fs := fun hb => by
  have := (ok.funs.mem hb).1
  rw [e] at this; cases this
theorem Inv.bs (I : Inv X pins σ H s) : ∀ b o, X.base.get? b = some o → s.heap.get? b = some o ∧ H b = none := fun b o e =>
  ⟨I.base.keep b o (I.ok.bs b o e).1 (I.ok.bs b o e).2 (I.ok.nofr e) (I.ok.noex b o e), I.base.free b o (I.ok.bs b o e).1 (I.ok.bs b o e).2 (I.ok.noex b o e)⟩
theorem Inv.bk (I : Inv X pins σ H s) : ∀ b o, X.base.get? b = some o → s.heap.get? b = some o := fun b o e => (I.bs b o e).1
theorem Inv.mod (I : Inv X pins σ H s) : Mod X.K X.mg X.base := I.ok.mod
theorem Inv.kIn (I : Inv X pins σ H s) : X.K.In s.heap := I.ok.mod.kin.keeps I.bk
theorem Inv.nolimit (I : Inv X pins σ H s) : s.heap.NoLimit := I.ok.mod.nolimit.keeps I.bk
theorem Inv.lt (I : Inv X pins σ H s) : X.env.locals < s.heap.objs.size := let ⟨_, hn, _⟩ := I.loc; hn.lt
theorem Inv.sz (I : Inv X pins σ H s) : X.s₀.heap.objs.size ≤ s.heap.objs.size := Nat.le_trans I.ok.above (Nat.le_of_lt I.lt)
theorem Inv.nofs (I : Inv X pins σ H s) {a : Addr} (h : s.heap.objs.size ≤ a) : a ∉ X.fs := fun hb => by
  obtain ⟨_, o, ho, _⟩ := I.ok.funs.mem hb
  exact absurd (Nat.lt_of_lt_of_le (Heap.lt_size ho) (Nat.le_trans I.sz h)) (Nat.lt_irrefl _)
theorem Inv.cne (I : Inv X pins σ H s) : ∀ x c, X.env.cells.lookup x = some c → c ≠ X.env.locals := fun x c e z => by
  obtain ⟨v, o, ho, hd⟩ := I.cell x c e
  obtain ⟨m, ⟨o', es, ep, ho', hd', _⟩, _⟩ := I.loc
  rw [z, ho'] at ho; cases ho; rw [hd'] at hd; cases hd
theorem Inv.funs (I : Inv X pins σ H s) : s.heap.FunFrames X.base X.outer := by
  have all : ∀ (l : List Env), (∀ b ∈ frs l, b ∈ X.fs) → X.s₀.heap.FunFrames X.base l → s.heap.FunFrames X.base l := by
    intro l
    induction l with
    | nil => intro _ _; trivial
    | cons env r ih =>
      intro hs hl
      obtain ⟨hk, ⟨L, o, hf, hn, ho, hd⟩, hr⟩ := hl
      have hL : L ∈ X.fs := hs L (by unfold frs; rw [List.filterMap_cons, hf]; exact List.mem_cons_self)
      obtain ⟨sl, e⟩ := I.base.slot L o ho (I.ok.frf L hL) hL fun z => I.ok.exfs L z hL
      exact ⟨hk, ⟨L, _, hf, hn, e, hd⟩, ih (fun b hb => hs b (by unfold frs; rw [List.filterMap_cons, hf]; exact List.mem_cons_of_mem _ hb)) hr⟩
  exact all X.outer (fun _ hb => hb) I.ok.funs
theorem Inv.stack (I : Inv X pins σ H s) : s.heap.FunFrames X.base X.stack := by
  rcases I.ok.stk with e | ⟨e, hf⟩
  · rw [e]; exact I.funs
  · rw [e]
    obtain ⟨m, hn, _⟩ := I.loc
    refine .cons (by rw [I.ok.kind]; decide) hf hn ?_ I.funs
    exact Heap.get?_none_of_le (Nat.le_trans I.ok.bsz I.ok.above)
theorem Inv.stkSub (I : Inv X pins σ H s) : ∀ b ∈ frs X.stack, b ∈ X.env.locals :: X.fs := fun b hb => by
  rcases I.ok.stk with e | ⟨e, hf⟩
  · rw [e] at hb; exact List.mem_cons_of_mem _ hb
  · rw [e] at hb
    unfold frs at hb
    rw [List.filterMap_cons, hf] at hb
    exact hb
theorem Inv.stkFree (I : Inv X pins σ H s) : ∀ b ∈ frs X.stack, H b = none := fun b hb => by
  rcases List.mem_cons.mp (I.stkSub b hb) with e | hb
  · rw [e]; exact I.free
  · obtain ⟨_, o, ho, _⟩ := I.ok.funs.mem hb
    exact I.base.free b o ho (I.ok.frf b hb) fun z => I.ok.exfs b z hb
theorem Inv.step {g' : Array GenState} {t' : Nat} {d' : Drawn} {ch : List Addr} (I : Inv X pins σ H s)
    (hch : ∀ b ∈ ch, (b ∈ X.ex ∨ X.s₀.heap.objs.size ≤ b) ∧ b ≠ X.env.locals ∧ (∀ x c, X.env.cells.lookup x = some c → c ≠ b) ∧ ∀ p ∈ X.pn ++ pins, p.1 ≠ b)
    (keep : ∀ b o, b ≠ X.env.locals → b ∉ X.fs → b ∉ ch → s.heap.get? b = some o → H b = none → h'.get? b = some o)
    (slot : ∀ b o, b ≠ X.env.locals → b ∈ X.fs → b ∉ ch → s.heap.get? b = some o → H b = none → ∃ sl, h'.get? b = some { o with slots := sl }) (free : ∀ b o, b ∉ ch → s.heap.get? b = some o → H b = none → H' b = none)
    (there : ∀ b o, b ∉ ch → s.heap.get? b = some o → ∃ o', h'.get? b = some o')
    (tups : ∀ b xs, H b = some (.tup xs) → H' b = some (.tup xs)) (frzs : ∀ b o u, H b = some (.frz o u) → H' b = some (.frz o u)) (tbls : ∀ b ps, H b = some (.tbl ps) → ∃ more, H' b = some (.tbl (ps ++ more)))
    (ns : ∀ m, s.heap.Ns X.env.locals m → h'.Ns X.env.locals m) (hok : HOk X.prog X.w H' h') (hg : AllBare g') :
    Inv X pins σ H' { s with heap := h', gens := g', drawn := d', toks := t' } := by
  have neL : ∀ b o, X.s₀.heap.get? b = some o → b ≠ X.env.locals := fun b o e => Nat.ne_of_lt (Nat.lt_of_lt_of_le (Heap.lt_size e) I.ok.above)
  have neC : ∀ b o, X.s₀.heap.get? b = some o → b ∉ X.ex → b ∉ ch := fun b o e hx hb => by
    rcases (hch b hb).1 with z | z
    · exact hx z
    · exact absurd (Nat.lt_of_lt_of_le (Heap.lt_size e) z) (Nat.lt_irrefl _)
  have cellK : ∀ x c, X.env.cells.lookup x = some c → ∀ v, s.heap.IsCell c v → h'.IsCell c v := fun x c e v ⟨o, ho, hd⟩ => by
    have nch : c ∉ ch := fun z => (hch c z).2.2.1 x c e rfl
    by_cases hc : c ∈ X.fs
    · obtain ⟨sl, q⟩ := slot c o (I.cne x c e) hc nch ho (I.freeC x c e)
      exact ⟨_, q, hd⟩
    · exact ⟨o, keep c o (I.cne x c e) hc nch ho (I.freeC x c e), hd⟩
  refine ⟨I.ok, I.os, hg, ⟨fun b o e n hb hx => ?_, fun b o e n hb hx => ?_, fun b o e n hx => ?_, fun b o e hx => ?_, fun b xs e => tups b xs (I.base.tups b xs e), fun b o xs e => frzs b o xs (I.base.frzs b o xs e), fun b ps e => ?_⟩, ?_, fun x c e => ?_, ?_, fun x c e => ?_, fun p hp => ?_, hok, I.len⟩
  · exact keep b o (neL b o e) hb (neC b o e hx) (I.base.keep b o e n hb hx) (I.base.free b o e n hx)
  · obtain ⟨sl, e1⟩ := I.base.slot b o e n hb hx
    obtain ⟨sl', e2⟩ := slot b _ (neL b o e) hb (neC b o e hx) e1 (I.base.free b o e n hx)
    exact ⟨sl', e2⟩
  · obtain ⟨o', e1⟩ := I.base.there b o e hx
    exact free b o' (neC b o e hx) e1 (I.base.free b o e n hx)
  · obtain ⟨o', e1⟩ := I.base.there b o e hx
    exact there b o' (neC b o e hx) e1
  · obtain ⟨m1, e1⟩ := I.base.tbls b ps e
    obtain ⟨m2, e2⟩ := tbls b _ e1
    exact ⟨m1 ++ m2, by rw [e2, Array.append_assoc]⟩
  · obtain ⟨m, hn, hl⟩ := I.loc
    refine ⟨m, ns m hn, fun i x v e1 e2 e3 => ?_⟩
    obtain ⟨u, r, l⟩ := hl i x v e1 e2 e3
    refine ⟨u, r, ?_⟩
    rcases l with l | ⟨k, c, e, z⟩
    · exact .inl l
    · exact .inr ⟨k, c, e, cellK x c e _ z⟩
  · obtain ⟨v, z⟩ := I.cell x c e
    exact ⟨v, cellK x c e v z⟩
  · obtain ⟨m, ⟨o, _, _, ho, _⟩, _⟩ := I.loc
    exact free _ o (fun z => (hch _ z).2.1 rfl) ho I.free
  · obtain ⟨v, o, ho, hd⟩ := I.cell x c e
    exact free c o (fun z => (hch c z).2.2.1 x c e rfl) ho (I.freeC x c e)
  · obtain ⟨e, n, ne, nf, d⟩ := I.pin p hp
    have nch : p.1 ∉ ch := fun z => (hch p.1 z).2.2.2 p hp rfl
    exact ⟨keep p.1 p.2 ne nf nch e n, free p.1 p.2 nch e n, ne, nf, d⟩
theorem Inv.un {t' : Nat} (I : Inv X pins σ H s) (u : Un X.fs [] H H' s.heap h') (hok : HOk X.prog X.w H' h') : Inv X pins σ H' { s with heap := h', toks := t' } := by
  obtain ⟨m, ⟨o, es, ep, ho, r⟩, _⟩ := id I.loc
  obtain ⟨sl, hL⟩ := u.any ho I.free (by simp)
  exact I.step (g' := s.gens) (d' := s.drawn) (ch := []) (fun _ z => nomatch z) (fun b o _ hb _ e n => u.keep b o e n hb (by simp)) (fun b o _ hb _ e n => u.slot b o e n hb (by simp)) (fun b o _ e n => u.free b o e n (by simp)) (fun b o _ e => u.there b o e (by simp)) u.tups u.frzs u.tbls (fun m' hm => by
    obtain ⟨o', es', ep', ho', r'⟩ := hm
    rw [ho] at ho'; cases ho'
    exact ⟨_, es', ep', hL, r'⟩) hok I.bare
theorem Inv.call {g' : Array GenState} {t' : Nat} {d' : Drawn} {ch : List Addr} (I : Inv X pins σ H s) (u : Un (frs X.stack) ch H H' s.heap h') (hok : HOk X.prog X.w H' h') (hg : AllBare g')
    (hch : ∀ b ∈ ch, (b ∈ X.ex ∨ X.s₀.heap.objs.size ≤ b) ∧ b ≠ X.env.locals ∧ (∀ x c, X.env.cells.lookup x = some c → c ≠ b) ∧ ∀ p ∈ X.pn ++ pins, p.1 ≠ b) :
    Inv X pins σ H' { s with heap := h', gens := g', drawn := d', toks := t' } := by
  obtain ⟨m, ⟨o, es, ep, ho, r⟩, _⟩ := id I.loc
  obtain ⟨sl, hL⟩ := u.any ho I.free fun z => (hch _ z).2.1 rfl
  exact I.step (ch := ch) hch (fun b o hL hb hc e n => u.keep b o e n (fun z => (List.mem_cons.mp (I.stkSub b z)).elim hL hb) hc) (fun b o _ _ hc e n => u.any e n hc) (fun b o hc e n => u.free b o e n hc) (fun b o hc e => u.there b o e hc) u.tups u.frzs u.tbls (fun m' hm => by
    obtain ⟨o', es', ep', ho', r'⟩ := hm
    rw [ho] at ho'; cases ho'
    exact ⟨_, es', ep', hL, r'⟩) hok hg
theorem Inv.turned {t' : Nat} {it : Addr} (I : Inv X pins σ H s) (k : ∀ b o, b ≠ it → s.heap.get? b = some o → h'.get? b = some o) (hn : H it = none) (hL : it ≠ X.env.locals)
    (h1 : it ∈ X.ex ∨ X.s₀.heap.objs.size ≤ it) (h2 : ∀ x c, X.env.cells.lookup x = some c → c ≠ it) (h3 : ∀ p ∈ X.pn ++ pins, p.1 ≠ it) : Inv X pins σ H { s with heap := h', toks := t' } := by
  have nit : ∀ b u, H b = some u → b ≠ it := fun b u e z => by rw [z, hn] at e; cases e
  refine I.step (g' := s.gens) (d' := s.drawn) (ch := [it]) (fun b hb => ?_) (fun b o _ _ hc e _ => k b o (fun z => hc (by simp [z])) e) (fun b o _ _ hc e _ => ⟨o.slots, k b o (fun z => hc (by simp [z])) e⟩) (fun _ _ _ _ n => n)
    (fun b o hc e => ⟨o, k b o (fun z => hc (by simp [z])) e⟩) (fun _ _ e => e) (fun _ _ _ e => e) (fun b ps e => ⟨#[], by rw [e]; simp⟩) (fun m hm => ?_) (fun b u e => ?_) I.bare
  · have e : b = it := by simpa using hb
    subst e
    exact ⟨h1, hL, h2, h3⟩
  · obtain ⟨o, es, ep, ho, r⟩ := hm
    exact ⟨o, es, ep, k _ o (Ne.symm hL) ho, r⟩
  · refine (I.hok b u e).stay (fun c v hc q => k c v ?_ q) (fun _ q => q) fun _ _ q => q
    rcases hc with z | z
    · rw [z]; exact nit b u e
    · exact nit c _ z
theorem Inv.tok (I : Inv X pins σ H s) (t : Nat) : Inv X pins σ H { s with toks := t } := I.un (h' := s.heap) (t' := t) Un.refl I.hok
theorem Inv.kept {t' : Nat} (I : Inv X pins σ H s) (k : ∀ b u, s.heap.get? b = some u → h'.get? b = some u) : Inv X pins σ H { s with heap := h', toks := t' } := I.un (Un.kept k) (I.hok.kept k)
theorem Inv.laid {a : Addr} {o : HO} {t' : Nat} (I : Inv X pins σ H s) (k : ∀ b u, s.heap.get? b = some u → h'.get? b = some u) (hp : s.heap.objs.size ≤ a) (new : ObjOk X.prog X.w (upd H a o) h' a o) :
    Inv X pins σ (upd H a o) { s with heap := h', toks := t' } := I.un (Un.laid k hp (I.hok.fresh hp)) (I.hok.laid k hp new)
theorem Inv.write {x e : Addr} {o : HO} {t' : Nat} (I : Inv X pins σ H s) (mu : Mut (H x)) (he : e = x ∨ H e = some (.own x)) (k : ∀ b u, b ≠ e → s.heap.get? b = some u → h'.get? b = some u) (heo : ∃ u, h'.get? e = some u)
    (new : ObjOk X.prog X.w (upd H x o) h' x o) : Inv X pins σ (upd H x o) { s with heap := h', toks := t' } := I.un (Un.write mu he k heo) (I.hok.write mu he k heo new)
theorem Inv.weak {σ' : List (Option V)} (I : Inv X pins σ H s) (hl : σ'.length = σ.length) (w : ∀ (i : Nat) v, σ'[i]? = some (some v) → σ[i]? = some (some v)) : Inv X pins σ' H s :=
  ⟨I.ok, I.os, I.bare, I.base, let ⟨m, hn, hl'⟩ := I.loc; ⟨m, hn, fun i x v e1 e2 e3 => hl' i x v e1 (w i v e2) e3⟩, I.cell, I.free, I.freeC, I.pin, I.hok, hl.trans I.len⟩
theorem Inv.pins_of {pins' : List (Addr × Obj)} (I : Inv X pins σ H s) (h : ∀ p ∈ pins', s.heap.get? p.1 = some p.2 ∧ H p.1 = none ∧ p.1 ≠ X.env.locals ∧ p.1 ∉ X.fs ∧ ∀ v, p.2.data ≠ .cell v) : Inv X pins' σ H s :=
  ⟨I.ok, I.os, I.bare, I.base, I.loc, I.cell, I.free, I.freeC, fun p hp => (List.mem_append.mp hp).elim (fun z => I.pin p (List.mem_append_left _ z)) (h p), I.hok, I.len⟩
theorem nodup_ix {N : List Str} (hN : N.Nodup) {i j : Nat} {x : Str} (a : N[i]? = some x) (b : N[j]? = some x) : i = j := by
  obtain ⟨h1, e1⟩ := List.getElem?_eq_some_iff.mp a
  obtain ⟨h2, e2⟩ := List.getElem?_eq_some_iff.mp b
  exact (List.getElem_inj hN).mp (e1.trans e2.symm)
theorem store_ok2 {M : Model} {A : Around} {E : Value → Shared → Prop} {i : Nat} {x : Str} {v : V} {u : Value} {Q : Unit → Shared → Prop} (I : Inv X pins σ H s) (hN : X.N.Nodup) (hi : X.N[i]? = some x) (hx : Loc X.env.scope x) (r : RelV v u)
    (h : ∀ s', Inv X pins (σ.set i (some v)) H s' → (∃ a, Heap.SameBut a s.heap s'.heap ∧ (a = X.env.locals ∨ X.env.cells.lookup x = some a)) → Q () s') (hf : X.fn x = true ∨ X.env.scope.names.lookup x = some .local := by first | exact .inl rfl | exact .inr rfl | assumption) : wpAny M A (storeName X.env x u) Q E s := by
  obtain ⟨m, hn, hl⟩ := id I.loc
  have hcls : (X.env.scope.kind == .class || (X.env.scope.kind == .module && X.env.locals != X.env.globals)) = false := by rw [I.ok.kind]; rfl
  have hiσ : i < σ.length := by rw [I.len]; exact (List.getElem?_eq_some_iff.mp hi).1
  have cne := I.cne
  have tracked : ∀ {a : Addr} {h' : Heap}, (∃ o, s.heap.get? a = some o ∧ H a = none) → Heap.SameBut a s.heap h' → HOk X.prog X.w H h' := fun {a h'} ha hs b ob e => by
    obtain ⟨_, _, hfree⟩ := ha
    refine (I.hok b ob e).stay (fun c w' hc q => (hs.2 c ?_).trans q) (fun _ q => q) fun _ _ q => q
    rintro rfl
    rcases hc with rfl | hc
    · rw [hfree] at e; cases e
    · rw [hfree] at hc; cases hc
  rcases hx with hk | hk
  · refine wpAny_storeName_local hk hn (fun h' hn' hs => ?_) hcls
    obtain ⟨oL, _, _, hoL, _⟩ := id hn
    refine h _ ⟨I.ok, I.os, I.bare, ⟨fun b o e n hb hx => ?_, fun b o e n hb hx => ?_, I.base.free, fun b o e hx => ?_, I.base.tups, I.base.frzs, I.base.tbls⟩, ⟨_, hn', fun j y v' e1 e2 e3 => ?_⟩, fun y c e => ?_, I.free, I.freeC, fun p hp => ?_, tracked ⟨oL, hoL, I.free⟩ hs, by simpa using I.len⟩ ⟨_, hs, .inl rfl⟩
    · exact (hs.2 b (Nat.ne_of_lt (Nat.lt_of_lt_of_le (Heap.lt_size e) I.ok.above))).trans (I.base.keep b o e n hb hx)
    · obtain ⟨sl, e1⟩ := I.base.slot b o e n hb hx
      exact ⟨sl, (hs.2 b (Nat.ne_of_lt (Nat.lt_of_lt_of_le (Heap.lt_size e) I.ok.above))).trans e1⟩
    · obtain ⟨o', e1⟩ := I.base.there b o e hx
      exact ⟨o', (hs.2 b (Nat.ne_of_lt (Nat.lt_of_lt_of_le (Heap.lt_size e) I.ok.above))).trans e1⟩
    · by_cases hj : j = i
      · subst hj
        rw [hi] at e1; cases e1
        rw [List.getElem?_set_self hiσ] at e2
        cases e2
        exact ⟨u, r, .inl ⟨hk, by simp⟩⟩
      · rw [List.getElem?_set_ne (Ne.symm hj)] at e2
        obtain ⟨u', r', q⟩ := hl j y v' e1 e2 e3
        refine ⟨u', r', ?_⟩
        rcases q with ⟨k, e⟩ | ⟨k, c, e, z⟩
        · refine .inl ⟨k, ?_⟩
          have : y ≠ x := fun e => hj (nodup_ix hN e1 (e ▸ hi))
          simp [this, e]
        · exact .inr ⟨k, c, e, z.sameBut hs (cne y c e)⟩
    · obtain ⟨w', z⟩ := I.cell y c e
      exact ⟨w', z.sameBut hs (cne y c e)⟩
    · obtain ⟨e, n, ne, nf, d⟩ := I.pin p hp
      exact ⟨(hs.2 p.1 ne).trans e, n, ne, nf, d⟩
  · have hfn : X.fn x = true := by
      rcases hf with z | z
      · exact z
      · rw [z] at hk; cases hk
    obtain ⟨c, hc⟩ := I.ok.has x (.inl hk)
    obtain ⟨w', z⟩ := I.cell x c hc
    refine wpAny_storeName_cell I.ok.kind hk hc z (fun h' hc' hs => ?_)
    obtain ⟨oc, hoc, hocd⟩ := id z
    refine h { s with heap := h' } ⟨I.ok, I.os, I.bare, ⟨fun b o e n hb hx => ?_, fun b o e n hb hx => ?_, I.base.free, fun b o e hx => ?_, I.base.tups, I.base.frzs, I.base.tbls⟩, ⟨m, hn.sameBut hs (Ne.symm (cne x c hc)), fun j y v' e1 e2 e3 => ?_⟩, fun y c' e => ?_, I.free, I.freeC, fun p hp => ?_, tracked ⟨oc, hoc, I.freeC x c hc⟩ hs, by simpa using I.len⟩ ⟨c, hs, .inr hc⟩
    · exact (hs.2 b (Nat.ne_of_lt (Nat.lt_of_lt_of_le (Heap.lt_size e) (I.ok.cab x c hfn hc)))).trans (I.base.keep b o e n hb hx)
    · obtain ⟨sl, e1⟩ := I.base.slot b o e n hb hx
      exact ⟨sl, (hs.2 b (Nat.ne_of_lt (Nat.lt_of_lt_of_le (Heap.lt_size e) (I.ok.cab x c hfn hc)))).trans e1⟩
    · obtain ⟨o', e1⟩ := I.base.there b o e hx
      exact ⟨o', (hs.2 b (Nat.ne_of_lt (Nat.lt_of_lt_of_le (Heap.lt_size e) (I.ok.cab x c hfn hc)))).trans e1⟩
    · by_cases hj : j = i
      · subst hj
        rw [hi] at e1; cases e1
        rw [List.getElem?_set_self hiσ] at e2
        cases e2
        exact ⟨u, r, .inr ⟨.inl hk, c, hc, hc'⟩⟩
      · rw [List.getElem?_set_ne (Ne.symm hj)] at e2
        obtain ⟨u', r', q⟩ := hl j y v' e1 e2 e3
        refine ⟨u', r', ?_⟩
        rcases q with q | ⟨k, c', e, z'⟩
        · exact .inl q
        · refine .inr ⟨k, c', e, z'.sameBut hs ?_⟩
          rintro rfl
          exact hj (nodup_ix hN e1 (I.ok.inj _ _ _ e hc ▸ hi))
    · by_cases hcc : c' = c
      · subst hcc; exact ⟨_, hc'⟩
      · obtain ⟨w2, z2⟩ := I.cell y c' e
        exact ⟨w2, z2.sameBut hs hcc⟩
    · obtain ⟨e, n, ne, nf, d⟩ := I.pin p hp
      refine ⟨(hs.2 p.1 ?_).trans e, n, ne, nf, d⟩
      intro q
      rw [q, hoc] at e
      have q' : oc = p.2 := Option.some.inj e
      exact d w' (by rw [← q']; exact hocd)
theorem store_ok {M : Model} {A : Around} {E : Value → Shared → Prop} {i : Nat} {x : Str} {v : V} {u : Value} {Q : Unit → Shared → Prop} (I : Inv X pins σ H s) (hN : X.N.Nodup) (hi : X.N[i]? = some x) (hx : Loc X.env.scope x) (r : RelV v u)
    (h : ∀ s', Inv X pins (σ.set i (some v)) H s' → Q () s') (hf : X.fn x = true ∨ X.env.scope.names.lookup x = some .local := by first | exact .inl rfl | exact .inr rfl | assumption) : wpAny M A (storeName X.env x u) Q E s :=
  store_ok2 I hN hi hx r (fun s' I' _ => h s' I') hf
end
abbrev XK := Value → Option Addr → Hp → Prop
abbrev St := List (Option V)
abbrev VK := V → Hp → Prop
abbrev TE := St → Hp → VK → Prop
abbrev TT := St → Hp → (Bool → Hp → Prop) → Prop
abbrev TA := St → Hp → (List V → Hp → Prop) → Prop
structure Ends where
  nx : St → Hp → Prop
  rt : VK
  bk : St → Hp → Prop := fun _ _ => False
  ct : St → Hp → Prop := fun _ _ => False
abbrev TS := Ends → St → Hp → Prop
def EP (X : Cx) (pins : List (Addr × Obj)) (σ : St) (Q : VK) (u : Value) (s' : Shared) : Prop := ∃ v H', Inv X pins σ H' s' ∧ RelV v u ∧ Q v H'
def TP (X : Cx) (pins : List (Addr × Obj)) (σ : St) (Q : Bool → Hp → Prop) (b : Bool) (s' : Shared) : Prop := ∃ H', Inv X pins σ H' s' ∧ Q b H'
def AP (X : Cx) (pins : List (Addr × Obj)) (σ : St) (Q : List V → Hp → Prop) (us : List Value) (s' : Shared) : Prop := ∃ vs H', Inv X pins σ H' s' ∧ Vals vs us ∧ Q vs H'
def SP (X : Cx) (pins : List (Addr × Obj)) (D : Ends) (f : Flow) (s' : Shared) : Prop :=
  match f with
  | .next => ∃ σ' H', Inv X pins σ' H' s' ∧ D.nx σ' H'
  | .brk => ∃ σ' H', Inv X pins σ' H' s' ∧ D.bk σ' H'
  | .cont => ∃ σ' H', Inv X pins σ' H' s' ∧ D.ct σ' H'
  | .ret u => ∃ v σ' H', Inv X pins σ' H' s' ∧ RelV v u ∧ D.rt v H'
def PE (X : Cx) (e : Expr) (t : TE) : Prop :=
  ∀ (pins : List (Addr × Obj)) (s : Shared) (σ : St) (H : Hp) (Q : VK), Inv X pins σ H s → t σ H Q → wpAny (model X.prog X.w) X.A (eval e X.env) (EP X pins σ Q) X.xe s
def PT (X : Cx) (e : Expr) (t : TT) : Prop :=
  ∀ (pins : List (Addr × Obj)) (s : Shared) (σ : St) (H : Hp) (Q : Bool → Hp → Prop), Inv X pins σ H s → t σ H Q → wpAny (model X.prog X.w) X.A (isTrue e X.env (eval e X.env)) (TP X pins σ Q) X.xe s
def PW (X : Cx) (e : Expr) (t : TT) : Prop :=
  ∀ (whole : Sem Value) (pins : List (Addr × Obj)) (s : Shared) (σ : St) (H : Hp) (Q : Bool → Hp → Prop), Inv X pins σ H s → t σ H Q → wpAny (model X.prog X.w) X.A (isTrue e X.env whole) (TP X pins σ Q) X.xe s
theorem PW.pt {X : Cx} {e : Expr} {t : TT} (h : PW X e t) : PT X e t := h _
def PA (X : Cx) (es : List Expr) (t : TA) : Prop :=
  ∀ (pos : Pos) (pins : List (Addr × Obj)) (s : Shared) (σ : St) (H : Hp) (Q : List V → Hp → Prop), Inv X pins σ H s → t σ H Q → wpAny (model X.prog X.w) X.A (spliced (backTo pos (starEach es X.env))) (AP X pins σ Q) X.xe s
def PS (X : Cx) (st : Stmt) (t : TS) : Prop :=
  ∀ (pins : List (Addr × Obj)) (s : Shared) (σ : St) (H : Hp) (D : Ends), Inv X pins σ H s → t D σ H → wpAny (model X.prog X.w) X.A (exec st X.env) (SP X pins D) X.xe s
def PSs (X : Cx) (st : List Stmt) (t : TS) : Prop :=
  ∀ (pins : List (Addr × Obj)) (s : Shared) (σ : St) (H : Hp) (D : Ends), Inv X pins σ H s → t D σ H → wpAny (model X.prog X.w) X.A (execs st X.env) (SP X pins D) X.xe s
theorem thn {α : Type} {t : Sem α} {Q Q' : α → Shared → Prop} {M : Model} {A : Around} {E : Value → Shared → Prop} {s : Shared} (h : wpAny M A t Q E s) (hQ : ∀ a s, Q a s → Q' a s) : wpAny M A t Q' E s := wpAny_mono h hQ fun _ _ x => x
end L2
namespace L2
open PySem PySem.Spec PyProof.Rows
section
variable {X : Cx}
def tVar (i : Nat) : TE := fun σ H Q => ∃ v, σ[i]? = some (some v) ∧ Q v H
def tC (v : V) : TE := fun _ H Q => Q v H
theorem pe_var {i : Nat} {x : Str} {pos : Pos} (hN : X.N[i]? = some x) (hv : Vis X.env.scope x) (hd : (x == ("__debug__" : Str)) = false := by decide) (hcd : (x == ("__classdict__" : Str)) = false := by decide) : PE X (.Name x pos) (tVar i) := by
  intro pins s σ H Q I h
  obtain ⟨v, e, h⟩ := h
  obtain ⟨m, hn, hl⟩ := I.loc
  obtain ⟨u, r, l⟩ := hl i x v hN e hv
  have fin : EP X pins σ Q u s := ⟨v, H, I, r, h⟩
  rcases l with ⟨hk, hm⟩ | ⟨hk, c, hc, hcell⟩
  · exact wpAny_Name (wpAny_loadName_local I.ok.kind hk hn hm fin) hd
  · rcases hk with hk | hk
    · exact wpAny_Name (wpAny_loadName_cell I.ok.kind hk hc hcell fin) hd
    · exact wpAny_Name (wpAny_loadName_free I.ok.kind hk hc hcell fin hcd) hd
theorem pe_int {i j pos} : PE X (.Constant (.int i) j pos) (tC (.int i)) := fun _ _ _ H _ I h => wpAny_Constant_int ⟨.int i, H, I.tok _, ⟨_, rfl⟩, h⟩
theorem pe_bl {b j pos} : PE X (.Constant (.bool b) j pos) (tC (.bl b)) := fun _ _ _ H _ I h => Constant_bool ⟨.bl b, H, I, rfl, h⟩
theorem pe_non {j pos} : PE X (.Constant .none j pos) (tC .non) := fun _ _ _ H _ I h => Constant_none ⟨.non, H, I, rfl, h⟩
theorem pe_str {x j pos} : PE X (.Constant (.str x) j pos) (tC (.str x)) := fun _ _ _ H _ I h => Calls.Constant_str ⟨.str x, H, I.tok _, ⟨_, rfl⟩, h⟩
def Gl (X : Cx) (x : Str) : Prop := X.env.kindOf x = some .globalImplicit
theorem ld_glob {E : Value → Shared → Prop} {pins : List (Addr × Obj)} {s : Shared} {σ : St} {H : Hp} {x : Str} {u : Value} {pos : Pos} {Q : Value → Shared → Prop} (I : Inv X pins σ H s) (hg : Gl X x) (hm : X.mg x = some u) (h : Q u s)
    (hd : (x == ("__debug__" : Str)) = false := by decide) : wpAny (model X.prog X.w) X.A (eval (.Name x pos) X.env) Q E s :=
  Calls.Name_function_global I.ok.kind hg (Calls.loadGlobal_global (by rw [I.ok.glob]; exact I.mod.glob.keeps I.bk) hm h) hd
theorem ld_blt {E : Value → Shared → Prop} {pins : List (Addr × Obj)} {s : Shared} {σ : St} {H : Hp} {x : Str} {u : Value} {pos : Pos} {Q : Value → Shared → Prop} (I : Inv X pins σ H s) (hg : Gl X x) (hm : X.mg x = none) (hv : bootBuiltins x = some u) (h : Q u s)
    (hn : x ≠ "__name__" := by decide) (hd : (x == ("__debug__" : Str)) = false := by decide) : wpAny (model X.prog X.w) X.A (eval (.Name x pos) X.env) Q E s := by
  obtain ⟨mb, h1, h2⟩ := I.mod.blt
  exact Calls.Name_function_global I.ok.kind hg (Calls.loadGlobal_builtin (by rw [I.ok.glob]; exact I.mod.glob.keeps I.bk) hm (by rw [I.ok.blt]; exact h1.keeps I.bk) ((h2 x hn).trans hv) h) hd
theorem pe_glob {x : Str} {v : V} {u : Value} {pos : Pos} (hg : Gl X x) (hm : X.mg x = some u) (r : RelV v u) (hd : (x == ("__debug__" : Str)) = false := by decide) : PE X (.Name x pos) (tC v) :=
  fun _ _ _ H _ I h => ld_glob I hg hm ⟨v, H, I, r, h⟩ hd
theorem pe_bltn {x : Str} {v : V} {u : Value} {pos : Pos} (hg : Gl X x) (hm : X.mg x = none) (hv : bootBuiltins x = some u) (r : RelV v u) (hn : x ≠ "__name__" := by decide) (hd : (x == ("__debug__" : Str)) = false := by decide) : PE X (.Name x pos) (tC v) :=
  fun _ _ _ H _ I h => ld_blt I hg hm hv ⟨v, H, I, r, h⟩ hn hd
variable {a b : Expr} {ta tb : TE} {pos : Pos}
def tB (t : TE) : TT := fun σ H Q => t σ H fun x H1 => ∃ c, x = .bl c ∧ Q c H1
theorem pt_val {e : Expr} {t : TE} (h : PE X e t) (he : ∀ whole, isTrue e X.env whole = (do let v ← whole; standAt e.pos; holding [v] (truthy v)) := by intro _; rfl) : PT X e (tB t) := by
  intro pins s σ H Q I hw
  refine isTrue_plain (thn (h pins s σ H _ I hw) fun v s1 ⟨x, H1, I1, r1, q1⟩ => ?_) (he _)
  obtain ⟨d, rfl, q⟩ := q1
  cases r1
  exact wpAny_truthy_bool ⟨H1, I1, q⟩
variable {tA tB' : TT} {rest : List Expr}
def tAnd (t u : TT) : TT := fun σ H Q => t σ H fun c H1 => if c = true then u σ H1 Q else Q false H1
def tOr (t u : TT) : TT := fun σ H Q => t σ H fun c H1 => if c = true then Q true H1 else u σ H1 Q
def tNot (t : TT) : TT := fun σ H Q => t σ H fun c H1 => Q (!c) H1
theorem pw_and1 (ha : PT X a tA) : PW X (.BoolOp .And [a] pos) tA := by
  intro wh pins s σ H Q I h
  refine isTrue_and (thn (ha pins s σ H Q I h) fun c s1 e => ?_)
  cases c with
  | true => exact isTrue_and_nil e
  | false => exact e
theorem pw_or1 (ha : PT X a tA) : PW X (.BoolOp .Or [a] pos) tA := by
  intro wh pins s σ H Q I h
  refine isTrue_or (thn (ha pins s σ H Q I h) fun c s1 e => ?_)
  cases c with
  | false => exact isTrue_or_nil e
  | true => exact e
theorem pw_and (ha : PT X a tA) (hb : PW X (.BoolOp .And (b :: rest) pos) tB') : PW X (.BoolOp .And (a :: b :: rest) pos) (tAnd tA tB') := by
  intro wh pins s σ H Q I h
  refine isTrue_and (thn (ha pins s σ H _ I h) fun c s1 ⟨H1, I1, q1⟩ => ?_)
  cases c with
  | true => exact hb wh pins s1 σ H1 Q I1 q1
  | false => exact ⟨H1, I1, q1⟩
theorem pw_or (ha : PT X a tA) (hb : PW X (.BoolOp .Or (b :: rest) pos) tB') : PW X (.BoolOp .Or (a :: b :: rest) pos) (tOr tA tB') := by
  intro wh pins s σ H Q I h
  refine isTrue_or (thn (ha pins s σ H _ I h) fun c s1 ⟨H1, I1, q1⟩ => ?_)
  cases c with
  | true => exact ⟨H1, I1, q1⟩
  | false => exact hb wh pins s1 σ H1 Q I1 q1
theorem pt_not (ha : PT X a tA) : PT X (.UnaryOp .Not a pos) (tNot tA) := by
  intro pins s σ H Q I h
  exact isTrue_not (ha pins s σ H (fun c H1 => Q (!c) H1) I h)
def tAndV (ta tb : TE) : TE := fun σ H Q => ta σ H fun x H1 => ∃ c, x = .bl c ∧ if c = true then tb σ H1 Q else Q (.bl false) H1
def tOrV (ta tb : TE) : TE := fun σ H Q => ta σ H fun x H1 => ∃ c, x = .bl c ∧ if c = true then Q (.bl true) H1 else tb σ H1 Q
theorem pe_one {op} {t : TE} (h : PE X a t) : PE X (.BoolOp op [a] pos) t := fun pins s σ H Q I hw => BoolOp_one (h pins s σ H Q I hw)
theorem pe_and (ha : PE X a ta) (hb : PE X (.BoolOp .And (b :: rest) pos) tb) : PE X (.BoolOp .And (a :: b :: rest) pos) (tAndV ta tb) := by
  intro pins s σ H Q I h
  refine BoolOp_and (thn (ha pins s σ H _ I h) fun v s1 ⟨x, H1, I1, r1, q1⟩ => ?_)
  obtain ⟨c, rfl, q1⟩ := q1
  cases r1
  refine wpAny_truthy_bool ?_
  cases c with
  | true => exact hb pins s1 σ H1 Q I1 q1
  | false => exact ⟨.bl false, H1, I1, rfl, q1⟩
theorem pe_or (ha : PE X a ta) (hb : PE X (.BoolOp .Or (b :: rest) pos) tb) : PE X (.BoolOp .Or (a :: b :: rest) pos) (tOrV ta tb) := by
  intro pins s σ H Q I h
  refine BoolOp_or (thn (ha pins s σ H _ I h) fun v s1 ⟨x, H1, I1, r1, q1⟩ => ?_)
  obtain ⟨c, rfl, q1⟩ := q1
  cases r1
  refine wpAny_truthy_bool ?_
  cases c with
  | false => exact hb pins s1 σ H1 Q I1 q1
  | true => exact ⟨.bl true, H1, I1, rfl, q1⟩
end
end L2
namespace L2
open PySem PySem.Spec PyProof.Rows
def SqL (K : PySem.W.Frag) (H : Hp) (a : Addr) (xs : List V) : Prop :=
  Rd H a (.lst xs) ∨
    ∃ (o : Obj) (its : Array Value) (n : Nat), K.lookup a = some o ∧ o.cls = .type "list" ∧ o.dict = none ∧ o.data = .seq its n ∧ its.size ≤ sizeLine ∧ Vals xs its.toList
def SqT (K : PySem.W.Frag) (H : Hp) (a : Addr) (xs : List V) : Prop :=
  Rd H a (.tup xs) ∨
    ∃ (o : Obj) (its : Array Value) (n : Nat), K.lookup a = some o ∧ o.cls = .type "tuple" ∧ o.data = .seq its n ∧ its.size ≤ sizeLine ∧ Vals xs its.toList
def absV : Value → Option V
  | .none => some .non
  | .bool b => some (.bl b)
  | .int i _ => some (.int i)
  | .str x _ => some (.str x)
  | .bytes b _ => some (.byt b)
  | .float b _ => some (.flt b)
  | .ref a => some (.ref a)
  | .type n => some (.ty n)
  | _ => none
theorem RelV.abs {x : V} {u : Value} (r : RelV x u) : absV u = some x := by
  cases x with
  | non => cases r; rfl
  | bl _ => cases r; rfl
  | int _ => obtain ⟨t, rfl⟩ := r; rfl
  | str _ => obtain ⟨t, rfl⟩ := r; rfl
  | byt _ => obtain ⟨t, rfl⟩ := r; rfl
  | flt _ => obtain ⟨t, rfl⟩ := r; rfl
  | ref _ => cases r; rfl
  | ty _ => cases r; rfl
theorem RelV.inj {x y : V} {u : Value} (r : RelV x u) (q : RelV y u) : x = y := Option.some.inj (r.abs.symm.trans q.abs)
theorem Vals.inj : ∀ {xs ys : List V} {us : List Value}, Vals xs us → Vals ys us → xs = ys
  | _, _, _, .nil, .nil => rfl
  | _, _, _, .cons r t, .cons r' t' => by rw [r.inj r', Vals.inj t t']
section
variable {X : Cx} {pins : List (Addr × Obj)} {σ : St} {H : Hp} {s : Shared} {a : Addr} {xs ys : List V}
theorem SqL.of {K : PySem.W.Frag} (h : H a = some (.lst xs)) : SqL K H a xs := .inl (.inl h)
theorem SqT.of {K : PySem.W.Frag} (h : H a = some (.tup xs)) : SqT K H a xs := .inl (.inl h)
theorem Inv.list (I : Inv X pins σ H s) (h : SqL X.K H a xs) : ∃ its : List Value, Vals xs its ∧ PlainL s.heap a its.toArray ∧ xs.length ≤ sizeLine := by
  rcases h with h | ⟨o, its, n, hk, hc, hd, hs, hz, r⟩
  · obtain ⟨z, its, n, r, e⟩ := h.ok I.hok
    exact ⟨its, r, ⟨_, n, e, rfl, rfl, rfl⟩, z⟩
  · refine ⟨its.toList, r, ⟨o, n, I.kIn a o hk, hc, hd, by simpa using hs⟩, ?_⟩
    have e := r.length
    simp only [Array.length_toList] at e
    omega
theorem Inv.tuple (I : Inv X pins σ H s) (h : SqT X.K H a xs) : ∃ its : List Value, Vals xs its ∧ IsTup s.heap a its.toArray ∧ xs.length ≤ sizeLine := by
  rcases h with h | ⟨o, its, n, hk, hc, hs, hz, r⟩
  · obtain ⟨z, its, r, p⟩ := h.ok I.hok
    exact ⟨its, r, p, z⟩
  · refine ⟨its.toList, r, ⟨o, I.kIn a o hk, hc, n, by simpa using hs⟩, ?_⟩
    have e := r.length
    simp only [Array.length_toList] at e
    omega
theorem Inv.tuple_inj (I : Inv X pins σ H s) (h : SqT X.K H a xs) (h' : SqT X.K H a ys) : xs = ys := by
  obtain ⟨its, r, ⟨o, e, _, n, d⟩, _⟩ := I.tuple h
  obtain ⟨its', r', ⟨o', e', _, n', d'⟩, _⟩ := I.tuple h'
  rw [e] at e'; cases e'
  rw [d] at d'
  injection d' with d1 _
  have : its = its' := by simpa using congrArg Array.toList d1
  subst this
  exact r.inj r'
end
abbrev Cx.wish (X : Cx) (E : Value → Shared → Prop) : Cx := { X with xe := E }
abbrev Cx.nox (X : Cx) : Cx := X.wish fun _ _ => False
theorem Cx.Ok.wish {X : Cx} (ok : X.Ok) (E : Value → Shared → Prop) : (X.wish E).Ok :=
  ⟨ok.mod, ok.kind, ok.glob, ok.blt, ok.above, ok.inj, ok.has, ok.cab, ok.hd, ok.frames, ok.stk, ok.exf, ok.bs, ok.bsz, ok.noex, ok.exfs, ok.funs, ok.frf⟩
theorem Cx.Ok.unwish {X : Cx} {E : Value → Shared → Prop} (ok : (X.wish E).Ok) : X.Ok :=
  ⟨ok.mod, ok.kind, ok.glob, ok.blt, ok.above, ok.inj, ok.has, ok.cab, ok.hd, ok.frames, ok.stk, ok.exf, ok.bs, ok.bsz, ok.noex, ok.exfs, ok.funs, ok.frf⟩
section
variable {X : Cx} {pins : List (Addr × Obj)} {σ : St} {H : Hp} {s : Shared} {E : Value → Shared → Prop}
theorem Inv.wish (I : Inv X pins σ H s) (E : Value → Shared → Prop) : Inv (X.wish E) pins σ H s := ⟨I.ok.wish E, I.os, I.bare, I.base, I.loc, I.cell, I.free, I.freeC, I.pin, I.hok, I.len⟩
theorem Inv.unwish (I : Inv (X.wish E) pins σ H s) : Inv X pins σ H s := ⟨I.ok.unwish, I.os, I.bare, I.base, I.loc, I.cell, I.free, I.freeC, I.pin, I.hok, I.len⟩
theorem SP.unwish {D : Ends} {f : Flow} {s' : Shared} (h : SP (X.wish E) pins D f s') : SP X pins D f s' := by
  cases f with
  | next => obtain ⟨σ', H', I, q⟩ := h; exact ⟨σ', H', I.unwish, q⟩
  | brk => obtain ⟨σ', H', I, q⟩ := h; exact ⟨σ', H', I.unwish, q⟩
  | cont => obtain ⟨σ', H', I, q⟩ := h; exact ⟨σ', H', I.unwish, q⟩
  | ret u => obtain ⟨v, σ', H', I, r, q⟩ := h; exact ⟨v, σ', H', I.unwish, r, q⟩
theorem PE.nox {e : Expr} {t : TE} (h : PE X.nox e t) : PE X e t := fun pins s σ H Q I hw =>
  wpAny_mono (h pins s σ H Q (I.wish _) hw) (fun _ _ ⟨v, H', I', r, q⟩ => ⟨v, H', I'.unwish, r, q⟩) fun _ _ z => False.elim z
theorem PT.nox {e : Expr} {t : TT} (h : PT X.nox e t) : PT X e t := fun pins s σ H Q I hw =>
  wpAny_mono (h pins s σ H Q (I.wish _) hw) (fun _ _ ⟨H', I', q⟩ => ⟨H', I'.unwish, q⟩) fun _ _ z => False.elim z
theorem PSs.nox {st : List Stmt} {t : TS} (h : PSs X.nox st t) : PSs X st t := fun pins s σ H D I hw =>
  wpAny_mono (h pins s σ H D (I.wish _) hw) (fun _ _ q => q.unwish) fun _ _ z => False.elim z
end
section
variable {X : Cx} {st : Stmt} {rest : List Stmt} {t u : TS} {e : Expr} {te : TE} {pos : Pos}
def tNext : TS := fun D σ H => D.nx σ H
def tSeq (t u : TS) : TS := fun D σ H => t { D with nx := u D } σ H
theorem pss_nil : PSs X [] tNext := fun _ _ σ H _ I h => wpAny_execs_nil ⟨σ, H, I, h⟩
theorem pss_cons (h1 : PS X st t) (h2 : PSs X rest u) : PSs X (st :: rest) (tSeq t u) := by
  intro pins s σ H D I h
  refine wpAny_execs_cons (thn (h1 pins s σ H { D with nx := u D } I h) fun f s1 q => ?_)
  cases f with
  | next =>
    obtain ⟨σ', H', I', q⟩ := q
    exact h2 pins s1 σ' H' D I' q
  | ret v => exact q
  | brk => exact q
  | cont => exact q
theorem pss_one (h1 : PS X st t) : PSs X [st] t := by
  intro pins s σ H D I h
  refine wpAny_execs_cons (thn (h1 pins s σ H D I h) fun f s1 q => ?_)
  cases f with
  | next => exact wpAny_execs_nil q
  | ret v => exact q
  | brk => exact q
  | cont => exact q
theorem Inv.quiet {pins : List (Addr × Obj)} {σ : St} {H : Hp} {s : Shared} (I : Inv X pins σ H s) : interactive X.env = false := by simp [interactive, I.ok.kind]
def tDrop (te : TE) : TS := fun D σ H => te σ H fun _ H1 => D.nx σ H1
theorem ps_expr (he : PE X e te) (hs : swapsWith e none pos.line X.env = pure false := by rfl) : PS X (.Expr e pos) (tDrop te) := by
  intro pins s σ H D I h
  exact wpAny_Expr_any (thn (he pins s σ H _ I h) fun v s1 ⟨x, H1, I1, r1, q1⟩ => ⟨σ, H1, I1, q1⟩) I.quiet hs
def tRet (te : TE) : TS := fun D σ H => te σ H D.rt
theorem ps_ret (he : PE X e te) : PS X (.Return (some e) pos) (tRet te) := by
  intro pins s σ H D I h
  exact wpAny_Return_some (thn (he pins s σ H _ I h) fun v s1 ⟨x, H1, I1, r1, q1⟩ => ⟨x, σ, H1, I1, r1, q1⟩)
def tIfS (c : TT) (t u : TS) : TS := fun D σ H => c σ H fun b H1 => if b = true then t D σ H1 else u D σ H1
theorem ps_if {c : Expr} {a b : List Stmt} {tc : TT} (hc : PT X c tc) (ha : PSs X a t) (hb : PSs X b u) : PS X (.If c a b pos) (tIfS tc t u) := by
  intro pins s σ H D I h
  refine wpAny_If (thn (hc pins s σ H _ I h) fun d s1 ⟨H1, I1, q1⟩ => ?_)
  cases d with
  | true => exact ha pins s1 σ H1 D I1 q1
  | false => exact hb pins s1 σ H1 D I1 q1
def tNever : TS := fun _ _ _ => False
theorem ps_never : PS X st tNever := fun _ _ _ _ _ _ h => h.elim
end
abbrev TG := V → St → Hp → (St → Hp → Prop) → Prop
abbrev TGs := List V → St → Hp → (St → Hp → Prop) → Prop
def PG (X : Cx) (target : Expr) (t : TG) : Prop :=
  ∀ (pins : List (Addr × Obj)) (s : Shared) (σ : St) (H : Hp) (v : V) (u : Value) (Q : St → Hp → Prop), Inv X pins σ H s → RelV v u → t v σ H Q →
    wpAny (model X.prog X.w) X.A (assign target X.env u) (fun _ s' => ∃ σ' H', Inv X pins σ' H' s' ∧ Q σ' H') X.xe s
def PGs (X : Cx) (ts : List Expr) (t : TGs) : Prop :=
  ∀ (pins : List (Addr × Obj)) (s : Shared) (σ : St) (H : Hp) (vs : List V) (us : List Value) (Q : St → Hp → Prop), Inv X pins σ H s → Vals vs us → t vs σ H Q →
    wpAny (model X.prog X.w) X.A (assignInOrder ((assignEach ts X.env).map (·.2)) us) (fun _ s' => ∃ σ' H', Inv X pins σ' H' s' ∧ Q σ' H') X.xe s
abbrev TSet := V → V → V → Hp → (Hp → Prop) → Prop
def PSet (X : Cx) (t : TSet) : Prop :=
  ∀ (pins : List (Addr × Obj)) (s : Shared) (σ : St) (H : Hp) (o i v : V) (ov iv u : Value) (Q : Hp → Prop), Inv X pins σ H s → RelV o ov → RelV i iv → RelV v u → t o i v H Q →
    wpAny (model X.prog X.w) X.A (setItem ov iv u) (fun _ s' => ∃ H', Inv X pins σ H' s' ∧ Q H') X.xe s
abbrev TIp := V → V → Hp → VK → Prop
def PIp (X : Cx) (op : Operator) (t : TIp) : Prop :=
  ∀ (pins : List (Addr × Obj)) (s : Shared) (σ : St) (H : Hp) (x y : V) (v u : Value) (Q : VK), Inv X pins σ H s → RelV x v → RelV y u → t x y H Q →
    wpAny (model X.prog X.w) X.A (inplaceOp op v u) (EP X pins σ Q) X.xe s
section
variable {X : Cx} {pos : Pos}
def gName (i : Nat) : TG := fun v σ H Q => Q (σ.set i (some v)) H
theorem pg_name {i : Nat} {x : Str} (hN : X.N.Nodup) (hi : X.N[i]? = some x) (hx : Loc X.env.scope x) (hf : X.fn x = true ∨ X.env.scope.names.lookup x = some .local := by first | exact .inl rfl | exact .inr rfl | assumption) : PG X (.Name x pos) (gName i) := by
  intro pins s σ H v u Q I r h
  exact wpAny_assign_Name (store_ok I hN hi hx r (fun s' I' => ⟨_, H, I', h⟩) hf)
def gNil : TGs := fun vs σ H Q => vs = [] ∧ Q σ H
def gCons (t : TG) (u : TGs) : TGs := fun vs σ H Q => ∃ v r, vs = v :: r ∧ t v σ H fun σ' H' => u r σ' H' Q
theorem pgs_nil : PGs X [] gNil := by
  intro pins s σ H vs us Q I r h
  obtain ⟨e, h⟩ := h
  subst e
  cases r
  exact assignInOrder_nil ⟨σ, H, I, h⟩
theorem pgs_cons {e : Expr} {es : List Expr} {t : TG} {u : TGs} (h1 : PG X e t) (h2 : PGs X es u)
    (hs : (assignEach (e :: es) X.env).map (·.2) = assign e X.env :: (assignEach es X.env).map (·.2) := by rfl) : PGs X (e :: es) (gCons t u) := by
  intro pins s σ H vs us Q I r h
  obtain ⟨v, vr, e1, h⟩ := h
  subst e1
  cases r with
  | cons r rr =>
    rw [hs]
    refine assignInOrder_cons (thn (h1 pins s σ H _ _ _ I r h) fun _ s1 ⟨σ1, H1, I1, q1⟩ => ?_)
    exact h2 pins s1 σ1 H1 _ _ Q I1 rr q1
def gTup (K : PySem.W.Frag) (n : Nat) (t : TGs) : TG := fun v σ H Q => ∃ a xs, v = .ref a ∧ SqT K H a xs ∧ xs.length = n ∧ t xs σ H Q
theorem pg_tup {es : List Expr} {k : Nat} {t : TGs} {n : Nat} (hc : X.calm = true) (h : PGs X es t)
    (hn : (assignEach es X.env).length = n := by rfl) (hst : (assignEach es X.env).findIdx? (·.1) = none := by rfl) : PG X (.Tuple es k pos) (gTup X.K n t) := by
  intro pins s σ H v u Q I r hw
  obtain ⟨a, xs, e1, hq, hl, hw⟩ := hw
  subst e1
  cases r
  obtain ⟨its, rv, ht, hz⟩ := I.tuple hq
  refine assign_Tuple_tuple (I.ok.hd hc) ht (by simp [hn, ← hl, rv.length]) hst fun h' hx => ?_
  have I1 : Inv X pins σ H { s with heap := h' } := I.kept (t' := s.toks) fun b o e => hx b o (Nat.ne_of_lt (Heap.lt_size e)) e
  exact h pins _ σ H xs _ Q I1 (by simpa using rv) hw
def gSub (to ti : TE) (t : TSet) : TG := fun v σ H Q => to σ H fun o H1 => ti σ H1 fun i H2 => t o i v H2 fun H3 => Q σ H3
theorem pg_sub {o i : Expr} {to ti : TE} {t : TSet} (ho : PE X o to) (hi : PE X i ti) (hs : PSet X t)
    (ha : ∀ v, assign (.Subscript o i pos) X.env v = (do
      let ov ← holding [v] (eval o X.env)
      let iv ← holding [v, ov] (eval i X.env)
      standAt pos
      holding [v, ov, iv] (setItem ov iv v)
      release [v, ov, iv] []) := by intro _; rfl) : PG X (.Subscript o i pos) (gSub to ti t) := by
  intro pins s σ H v u Q I r h
  rw [ha]
  refine wpAny_bind (wpAny_holding (thn (ho pins s σ H _ I h) fun ov s1 ⟨x, H1, I1, r1, q1⟩ => ?_))
  refine wpAny_bind (wpAny_holding (thn (hi pins s1 σ H1 _ I1 q1) fun iv s2 ⟨y, H2, I2, r2, q2⟩ => ?_))
  refine wpAny_bind (wpAny_standAt (wpAny_bind (wpAny_holding (thn (hs pins s2 σ H2 x y v ov iv u _ I2 r1 r2 r q2) fun _ s3 ⟨H3, I3, q3⟩ => ?_))))
  exact wpAny_release ⟨σ, H3, I3, q3⟩
def tAsg (te : TE) (g : TG) : TS := fun D σ H => te σ H fun x H1 => g x σ H1 D.nx
theorem ps_asg {tg e : Expr} {te : TE} {g : TG} (he : PE X e te) (hg : PG X tg g) (hs : swapsWithSole [tg] e pos.line X.env = pure false := by rfl) (hw : swappedStores [tg] e X.env = pure none := by rfl)
    (h1 : (assignEach [tg] X.env).map (·.2) = [assign tg X.env] := by rfl) : PS X (.Assign [tg] e pos) (tAsg te g) := by
  intro pins s σ H D I h
  refine wpAny_Assign_stores (thn (he pins s σ H _ I h) fun v s1 ⟨x, H1, I1, r1, q1⟩ => ?_) hs hw
  rw [h1]
  exact thn (hg pins s1 σ H1 x v _ I1 r1 q1) fun _ s2 q => q
theorem ps_set {i : Nat} {x : Str} {e : Expr} {te : TE} {pos' : Pos} (hN : X.N.Nodup) (hi : X.N[i]? = some x) (hx : Loc X.env.scope x) (he : PE X e te) (hs : swapsWith e (some (.Name x pos')) pos.line X.env = pure false := by rfl) (hf : X.fn x = true ∨ X.env.scope.names.lookup x = some .local := by first | exact .inl rfl | exact .inr rfl | assumption) :
    PS X (.Assign [.Name x pos'] e pos) (tAsg te (gName i)) := by
  intro pins s σ H D I h
  refine wpAny_Assign_Name (thn (he pins s σ H _ I h) fun v s1 ⟨y, H1, I1, r1, q1⟩ => ?_) hs
  exact store_ok I1 hN hi hx r1 (fun s2 I2 => ⟨_, H1, I2, q1⟩) hf
def tAug (i : Nat) (te : TE) (ti : TIp) : TS := fun D σ H => ∃ x, σ[i]? = some (some x) ∧ te σ H fun y H1 => ti x y H1 fun z H2 => D.nx (σ.set i (some z)) H2
theorem ps_aug {i : Nat} {x : Str} {e : Expr} {te : TE} {op : Operator} {ti : TIp} {pos' : Pos} (hN : X.N.Nodup) (hi : X.N[i]? = some x) (hx : Loc X.env.scope x) (he : PE X e te) (ho : PIp X op ti) (hf : X.fn x = true ∨ X.env.scope.names.lookup x = some .local := by first | exact .inl rfl | exact .inr rfl | assumption) :
    PS X (.AugAssign (.Name x pos') op e pos) (tAug i te ti) := by
  intro pins s σ H D I h
  obtain ⟨v, e1, h⟩ := h
  obtain ⟨m, hn, hl⟩ := I.loc
  have vis : Vis X.env.scope x := by rcases hx with k | k; exact .inl k; exact .inr (.inl k)
  obtain ⟨u, r, l⟩ := hl i x v hi e1 vis
  refine wpAny_AugAssign_Name ?_
  have go : wpAny (model X.prog X.w) X.A (eval e X.env) (fun w s₂ => wpAny (model X.prog X.w) X.A (inplaceOp op u w) (fun r s₃ => wpAny (model X.prog X.w) X.A (storeName X.env x r) (fun _ => SP X pins D .next) X.xe s₃) X.xe s₂) X.xe s := by
    refine thn (he pins s σ H _ I h) fun w s1 ⟨y, H1, I1, r1, q1⟩ => ?_
    refine thn (ho pins s1 σ H1 v y u w _ I1 r r1 q1) fun z s2 ⟨zv, H2, I2, r2, q2⟩ => ?_
    exact store_ok I2 hN hi hx r2 (fun s3 I3 => ⟨_, H2, I3, q2⟩) hf
  rcases l with ⟨hk, hm⟩ | ⟨hk, c, hc, hcell⟩
  · exact wpAny_loadName_local I.ok.kind hk hn hm go
  · rcases hk with hk | hk
    · exact wpAny_loadName_cell I.ok.kind hk hc hcell go
    · rcases hx with k | k
      · have : X.env.scope.names.lookup x = some .free := hk
        rw [k] at this; cases this
      · have : X.env.scope.names.lookup x = some .free := hk
        rw [k] at this; cases this
def ipI (f : Int → Int → Int) : TIp := fun x y H Q => ∃ i j, x = .int i ∧ y = .int j ∧ Q (.int (f i j)) H
theorem ip_add : PIp X .Add (ipI fun i j => i + j) := by
  intro pins s σ H x y v u Q I r1 r2 h
  obtain ⟨i, j, e1, e2, q⟩ := h
  subst e1; subst e2
  obtain ⟨t, rfl⟩ := r1
  obtain ⟨t', rfl⟩ := r2
  exact iadd_int ⟨.int _, H, I.tok _, ⟨_, rfl⟩, q⟩
end
section
variable {X : Cx} {pos : Pos}
def tWhile (c : TT) (tb : TS) : TS := fun D σ H => ∃ W : Nat → St → Hp → Prop, (∃ m, W m σ H) ∧ ∀ m σ H, W m σ H →
  c σ H fun b H1 => if b = true then ∃ N : St → Hp → Prop, (∀ σ' H', N σ' H' → ∃ m', m' < m ∧ W m' σ' H') ∧ tb { D with nx := N, ct := N, bk := D.nx } σ H1 else D.nx σ H1
theorem ps_while {c : Expr} {body : List Stmt} {tc : TT} {tb : TS} (hp : PassesOwn (model X.prog X.w) X.A X.env X.xe) (hc : PT X c tc) (hb : PSs X body tb) : PS X (.While c body [] pos) (tWhile tc tb) := by
  intro pins s σ H D I h
  obtain ⟨W, ⟨m0, w0⟩, turn⟩ := h
  refine wpAny_While (codeAny_whileLoop (fun n s' => ∃ σ' H', Inv X pins σ' H' s' ∧ W n σ' H') ?_ m0 ⟨σ, H, I, w0⟩)
  rintro n s1 ⟨σ1, H1, I1, w1⟩
  refine wpAny_passesOwn hp (thn (hc pins s1 σ1 H1 _ I1 (turn n σ1 H1 w1)) fun b s2 ⟨H2, I2, q2⟩ => ?_)
  cases b with
  | true =>
    obtain ⟨N, hN, q2⟩ := q2
    rw [if_pos rfl]
    refine wpAny_passesOwn hp (thn (hb pins s2 σ1 H2 _ I2 q2) fun f s3 q3 => ?_)
    cases f with
    | next =>
      obtain ⟨σ3, H3, I3, n3⟩ := q3
      obtain ⟨m', hm, w3⟩ := hN σ3 H3 n3
      exact ⟨m', hm, σ3, H3, I3, w3⟩
    | cont =>
      obtain ⟨σ3, H3, I3, n3⟩ := q3
      obtain ⟨m', hm, w3⟩ := hN σ3 H3 n3
      exact ⟨m', hm, σ3, H3, I3, w3⟩
    | brk => exact q3
    | ret v => exact q3
  | false =>
    rw [if_neg Bool.false_ne_true]
    exact wpAny_execs_nil ⟨σ1, H2, I2, q2⟩
end
structure It where
  go : Nat → Hp → Prop
  yld : Nat → Hp → V → Hp → Prop
  stop : Nat → Hp → Prop
def FpOk (X : Cx) (pins : List (Addr × Obj)) (H : Hp) (b : Addr) : Prop :=
  H b = none ∧ b ≠ X.env.locals ∧ b ∉ X.fs ∧ (b ∈ X.ex ∨ X.s₀.heap.objs.size ≤ b) ∧ (∀ x c, X.env.cells.lookup x = some c → c ≠ b) ∧ ∀ p ∈ X.pn ++ pins, p.1 ≠ b
theorem Inv.fpOk {X : Cx} {pins : List (Addr × Obj)} {σ : St} {H H' : Hp} {s : Shared} {b : Addr} (I : Inv X pins σ H s) (hb : s.heap.objs.size ≤ b) (hn : H' b = none) : FpOk X pins H' b := by
  refine ⟨hn, Nat.ne_of_gt (Nat.lt_of_lt_of_le I.lt hb), I.nofs hb, .inr (Nat.le_trans I.sz hb), fun x c e z => ?_, fun p hp z => ?_⟩
  · obtain ⟨v, q⟩ := I.cell x c e
    exact absurd (Nat.lt_of_lt_of_le q.lt (by rw [z]; exact hb)) (Nat.lt_irrefl _)
  · exact absurd (Nat.lt_of_lt_of_le (Heap.lt_size (I.pin p hp).1) (by rw [z]; exact hb)) (Nat.lt_irrefl _)
structure Turn (P : Program) (w : World) (K : PySem.W.Frag) (tg : Expr) (J : It) (fp : List Addr) (it : Addr) (tn : Nat → Heap → Prop) : Prop where
  mem : it ∈ fp
  obj : ∀ i h, tn i h → ∀ b ∈ fp, ∃ o, h.get? b = some o ∧ ∀ v, o.data ≠ .cell v
  keep : ∀ i h h', tn i h → (∀ b ∈ fp, ∀ o, h.get? b = some o → h'.get? b = some o) → tn i h'
  item : ∀ (X : Cx), X.prog = P → X.w = w → X.K = K → X.calm = true → ∀ (i : Nat) (pins : List (Addr × Obj)) (s : Shared) (σ : St) (H : Hp) (E : Value → Shared → Prop), Inv X pins σ H s → (∀ b ∈ fp, FpOk X pins H b) → tn i s.heap → J.go i H →
    wpAny (model P w) X.A (pyNext (.ref it)) (fun r s1 => ∃ u, r = some u ∧
      wpAny (model P w) X.A (letOwnedTupleGo tg (.ref it) u) (fun _ s2 => ∃ x H', Inv X pins σ H' s2 ∧ RelV x u ∧ J.yld i H x H' ∧ tn (i + 1) s2.heap ∧ ∀ b ∈ fp, H' b = none) E s1) E s
  done : ∀ (X : Cx), X.prog = P → X.w = w → X.K = K → X.calm = true → ∀ (i : Nat) (pins : List (Addr × Obj)) (s : Shared) (σ : St) (H : Hp) (E : Value → Shared → Prop), Inv X pins σ H s → (∀ b ∈ fp, FpOk X pins H b) → tn i s.heap → J.stop i H →
    wpAny (model P w) X.A (pyNext (.ref it)) (fun r s1 => r = none ∧ Inv X pins σ H s1) E s
  self : ∀ (A : Around) (i : Nat) (s : Shared) (Q : Value → Shared → Prop) (E : Value → Shared → Prop), tn i s.heap → Q (.ref it) s → wpAny (model P w) A (pyIter (.ref it)) Q E s
abbrev TI := St → Hp → (It → Hp → Prop) → Prop
def PIE (X : Cx) (pins : List (Addr × Obj)) (σ : St) (tg : Expr) (R : It → Hp → Prop) (itv : Value) (s2 : Shared) : Prop :=
  ∃ (it : Addr) (fp : List Addr) (tn : Nat → Heap → Prop) (J : It) (H' : Hp), itv = .ref it ∧ Inv X pins σ H' s2 ∧ Turn X.prog X.w X.K tg J fp it tn ∧ tn 0 s2.heap ∧ (∀ b ∈ fp, FpOk X pins H' b) ∧ R J H'
def PI (X : Cx) (tg iter : Expr) (wi : TI) : Prop :=
  ∀ (pins : List (Addr × Obj)) (s : Shared) (σ : St) (H : Hp) (R : It → Hp → Prop), Inv X pins σ H s → wi σ H R →
    wpAny (model X.prog X.w) X.A (eval iter X.env) (fun v s1 => wpAny (model X.prog X.w) X.A (pyIter v) (PIE X pins σ tg R) X.xe s1) X.xe s
theorem go_of {M : Model} {A : Around} {E : Value → Shared → Prop} {s : Shared} {tg : Expr} {it : Addr} {u : Value} {o : Obj} {n : String} {vs : Array Value} {Q : Unit → Shared → Prop} (ho : s.heap.get? it = some o) (hc : o.cls = .type n) (hd : o.data = .fields vs)
    (hn : ["enumerate", "zip", "dict_itemiterator", "dict_reverseitemiterator", "odict_iterator", "itertools.zip_longest", "itertools.pairwise"].contains n = false) (hQ : Q () s) : wpAny M A (letOwnedTupleGo tg (.ref it) u) Q E s := by
  unfold letOwnedTupleGo
  cases tg <;> first
    | exact wpAny_pure hQ
    | (cases u <;> first
        | exact wpAny_pure hQ
        | (refine wpAny_bind (wpAny_load ho ?_)
           rw [hc, hd]
           show wpAny M A (if (["enumerate", "zip", "dict_itemiterator", "dict_reverseitemiterator", "odict_iterator", "itertools.zip_longest", "itertools.pairwise"].contains n && vs[0]? == some (rawInt _)) = true then _ else _) Q E s
           rw [if_neg (by intro h; rw [hn, Bool.false_and] at h; cases h)]
           exact wpAny_pure hQ))
def Itt (K : PySem.W.Frag) (a : Addr) : It :=
  ⟨fun i H => ∃ xs x, SqT K H a xs ∧ xs[i]? = some x, fun i H x H' => H' = H ∧ ∀ xs, SqT K H a xs → xs[i]? = some x, fun i H => ∃ xs, SqT K H a xs ∧ xs.length ≤ i⟩
def Itr (lo : Int) (n : Nat) : It := ⟨fun i _ => i < n, fun i H x H' => H' = H ∧ x = .int (lo + i), fun i _ => n ≤ i⟩
theorem turn_tuple {P : Program} {w : World} {K : PySem.W.Frag} {tg : Expr} (a it : Addr) : Turn P w K tg (Itt K a) [it] it (fun i h => h.IsTupleIter it a i) where
  mem := by simp
  obj := fun i h st b hb => by
    have e : b = it := by simpa using hb
    subst e
    obtain ⟨o, e, c, d⟩ := st
    exact ⟨o, e, fun v z => by rw [d] at z; cases z⟩
  keep := fun i h h' st k => st.at fun o e => k it (by simp) o e
  item := by
    intro X hP hw hK hc i pins s σ H E I hf st hg
    subst hP hw hK
    obtain ⟨xs, x, hq, hx⟩ := hg
    obtain ⟨its, rv, p, hz⟩ := I.tuple hq
    obtain ⟨u, hu, ru⟩ := rv.get hx
    obtain ⟨f0, f1, f2, f3, f4, f5⟩ := hf it (by simp)
    refine wpAny_pyNext_tuple_item st (show s.heap.IsTuple a its.toArray from p) (x := u) (by simpa using hu) fun h' st' sb => ?_
    have I1 : Inv X pins σ H { s with heap := h' } := I.turned (t' := s.toks) (fun b o hb e => (sb.2 b hb).trans e) f0 f1 f3 f4 f5
    obtain ⟨o, e, c, d⟩ := id st'
    exact ⟨u, rfl, go_of (s := { s with heap := h' }) e c d (by decide) ⟨x, H, I1, ru, ⟨rfl, fun ys hy => by rw [I.tuple_inj hy hq]; exact hx⟩, st', fun b hb => (hf b hb).1⟩⟩
  done := by
    intro X hP hw hK hc i pins s σ H E I hf st hg
    subst hP hw hK
    obtain ⟨xs, hq, hx⟩ := hg
    obtain ⟨its, rv, p, hz⟩ := I.tuple hq
    obtain ⟨f0, f1, f2, f3, f4, f5⟩ := hf it (by simp)
    have hl := rv.length
    exact wpAny_pyNext_tuple_end (I.ok.hd hc) st (show s.heap.IsTuple a its.toArray from p) (by simp; omega) fun h' eb => ⟨rfl, I.turned (t' := s.toks) (fun b o hb e => eb b o hb e) f0 f1 f3 f4 f5⟩
  self := fun _ _ _ _ _ st h => wpAny_pyIter_tupleiter st h
theorem turn_range {P : Program} {w : World} {K : PySem.W.Frag} {tg : Expr} (it : Addr) (lo : Int) (n : Nat) : Turn P w K tg (Itr lo n) [it] it (fun i h => IsRangeIter h it (lo + (i : Nat) * 1) ((n : Int) - (i : Nat)) 1) where
  mem := by simp
  obj := fun i h st b hb => by
    have e : b = it := by simpa using hb
    subst e
    exact ⟨_, st, fun v z => by
      have z' : Data.fields _ = Data.cell v := z
      cases z'⟩
  keep := fun i h h' st k => k it (by simp) _ st
  item := by
    intro X hP hw hK hc i pins s σ H E I hf st hg
    subst hP hw hK
    obtain ⟨f0, f1, f2, f3, f4, f5⟩ := hf it (by simp)
    have W := Walks.range (prog := X.prog) (w := X.w) (I.ok.hd hc) it lo 1 n
    refine W.item i s _ _ hg st fun v h' tk hv st' kk => ?_
    obtain ⟨t, rfl⟩ := hv
    have I1 : Inv X pins σ H { s with heap := h', toks := tk } := I.turned (fun b o hb e => kk b o (by simpa using hb) e) f0 f1 f3 f4 f5
    refine ⟨_, rfl, go_of (s := { s with heap := h', toks := tk }) (n := "range_iterator") st' rfl rfl (by decide) ⟨.int (lo + i), H, I1, ⟨t, ?_⟩, ⟨rfl, rfl⟩, st', fun b hb => (hf b hb).1⟩⟩
    rw [Int.mul_one]
  done := by
    intro X hP hw hK hc i pins s σ H E I hf st hg
    subst hP hw hK
    obtain ⟨f0, f1, f2, f3, f4, f5⟩ := hf it (by simp)
    exact wpAny_pyNext_range_end (I.ok.hd hc) st (by have : n ≤ i := hg; omega) fun h' eb => ⟨rfl, I.turned (t' := s.toks) (fun b o hb e => eb b o hb e) f0 f1 f3 f4 f5⟩
  self := fun _ _ _ _ _ st h => wpAny_pyIter_rangeiter st h
end L2
namespace L2
open PySem PySem.Spec PyProof.Rows
section
variable {X : Cx} {tg : Expr}
def iTup (K : PySem.W.Frag) (tl : TE) : TI := fun σ H R => tl σ H fun x H1 => ∃ a, x = .ref a ∧ (∃ xs, SqT K H1 a xs) ∧ R (Itt K a) H1
theorem pi_tup {l : Expr} {tl : TE} (hl : PE X l tl) : PI X tg l (iTup X.K tl) := by
  intro pins s σ H R I h
  refine thn (hl pins s σ H _ I h) fun v s1 ⟨x, H1, I1, r1, q1⟩ => ?_
  obtain ⟨a, e, ⟨xs, hq⟩, q⟩ := q1
  subst e
  cases r1
  obtain ⟨its, rv, p, hz⟩ := I1.tuple hq
  refine wpAny_pyIter_tuple (show s1.heap.IsTuple a its.toArray from p) ?_
  refine ⟨s1.heap.objs.size, [s1.heap.objs.size], _, _, H1, rfl, I1.kept (t' := s1.toks) fun b o e => Heap.get?_push_of_some _ e, turn_tuple a _, ⟨_, Heap.get?_push_size _ rfl, rfl, rfl⟩, fun b hb => ?_, q⟩
  have e : b = s1.heap.objs.size := by simpa using hb
  subst e
  exact I1.fpOk (Nat.le_refl _) (I1.hok.fresh (Nat.le_refl _))
theorem range_it {pins : List (Addr × Obj)} {σ : St} {H : Hp} {s : Shared} {R : It → Hp → Prop} {E : Value → Shared → Prop} {lo hi : Int} {t u v : Tok} {tk : Nat} (I : Inv X pins σ H s) (h1 : -(2 ^ 62) ≤ lo) (h2 : lo < 2 ^ 62) (h3 : -(2 ^ 62) ≤ hi) (h4 : hi < 2 ^ 62)
    (q : R (Itr lo (hi - lo).toNat) H) : wpAny (model X.prog X.w) X.A (pyIter (.ref s.heap.objs.size)) (PIE X pins σ tg R) E { s with heap := s.heap.push { cls := .type "range", data := .fields #[.int lo t, .int hi u, .int 1 v] }, toks := tk } := by
  refine wpAny_pyIter_range (IsRange.new ..) (small_one h1 h2 h3 h4) ?_
  have I1 : Inv X pins σ H { s with heap := s.heap.push { cls := .type "range", data := .fields #[.int lo t, .int hi u, .int 1 v] }, toks := tk } := I.kept fun b o e => Heap.get?_push_of_some _ e
  refine ⟨(s.heap.push { cls := .type "range", data := .fields #[.int lo t, .int hi u, .int 1 v] }).objs.size, [(s.heap.push { cls := .type "range", data := .fields #[.int lo t, .int hi u, .int 1 v] }).objs.size], _, _, H, rfl,
    I1.kept (t' := tk) fun b o e => Heap.get?_push_of_some _ e, turn_range _ lo (hi - lo).toNat, ?_, fun b hb => ?_, q⟩
  · have e1 : lo + ((0 : Nat) : Int) * 1 = lo := by simp
    have e2 : (((hi - lo).toNat : Nat) : Int) - ((0 : Nat) : Int) = Builtin.Range.rangeSize lo hi 1 := by rw [rangeSize_one]; split <;> omega
    show IsRangeIter _ _ (lo + ((0 : Nat) : Int) * 1) ((((hi - lo).toNat : Nat) : Int) - ((0 : Nat) : Int)) 1
    rw [e1, e2]
    exact Heap.get?_push_size _ rfl
  · have e : b = (s.heap.push { cls := .type "range", data := .fields #[.int lo t, .int hi u, .int 1 v] }).objs.size := by simpa using hb
    subst e
    exact I1.fpOk (Nat.le_refl _) (I1.hok.fresh (Nat.le_refl _))
def iRng1 (ta : TA) : TI := fun σ H R => ta σ H fun vs H1 => ∃ j : Int, vs = [.int j] ∧ -(2 ^ 62) ≤ j ∧ j < 2 ^ 62 ∧ R (Itr 0 j.toNat) H1
theorem pi_range1 {a : Expr} {ta : TA} {p pos : Pos} (hg : Gl X "range") (hm : X.mg "range" = none) (ha : PA X [a] ta) (hs : starEach [a] X.env = [(false, eval a X.env)] := by rfl) : PI X tg (.Call (.Name "range" p) [a] [] pos) (iRng1 ta) := by
  intro pins s σ H R I h
  refine Call_ (ld_blt I hg hm boot_range (PyProof.Rows.callWith_type1 (thn (ha pos pins s σ H _ I h) fun us s1 ⟨vs, H1, I1, r1, q1⟩ => ?_) hs rfl))
  obtain ⟨j, e, q1, q2, q⟩ := q1
  subst e
  cases r1 with
  | cons r rr =>
    cases rr
    obtain ⟨t, rfl⟩ := r
    exact call_range_1 (range_it I1 (by omega) (by omega) q1 q2 (by simpa using q))
def tFor (wi : TI) (g : TG) (tb : TS) : TS := fun D σ H => wi σ H fun J H1 => ∃ W : Nat → Nat → St → Hp → Prop, (∃ m, W 0 m σ H1) ∧ ∀ i m σ H, W i m σ H →
  (J.stop i H ∧ D.nx σ H) ∨ (J.go i H ∧ ∃ N : St → Hp → Prop, (∀ σ' H', N σ' H' → ∃ m', m' < m ∧ W (i + 1) m' σ' H') ∧ ∀ x H', J.yld i H x H' → g x σ H' fun σ2 H2 => tb { D with nx := N, ct := N, bk := D.nx } σ2 H2)
def pinsAt (fp : List Addr) (h : Heap) : List (Addr × Obj) := fp.filterMap fun b => (h.get? b).map fun o => (b, o)
theorem mem_pinsAt {fp : List Addr} {h : Heap} {b : Addr} {o : Obj} (hb : b ∈ fp) (e : h.get? b = some o) : (b, o) ∈ pinsAt fp h := List.mem_filterMap.mpr ⟨b, hb, by rw [e]; rfl⟩
theorem of_pinsAt {fp : List Addr} {h : Heap} {p : Addr × Obj} (hp : p ∈ pinsAt fp h) : p.1 ∈ fp ∧ h.get? p.1 = some p.2 := by
  obtain ⟨b, hb, e⟩ := List.mem_filterMap.mp hp
  cases q : h.get? b with
  | none => rw [q] at e; cases e
  | some o =>
    rw [q] at e
    have e' : (b, o) = p := Option.some.inj e
    subst e'
    exact ⟨hb, q⟩
theorem Inv.pinned {pins : List (Addr × Obj)} {σ : St} {H : Hp} {s : Shared} {fp : List Addr} (I : Inv X pins σ H s) (hf : ∀ b ∈ fp, FpOk X pins H b) (ho : ∀ b ∈ fp, ∃ o, s.heap.get? b = some o ∧ ∀ v, o.data ≠ .cell v) : Inv X (pins ++ pinsAt fp s.heap) σ H s :=
  I.pins_of fun p hp => (List.mem_append.mp hp).elim (fun z => I.pin p (List.mem_append_right _ z)) fun z => by
    obtain ⟨hb, e⟩ := of_pinsAt z
    obtain ⟨f0, f1, f2, _⟩ := hf p.1 hb
    obtain ⟨o, e', d⟩ := ho p.1 hb
    rw [e] at e'; cases e'
    exact ⟨e, f0, f1, f2, d⟩
theorem Inv.unpinned {pins pl : List (Addr × Obj)} {σ : St} {H : Hp} {s : Shared} (I : Inv X (pins ++ pl) σ H s) : Inv X pins σ H s := I.pins_of fun p hp => I.pin p (List.mem_append_right _ (List.mem_append_left _ hp))
theorem ps_for {iter : Expr} {body : List Stmt} {wi : TI} {g : TG} {tb : TS} {pos : Pos} (hp : PassesOwn (model X.prog X.w) X.A X.env X.xe) (hc : X.calm = true) (hi : PI X tg iter wi) (hg : PG X tg g) (hb : PSs X body tb)
    (hs : ∀ x, foldedSetIterable iter X.env x = pure x := by intro _; rfl) : PS X (.For tg iter body [] pos) (tFor wi g tb) := by
  intro pins s σ H D I h
  refine wpAny_For (thn (hi pins s σ H _ I h) fun v s1 h1 => thn h1 fun itv s2 h2 => ?_) hs
  obtain ⟨it, fp, tn, J, H2, e, I2, T, st2, f2, W, ⟨m0, w0⟩, turn⟩ := h2
  subst e
  have stat : ∀ {H' : Hp}, (∀ b ∈ fp, H' b = none) → ∀ b ∈ fp, FpOk X pins H' b := fun hn b hb => ⟨hn b hb, (f2 b hb).2⟩
  refine codeAny_forLoop_any (fun n s' => ∃ i σ' H', Inv X pins σ' H' s' ∧ tn i s'.heap ∧ (∀ b ∈ fp, H' b = none) ∧ W i n σ' H') ?_ m0 ⟨0, σ, H2, I2, st2, fun b hb => (f2 b hb).1, w0⟩
  rintro n s3 ⟨i, σ3, H3, I3, st3, fr3, w3⟩
  rcases turn i n σ3 H3 w3 with ⟨stop, qn⟩ | ⟨go, N, hN, step⟩
  · refine wpAny_passesOwn hp (thn (T.done X rfl rfl rfl hc i pins s3 σ3 H3 X.xe I3 (stat fr3) st3 stop) fun r s4 ⟨hr, I4⟩ => ?_)
    subst hr
    exact wpAny_execs_nil ⟨σ3, H3, I4, qn⟩
  · refine wpAny_passesOwn hp (thn (T.item X rfl rfl rfl hc i pins s3 σ3 H3 X.xe I3 (stat fr3) st3 go) fun r s4 ⟨u, hr, h4⟩ => ?_)
    subst hr
    refine wpAny_passesOwn hp (thn h4 fun _ s5 ⟨x, H5, I5, r5, y5, st5, fr5⟩ => ?_)
    have I5' := I5.pinned (stat fr5) (T.obj _ _ st5)
    refine wpAny_passesOwn hp (thn (hg _ s5 σ3 H5 x u _ I5' r5 (step x H5 y5)) fun _ s6 ⟨σ6, H6, I6, q6⟩ => ?_)
    refine wpAny_passesOwn hp (thn (hb _ s6 σ6 H6 _ I6 q6) fun f s7 q7 => ?_)
    have again : ∀ {σ7 : St} {H7 : Hp}, Inv X (pins ++ pinsAt fp s5.heap) σ7 H7 s7 → N σ7 H7 → ∃ m, m < n ∧ ∃ i σ' H', Inv X pins σ' H' s7 ∧ tn i s7.heap ∧ (∀ b ∈ fp, H' b = none) ∧ W i m σ' H' := fun {σ7 H7} I7 n7 => by
      obtain ⟨m', hm, w7⟩ := hN σ7 H7 n7
      refine ⟨m', hm, i + 1, σ7, H7, I7.unpinned, T.keep _ _ _ st5 fun b hb o e => (I7.pin (b, o) (List.mem_append_right _ (List.mem_append_right _ (mem_pinsAt hb e)))).1, fun b hb => ?_, w7⟩
      obtain ⟨o, e, d⟩ := T.obj _ _ st5 b hb
      exact (I7.pin (b, o) (List.mem_append_right _ (List.mem_append_right _ (mem_pinsAt hb e)))).2.1
    cases f with
    | next => obtain ⟨σ7, H7, I7, n7⟩ := q7; exact again I7 n7
    | cont => obtain ⟨σ7, H7, I7, n7⟩ := q7; exact again I7 n7
    | brk => obtain ⟨σ7, H7, I7, q7⟩ := q7; exact ⟨σ7, H7, I7.unpinned, q7⟩
    | ret v => obtain ⟨x7, σ7, H7, I7, r7, q7⟩ := q7; exact ⟨x7, σ7, H7, I7.unpinned, r7, q7⟩
end
theorem for_range {lo : Int} {n : Nat} {g : TG} {tb : TS} {D : Ends} {σ : St} {H : Hp} (Pv : Nat → St → Hp → Prop) (h0 : Pv 0 σ H)
    (hs : ∀ i σ H, i < n → Pv i σ H → g (.int (lo + i)) σ H fun σ2 H2 => tb { D with nx := Pv (i + 1), ct := Pv (i + 1), bk := D.nx } σ2 H2) (hd : ∀ σ H, Pv n σ H → D.nx σ H) :
    ∃ W : Nat → Nat → St → Hp → Prop, (∃ m, W 0 m σ H) ∧ ∀ i m σ H, W i m σ H →
      ((Itr lo n).stop i H ∧ D.nx σ H) ∨ ((Itr lo n).go i H ∧ ∃ N : St → Hp → Prop, (∀ σ' H', N σ' H' → ∃ m', m' < m ∧ W (i + 1) m' σ' H') ∧ ∀ x H', (Itr lo n).yld i H x H' → g x σ H' fun σ2 H2 => tb { D with nx := N, ct := N, bk := D.nx } σ2 H2) := by
  refine ⟨fun i m σ H => m = n - i ∧ i ≤ n ∧ Pv i σ H, ⟨n, by simp, Nat.zero_le _, h0⟩, ?_⟩
  rintro i m σ H ⟨rfl, hi, p⟩
  by_cases hlt : i < n
  · refine .inr ⟨hlt, Pv (i + 1), fun σ' H' p' => ⟨n - (i + 1), by omega, rfl, hlt, p'⟩, fun x H' y => ?_⟩
    obtain ⟨e, y⟩ := y
    subst e y
    exact hs i σ _ hlt p
  · have e : i = n := by omega
    subst e
    exact .inl ⟨Nat.le_refl _, hd σ H p⟩
end L2
namespace L2
open PySem PySem.Spec PyProof.Rows
abbrev R2 := V → V → Hp → VK → Prop
def OpR (X : Cx) (f : Value → Value → Sem Value) (r : R2) : Prop :=
  ∀ (pins : List (Addr × Obj)) (s : Shared) (σ : St) (H : Hp) (x y : V) (v u : Value) (Q : VK), Inv X pins σ H s → RelV x v → RelV y u → r x y H Q →
    wpAny (model X.prog X.w) X.A (f v u) (EP X pins σ Q) X.xe s
def CallR (X : Cx) (f : Value) (r : List V → Hp → VK → Prop) : Prop :=
  ∀ (pins : List (Addr × Obj)) (s : Shared) (σ : St) (H : Hp) (xs : List V) (us : List Value) (Q : VK), Inv X pins σ H s → Vals xs us → r xs H Q →
    wpAny (model X.prog X.w) X.A (call f us) (EP X pins σ Q) X.xe s
def tOp (r : R2) (ta tb : TE) : TE := fun σ H Q => ta σ H fun x H1 => tb σ H1 fun y H2 => r x y H2 Q
def rI (C : Int → Int → Prop) (g : Int → Int → V) : R2 := fun x y H Q => ∃ i j, x = .int i ∧ y = .int j ∧ C i j ∧ Q (g i j) H
def rI0 (g : Int → Int → V) : R2 := fun x y H Q => ∃ i j, x = .int i ∧ y = .int j ∧ Q (g i j) H
section
variable {X : Cx} {a b c : Expr} {ta tb tc : TE} {pos : Pos}
theorem binT (ha : PE X a ta) (hb : PE X b tb) {pins : List (Addr × Obj)} {s : Shared} {σ : St} {H : Hp} {R : V → V → Hp → Prop} (I : Inv X pins σ H s)
    (h : ta σ H fun x H1 => tb σ H1 fun y H2 => R x y H2) {Q : Value → Shared → Prop} {f : Value → Value → Sem Value}
    (hf : ∀ v u s2 x y H2, Inv X pins σ H2 s2 → RelV x v → RelV y u → R x y H2 → wpAny (model X.prog X.w) X.A (f v u) Q X.xe s2) :
    wpAny (model X.prog X.w) X.A (eval a X.env) (fun v s₁ => wpAny (model X.prog X.w) X.A (eval b X.env) (fun u s₂ => wpAny (model X.prog X.w) X.A (f v u) Q X.xe s₂) X.xe s₁) X.xe s := by
  refine thn (ha pins s σ H _ I h) fun v s1 ⟨x, H1, I1, r1, q1⟩ => ?_
  refine thn (hb pins s1 σ H1 _ I1 q1) fun u s2 ⟨y, H2, I2, r2, q2⟩ => ?_
  exact hf v u s2 x y H2 I2 r1 r2 q2
theorem pe_op {op : Operator} {r : R2} (ho : OpR X (binaryOp op) r) (ha : PE X a ta) (hb : PE X b tb) : PE X (.BinOp a op b pos) (tOp r ta tb) := by
  intro pins s σ H Q I h
  exact wpAny_BinOp (binT ha hb I h fun v u s2 x y H2 I2 rx ry q => ho pins s2 σ H2 x y v u Q I2 rx ry q)
theorem opI {f : Value → Value → Sem Value} {C : Int → Int → Prop} {g : Int → Int → Int}
    (rule : ∀ (i j : Int) (t u : Tok) (s : Shared) (Q : Value → Shared → Prop) (E : Value → Shared → Prop), C i j → Q (.int (g i j) s.toks) { s with toks := s.toks + 1 } → wpAny (model X.prog X.w) X.A (f (.int i t) (.int j u)) Q E s) :
    OpR X f (rI C fun i j => .int (g i j)) := by
  intro pins s σ H x y v u Q I rx ry h
  obtain ⟨i, j, rfl, rfl, hc, q⟩ := h
  obtain ⟨t, rfl⟩ := rx
  obtain ⟨t', rfl⟩ := ry
  exact rule i j t t' s _ _ hc ⟨.int (g i j), H, I.tok _, ⟨_, rfl⟩, q⟩
theorem opI0 {f : Value → Value → Sem Value} {g : Int → Int → Int}
    (rule : ∀ (i j : Int) (t u : Tok) (s : Shared) (Q : Value → Shared → Prop) (E : Value → Shared → Prop), Q (.int (g i j) s.toks) { s with toks := s.toks + 1 } → wpAny (model X.prog X.w) X.A (f (.int i t) (.int j u)) Q E s) :
    OpR X f (rI0 fun i j => .int (g i j)) := by
  intro pins s σ H x y v u Q I rx ry h
  obtain ⟨i, j, rfl, rfl, q⟩ := h
  obtain ⟨t, rfl⟩ := rx
  obtain ⟨t', rfl⟩ := ry
  exact rule i j t t' s _ _ ⟨.int (g i j), H, I.tok _, ⟨_, rfl⟩, q⟩
theorem opB0 {f : Value → Value → Sem Value} {g : Int → Int → Bool}
    (rule : ∀ (i j : Int) (t u : Tok) (s : Shared) (Q : Value → Shared → Prop) (E : Value → Shared → Prop), Q (.bool (g i j)) s → wpAny (model X.prog X.w) X.A (f (.int i t) (.int j u)) Q E s) :
    OpR X f (rI0 fun i j => .bl (g i j)) := by
  intro pins s σ H x y v u Q I rx ry h
  obtain ⟨i, j, rfl, rfl, q⟩ := h
  obtain ⟨t, rfl⟩ := rx
  obtain ⟨t', rfl⟩ := ry
  exact rule i j t t' s _ _ ⟨.bl (g i j), H, I, rfl, q⟩
def CDiv (i j : Int) : Prop := 0 < j ∧ j < 1073741824
def CMul (i j : Int) : Prop := (-(2 ^ 64) < i ∧ i < 2 ^ 64) ∨ (-(2 ^ 64) < j ∧ j < 2 ^ 64)
theorem CMul.ok {i j : Int} (h : CMul i j) : IntMulOk i j := by
  rcases h with ⟨h1, h2⟩ | ⟨h1, h2⟩
  · exact .of_left (intBits_le_64 h1 h2)
  · exact .of_right (intBits_le_64 h1 h2)
theorem op_add : OpR X (binaryOp .Add) (rI0 fun i j => .int (i + j)) := opI0 fun _ _ _ _ _ _ _ q => add_int q
theorem op_sub : OpR X (binaryOp .Sub) (rI0 fun i j => .int (i - j)) := opI0 fun _ _ _ _ _ _ _ q => sub_int q
theorem op_mul : OpR X (binaryOp .Mult) (rI CMul fun i j => .int (i * j)) := opI fun _ _ _ _ _ _ _ hc q => mul_int q hc.ok
theorem op_fdiv : OpR X (binaryOp .FloorDiv) (rI CDiv fun i j => .int (i / j)) := opI fun i j _ _ _ _ _ hc q => by
  have h1 : (0 : Int) < j := hc.1
  have h2 : j < 1073741824 := hc.2
  exact floordiv_int (by omega) (by rw [Int.fdiv_eq_ediv_of_nonneg i (by omega)]; exact q) (.inl (PyProof.noPylong_small (by omega)))
theorem op_mod : OpR X (binaryOp .Mod) (rI (fun _ j => 0 < j) fun i j => .int (i % j)) := opI fun i j _ _ _ _ _ hc q => by
  have h1 : (0 : Int) < j := hc
  exact mod_int' (by omega) (by rw [Int.fmod_eq_emod_of_nonneg i (by omega)]; exact q)
end
def scal : V → V → Bool
  | .non, .non => true | .non, .int _ => true | .int _, .non => true | .non, .bl _ => true | .bl _, .non => true | .non, .str _ => true | .str _, .non => true
  | .int _, .int _ => true | .bl _, .bl _ => true | .str _, .str _ => true | .byt _, .byt _ => true
  | .int _, .str _ => true | .str _, .int _ => true | .bl _, .str _ => true | .str _, .bl _ => true
  | _, _ => false
def rEq : R2 := fun x y H Q => scal x y = true ∧ Q (.bl (decide (x = y))) H
def rNe : R2 := fun x y H Q => scal x y = true ∧ Q (.bl (!decide (x = y))) H
theorem dec_int {i j : Int} : decide (V.int i = V.int j) = (i == j) := by
  rw [Bool.eq_iff_iff]
  simp
theorem dec_bl {i j : Bool} : decide (V.bl i = V.bl j) = (i == j) := by
  rw [Bool.eq_iff_iff]
  simp
theorem dec_str {i j : Str} : decide (V.str i = V.str j) = (i == j) := by
  rw [Bool.eq_iff_iff]
  simp
theorem dec_byt {i j : Array UInt8} : decide (V.byt i = V.byt j) = (i.toList == j.toList) := by
  rw [Bool.eq_iff_iff]
  cases i
  cases j
  simp
section
variable {X : Cx} {a b c : Expr} {ta tb tc : TE} {pos : Pos}
theorem fin_bl {pins : List (Addr × Obj)} {σ : St} {H : Hp} {s : Shared} {Q : VK} {k k' : Bool} (I : Inv X pins σ H s) (q : Q (.bl k) H) (e : k = k') : EP X pins σ Q (.bool k') s := by
  subst e
  exact ⟨.bl k, H, I, rfl, q⟩
theorem op_eq : OpR X (compareOp .Eq) rEq := by
  intro pins s σ H x y v u Q I rx ry h
  obtain ⟨hs, q⟩ := h
  cases x with
  | non =>
    cases rx
    cases y with
    | non => cases ry; exact PySem.EqNone.eq_none_none (fin_bl I q (by simp))
    | bl j => cases ry; exact PySem.EqNone.eq_none_bool (fin_bl I q (by simp))
    | int j => obtain ⟨t', rfl⟩ := ry; exact PySem.EqNone.eq_none_int (fin_bl I q (by simp))
    | str j => obtain ⟨t', rfl⟩ := ry; exact PySem.EqNone.eq_none_str (fin_bl I q (by simp))
    | _ => exact absurd (show false = true from hs) Bool.false_ne_true
  | bl i =>
    cases rx
    cases y with
    | non => cases ry; exact PySem.EqNone.eq_bool_none (fin_bl I q (by simp))
    | bl j => cases ry; exact eq_bool (fin_bl I q dec_bl)
    | str j => obtain ⟨t', rfl⟩ := ry; exact PySem.EqMixed.eq_bool_str (fin_bl I q (by simp))
    | _ => exact absurd (show false = true from hs) Bool.false_ne_true
  | int i =>
    obtain ⟨t, rfl⟩ := rx
    cases y with
    | non => cases ry; exact PySem.EqNone.eq_int_none (fin_bl I q (by simp))
    | int j => obtain ⟨t', rfl⟩ := ry; exact eq_int (fin_bl I q dec_int)
    | str j => obtain ⟨t', rfl⟩ := ry; exact PySem.EqMixed.eq_int_str (fin_bl I q (by simp))
    | _ => exact absurd (show false = true from hs) Bool.false_ne_true
  | str i =>
    obtain ⟨t, rfl⟩ := rx
    cases y with
    | non => cases ry; exact PySem.EqNone.eq_str_none (fin_bl I q (by simp))
    | bl j => cases ry; exact PySem.EqMixed.eq_str_bool (fin_bl I q (by simp))
    | int j => obtain ⟨t', rfl⟩ := ry; exact PySem.EqMixed.eq_str_int (fin_bl I q (by simp))
    | str j => obtain ⟨t', rfl⟩ := ry; exact eq_str (fin_bl I q dec_str)
    | _ => exact absurd (show false = true from hs) Bool.false_ne_true
  | byt i =>
    obtain ⟨t, rfl⟩ := rx
    cases y with
    | byt j => obtain ⟨t', rfl⟩ := ry; exact PySem.W.eq_bytes (fin_bl I q dec_byt)
    | _ => exact absurd (show false = true from hs) Bool.false_ne_true
  | _ => cases y <;> exact absurd (show false = true from hs) Bool.false_ne_true
theorem op_ne : OpR X (compareOp .NotEq) rNe := by
  intro pins s σ H x y v u Q I rx ry h
  obtain ⟨hs, q⟩ := h
  cases x with
  | non =>
    cases rx
    cases y with
    | non => cases ry; exact PySem.EqNone.ne_none_none (fin_bl I q (by simp))
    | bl j => cases ry; exact PySem.EqNone.ne_none_bool (fin_bl I q (by simp))
    | int j => obtain ⟨t', rfl⟩ := ry; exact PySem.EqNone.ne_none_int (fin_bl I q (by simp))
    | str j => obtain ⟨t', rfl⟩ := ry; exact PySem.EqNone.ne_none_str (fin_bl I q (by simp))
    | _ => exact absurd (show false = true from hs) Bool.false_ne_true
  | bl i =>
    cases rx
    cases y with
    | non => cases ry; exact PySem.EqNone.ne_bool_none (fin_bl I q (by simp))
    | bl j => cases ry; exact ne_bool (fin_bl I q (congrArg not dec_bl))
    | str j => obtain ⟨t', rfl⟩ := ry; exact PySem.EqMixed.ne_bool_str (fin_bl I q (by simp))
    | _ => exact absurd (show false = true from hs) Bool.false_ne_true
  | int i =>
    obtain ⟨t, rfl⟩ := rx
    cases y with
    | non => cases ry; exact PySem.EqNone.ne_int_none (fin_bl I q (by simp))
    | int j => obtain ⟨t', rfl⟩ := ry; exact ne_int (fin_bl I q (congrArg not dec_int))
    | str j => obtain ⟨t', rfl⟩ := ry; exact PySem.EqMixed.ne_int_str (fin_bl I q (by simp))
    | _ => exact absurd (show false = true from hs) Bool.false_ne_true
  | str i =>
    obtain ⟨t, rfl⟩ := rx
    cases y with
    | non => cases ry; exact PySem.EqNone.ne_str_none (fin_bl I q (by simp))
    | bl j => cases ry; exact PySem.EqMixed.ne_str_bool (fin_bl I q (by simp))
    | int j => obtain ⟨t', rfl⟩ := ry; exact PySem.EqMixed.ne_str_int (fin_bl I q (by simp))
    | str j => obtain ⟨t', rfl⟩ := ry; exact ne_str (fin_bl I q (congrArg not dec_str))
    | _ => exact absurd (show false = true from hs) Bool.false_ne_true
  | byt i =>
    obtain ⟨t, rfl⟩ := rx
    cases y with
    | byt j => obtain ⟨t', rfl⟩ := ry; exact PySem.W.ne_bytes (fin_bl I q (congrArg not dec_byt))
    | _ => exact absurd (show false = true from hs) Bool.false_ne_true
  | _ => cases y <;> exact absurd (show false = true from hs) Bool.false_ne_true
theorem op_lt : OpR X (compareOp .Lt) (rI0 fun i j => .bl (decide (i < j))) := opB0 fun _ _ _ _ _ _ _ q => lt_int q
theorem op_le : OpR X (compareOp .LtE) (rI0 fun i j => .bl (decide (i ≤ j))) := opB0 fun _ _ _ _ _ _ _ q => le_int q
theorem op_gt : OpR X (compareOp .Gt) (rI0 fun i j => .bl (decide (j < i))) := opB0 fun _ _ _ _ _ _ _ q => gt_int q
theorem op_in_str : OpR X (compareOp .In) (fun x y H Q => ∃ i j, x = .str i ∧ y = .str j ∧ Q (.bl (!(Builtin.Str.occurrences j i 0 j.length 1).isEmpty)) H) := by
  intro pins s σ H x y v u Q I rx ry h
  obtain ⟨i, j, rfl, rfl, q⟩ := h
  obtain ⟨t, rfl⟩ := rx
  obtain ⟨t', rfl⟩ := ry
  exact in_str (fin_bl I q rfl)
theorem op_notN : OpR X (compareOp .IsNot) (fun x y H Q => y = .non ∧ Q (.bl (!decide (x = .non))) H) := by
  intro pins s σ H x y v u Q I rx ry h
  obtain ⟨rfl, q⟩ := h
  cases ry
  refine isnot_none_gen (fin_bl I q ?_)
  cases x <;> first
    | (cases rx; rfl)
    | (obtain ⟨t, rfl⟩ := rx; rfl)
theorem OpR.or {f : Value → Value → Sem Value} {r r' : R2} (h : OpR X f r) (h' : OpR X f r') : OpR X f (fun x y H Q => r x y H Q ∨ r' x y H Q) := by
  intro pins s σ H x y v u Q I rx ry q
  rcases q with q | q
  · exact h pins s σ H x y v u Q I rx ry q
  · exact h' pins s σ H x y v u Q I rx ry q
theorem nomark (b : Expr) {op : CmpOp} (h : op ≠ .In := by decide) (h2 : op ≠ .NotIn := by decide) : behindInMarks op b = false := by
  have e1 : (op == CmpOp.In) = false := by cases op <;> first | rfl | exact absurd rfl h
  have e2 : (op == CmpOp.NotIn) = false := by cases op <;> first | rfl | exact absurd rfl h2
  cases b <;> simp [behindInMarks, e1, e2]
theorem pe_cmpR {op : CmpOp} {r : R2} (ho : OpR X (compareOp op) r) (ha : PE X a ta) (hb : PE X b tb) (hm : behindInMarks op b = false) : PE X (.Compare a [op] [b] pos) (tOp r ta tb) := by
  intro pins s σ H Q I h
  exact wpAny_Compare1 (binT ha hb I h fun v u s2 x y H2 I2 rx ry q => ho pins s2 σ H2 x y v u Q I2 rx ry q) hm
def tTest (t : TE) : TT := fun σ H Q => t σ H fun x H' => ∃ k, x = .bl k ∧ Q k H'
theorem pt_cmpR {op : CmpOp} {r : R2} (ho : OpR X (compareOp op) r) (ha : PE X a ta) (hb : PE X b tb) (hm : behindInMarks op b = false) : PT X (.Compare a [op] [b] pos) (tTest (tOp r ta tb)) := by
  intro pins s σ H Q I h
  refine wpAny_isTrue_Compare1 (thn (ha pins s σ H _ I h) fun v s1 ⟨x, H1, I1, r1, q1⟩ => thn (hb pins s1 σ H1 _ I1 q1) fun u s2 ⟨y, H2, I2, r2, q2⟩ =>
    thn (ho pins s2 σ H2 x y v u _ I2 r1 r2 q2) fun c s3 ⟨z, H3, I3, r3, k, e, q3⟩ => ?_) hm
  subst e
  cases r3
  exact wpAny_truthy_bool ⟨H3, I3, q3⟩
def tChain (r r' : R2) (ta tb tc : TE) : TE := fun σ H Q => ta σ H fun x H1 => tb σ H1 fun y H2 => r x y H2 fun z H3 => ∃ k, z = .bl k ∧
  (if k = true then tc σ H3 fun w' H4 => r' y w' H4 Q else Q (.bl false) H3)
theorem pe_chain {op op' : CmpOp} {r r' : R2} (ho : OpR X (compareOp op) r) (ho' : OpR X (compareOp op') r') (ha : PE X a ta) (hb : PE X b tb) (hc : PE X c tc)
    (hm : lastMarks [op, op'] [b, c] = false := by with_unfolding_all rfl) : PE X (.Compare a [op, op'] [b, c] pos) (tChain r r' ta tb tc) := by
  intro pins s σ H Q I h
  refine Compare_chain (thn (ha pins s σ H _ I h) fun v s1 ⟨x, H1, I1, r1, q1⟩ => chain_link (thn (hb pins s1 σ H1 _ I1 q1) fun u s2 ⟨y, H2, I2, r2, q2⟩ =>
    thn (ho pins s2 σ H2 x y v u _ I2 r1 r2 q2) fun d s3 ⟨z, H3, I3, r3, k, e, q3⟩ => ?_)) hm
  subst e
  cases r3
  refine wpAny_truthy_bool ?_
  cases k with
  | false => exact ite_ff ⟨.bl false, H3, I3, rfl, q3⟩
  | true => exact ite_tt (chain_last (thn (hc pins s3 σ H3 _ I3 q3) fun w' s4 ⟨z', H4, I4, r4, q4⟩ => ho' pins s4 σ H4 y z' u w' Q I4 r2 r4 q4))
theorem pt_chain {op op' : CmpOp} {r r' : R2} (ho : OpR X (compareOp op) r) (ho' : OpR X (compareOp op') r') (ha : PE X a ta) (hb : PE X b tb) (hc : PE X c tc)
    (hm : lastMarks [op, op'] [b, c] = false := by with_unfolding_all rfl) : PT X (.Compare a [op, op'] [b, c] pos) (tTest (tChain r r' ta tb tc)) := by
  intro pins s σ H Q I h
  refine isTrue_chain (thn (ha pins s σ H _ I h) fun v s1 ⟨x, H1, I1, r1, q1⟩ => test_link (thn (hb pins s1 σ H1 _ I1 q1) fun u s2 ⟨y, H2, I2, r2, q2⟩ =>
    thn (ho pins s2 σ H2 x y v u _ I2 r1 r2 q2) fun d s3 ⟨z, H3, I3, r3, k, e, q3⟩ => ?_)) hm
  subst e
  cases r3
  refine wpAny_truthy_bool ?_
  cases k with
  | false =>
    obtain ⟨k', e', q'⟩ := q3
    cases e'
    exact ite_ff ⟨H3, I3, q'⟩
  | true =>
    refine ite_tt (test_last (thn (hc pins s3 σ H3 _ I3 q3) fun w' s4 ⟨z', H4, I4, r4, q4⟩ => thn (ho' pins s4 σ H4 y z' u w' _ I4 r2 r4 q4) fun d' s5 ⟨z2, H5, I5, r5, k2, e2, q5⟩ => ?_))
    subst e2
    cases r5
    exact wpAny_truthy_bool ⟨H5, I5, q5⟩
theorem line63 : (sizeLine : Nat) < 2 ^ 63 := by rw [sizeLine_eq]; decide
theorem op_add_str : OpR X (binaryOp .Add) (fun x y H Q => ∃ i j, x = .str i ∧ y = .str j ∧ i.length + j.length ≤ sizeLine ∧ Q (.str (i ++ j)) H) := by
  intro pins s σ H x y v u Q I rx ry h
  obtain ⟨i, j, rfl, rfl, hz, q⟩ := h
  obtain ⟨t, rfl⟩ := rx
  obtain ⟨t', rfl⟩ := ry
  exact add_str (fun t' tk => ⟨.str (i ++ j), H, I.tok _, ⟨_, rfl⟩, q⟩) hz
theorem vals1 {x : V} {us : List Value} (r : Vals [x] us) : ∃ u, us = [u] ∧ RelV x u := by
  cases r with
  | cons r1 r2 => cases r2; exact ⟨_, rfl, r1⟩
theorem vals2 {x y : V} {us : List Value} (r : Vals [x, y] us) : ∃ u w', us = [u, w'] ∧ RelV x u ∧ RelV y w' := by
  cases r with
  | cons r1 r2 =>
    cases r2 with
    | cons r3 r4 => cases r4; exact ⟨_, _, rfl, r1, r3⟩
theorem call_str_int : CallR X (.type "str") (fun xs H Q => ∃ i, xs = [.int i] ∧ i.natAbs.log2 < 1920 ∧ Q (.str (toString i)) H) := by
  intro pins s σ H xs us Q I r h
  obtain ⟨i, rfl, hz, q⟩ := h
  obtain ⟨u, rfl, t, rfl⟩ := vals1 r
  exact PySem.P.str_of_int hz ⟨.str _, H, I.tok _, ⟨_, rfl⟩, q⟩
end
end L2
namespace L2
open PySem PySem.Spec PyProof.Rows
structure ObjM (h : Heap) (x dx C : Addr) (mA : Str → Option Value) : Prop where
  obj : h.get? x = some (PySem.W.instObj C dx)
  ns : h.Ns1 dx mA
  ne : dx ≠ x
theorem lookIn_ns {h : Heap} {dx : Addr} {mA : Str → Option Value} (n : h.Ns1 dx mA) : ∃ od, h.get? dx = some od ∧ ∀ name, PySem.W.lookIn name od = some (mA name) := by
  obtain ⟨o, es, ep, ho, hd, hk, _, hm⟩ := n
  refine ⟨o, ho, fun name => ?_⟩
  have e := hm name
  unfold nsFind findBy at e
  rw [← Array.find?_toList] at e
  unfold PySem.W.lookIn
  rw [hd]
  dsimp only
  split
  · rename_i y q
    rw [q] at e
    exact congrArg some e
  · rename_i q
    rw [q] at e
    have a : es.toList.any (·.refKey) = false := by
      rw [List.any_eq_false]
      intro y hy
      obtain ⟨z, t, hkey⟩ := hk y (Array.mem_toList_iff.mp hy)
      simp [DictEntry.refKey, hkey]
    have a' : ¬ es.toList.any (·.refKey) = true := by rw [a]; exact Bool.false_ne_true
    rw [if_neg a']
    exact congrArg some e
theorem ObjM.look {h : Heap} {x dx C : Addr} {mA : Str → Option Value} (I : ObjM h x dx C mA) : ∃ od, PySem.W.InstAt h x (PySem.W.instObj C dx) C (some od) ∧ ∀ name, PySem.W.lookIn name od = some (mA name) :=
  let ⟨od, ho, hl⟩ := lookIn_ns I.ns
  ⟨od, ⟨I.obj, rfl, rfl, ho⟩, hl⟩
section
variable {prog : Program} {w : World} {A : Around} {E : Value → Shared → Prop} {s : Shared} {K : PySem.W.Frag} {x dx C f : Addr} {mA : Str → Option Value} {name : Str} {v : Value}
theorem get_map {expr : Bool} {Q : Value → Shared → Prop} (X : K.In s.heap) (I : ObjM s.heap x dx C mA) (hg : PySem.W.plainGet K C name = true) (hh : PySem.W.hasDictIn K C = true)
    (ha : PySem.W.findIn K (.ref C) name = some none) (hv : mA name = some v) (hv' : PySem.W.handedIn v = true) (h : Q v { s with toks := s.toks + 1 }) :
    wpAny (model prog w) A (getAttr (.ref x) name expr) Q E s := by
  obtain ⟨od, J, hl⟩ := I.look
  exact PySem.W.get_value X J (PySem.W.plainGet_of hg).1 (PySem.W.findObj_own hh ha rfl (by rw [hl, hv])) hv' h
theorem get_meth {pl : Sem Bool} {Q : Value × List Value → Shared → Prop} (X : K.In s.heap) (I : ObjM s.heap x dx C mA) (hg : PySem.W.plainGet K C name = true)
    (hf : PySem.W.findIn K (.ref C) name = some (some (.ref f))) (ht : PySem.W.isFn K (.ref f) = true) (hv : mA name = none) (h : Q (.ref f, [.ref x]) s) :
    wpAny (model prog w) A (getMethod (.ref x) name pl) Q E s := by
  obtain ⟨od, J, hl⟩ := I.look
  exact PySem.W.method_fn X J (PySem.W.plainGet_of hg).1 (PySem.W.plainGet_of hg).2 hf (beq_iff_eq.mp ht) (by show (PySem.W.lookIn name od).map (·.isSome) = some false; rw [hl, hv]; rfl) h
theorem set_map {ns : List Str} {Q : Unit → Shared → Prop} (X : K.In s.heap) (I : ObjM s.heap x dx C mA)
    (hs : PySem.W.findIn K (.ref C) "__setattr__" = some (some (.builtin "object.__setattr__"))) (hp : PySem.W.plainOver K C = true) (ht : PySem.W.takerIn K C name = some none) (hh : PySem.W.hasDictIn K C = true)
    (hw : PySem.Within mA ns) (hsz : ns.length ≤ sizeLine)
    (h : ∀ h', ObjM h' x dx C (fun y => if y = name then some v else mA y) → Heap.SameBut dx s.heap h' → Q () { s with heap := h', toks := s.toks + 2 }) :
    wpAny (model prog w) A (setAttr (.ref x) name v) Q E s := by
  obtain ⟨od, J, hl⟩ := I.look
  refine PySem.W.set_plain X J hs (PySem.W.osa_open (s := { s with toks := s.toks + 1 }) (r := none) X J hp ht fun b => ?_)
  obtain ⟨cd, hc, hd'⟩ := PySem.W.any_some hh
  have hx : s.heap.get? x = some ⟨.ref C, some dx, .plain, #[]⟩ := I.obj
  refine wpAny_bind (wpAny_pure (wpAny_bind (wpAny_bind (wpAny_loadPart hx (wpAny_bind (PySem.W.Looks.here (s := { s with toks := s.toks + 1 }) (PySem.W.looks_clsIn X hc) ?_))))))
  rw [hd']
  refine wpAny_pure (a := some dx) (wpAny_bind (wpAny_pure (wpAny_bind ?_)))
  refine wpAny_nsSet1 (s := { s with toks := s.toks + 1 }) I.ns fun h' hn2 hs2 => ?_
  obtain ⟨oD, esD, epD, hoD, hdD, hcD⟩ := hn2.count (PySem.Within.cons name v hw)
  refine wpAny_bind (wpAny_lookBehind hoD (by rw [hdD]; exact pastItsLine_dict (Nat.le_trans hcD (by rw [List.length_cons]; omega))) ?_)
  exact wpAny_pure (h _ ⟨(hs2.2 _ (Ne.symm I.ne)).trans I.obj, hn2, I.ne⟩ hs2)
theorem make_map {R : Result → Shared → Prop} {vs : List Value} {kw : List (Str × Value)} (X : K.In s.heap) (hm : PySem.W.makesIn K C = true)
    (hi : PySem.W.findIn K (.ref C) "__init__" = some (some (.ref f))) (hf : PySem.W.typeIn K (.ref f) = some (.type "function"))
    (h : codeAny (model prog w) (A.under (.builtin "type.__call__" ⟨.ref C :: vs, kw⟩)) (.call (.ref f) ⟨.ref (s.heap.objs.size + 1) :: vs, kw⟩) (PySem.W.InitBack (s.heap.objs.size + 1) R)
      { s with heap := (s.heap.push PySem.W.emptyDict).push (PySem.W.instObj C s.heap.objs.size) }) :
    codeAny (model prog w) A (.call (.ref C) ⟨vs, kw⟩) R s := by
  obtain ⟨hh, g, d, t, os⟩ := s
  exact PySem.W.make_core (PySem.W.makes_of X hm) (PySem.W.looks_findIn X hi) (fun self => PySem.W.bind_fn X self hf) (.inl rfl) h
end
def putF (f : Str) (v : V) : List (Str × V) → List (Str × V)
  | [] => [(f, v)]
  | (g, x) :: r => if g = f then (g, v) :: r else (g, x) :: putF f v r
theorem lookup_putF (f g : Str) (v : V) : ∀ fs : List (Str × V), (putF f v fs).lookup g = if g = f then some v else fs.lookup g
  | [] => by
    show List.lookup g [(f, v)] = _
    by_cases h : g = f
    · have hb : (g == f) = true := beq_iff_eq.mpr h
      simp only [List.lookup, hb, if_pos h]
    · have hb : (g == f) = false := beq_eq_false_iff_ne.mpr h
      simp only [List.lookup, hb, if_neg h]
  | (k, x) :: r => by
    have ih := lookup_putF f g v r
    rw [show putF f v ((k, x) :: r) = (if k = f then (k, v) :: r else (k, x) :: putF f v r) from rfl]
    by_cases hk : k = f
    · rw [if_pos hk]
      by_cases h : g = k
      · have hb : (g == k) = true := beq_iff_eq.mpr h
        simp only [List.lookup, hb, if_pos (h.trans hk)]
      · have hb : (g == k) = false := beq_eq_false_iff_ne.mpr h
        simp only [List.lookup, hb, if_neg (fun e : g = f => h (e.trans hk.symm))]
    · rw [if_neg hk]
      by_cases h : g = k
      · have hb : (g == k) = true := beq_iff_eq.mpr h
        simp only [List.lookup, hb, if_neg (fun e : g = f => hk (h.symm.trans e))]
      · have hb : (g == k) = false := beq_eq_false_iff_ne.mpr h
        simp only [List.lookup, hb]
        exact ih
theorem keys_putF (f : Str) (v : V) : ∀ fs : List (Str × V), f ∈ (putF f v fs).map (·.1) ∧ ∀ g, g ∈ fs.map (·.1) → g ∈ (putF f v fs).map (·.1)
  | [] => ⟨by simp [putF], fun g h => by simp at h⟩
  | (k, x) :: r => by
    obtain ⟨i1, i2⟩ := keys_putF f v r
    rw [show putF f v ((k, x) :: r) = (if k = f then (k, v) :: r else (k, x) :: putF f v r) from rfl]
    by_cases hk : k = f
    · rw [if_pos hk]
      subst hk
      exact ⟨by simp, fun g h => by simpa using h⟩
    · rw [if_neg hk]
      refine ⟨?_, fun g h => ?_⟩
      · rw [List.map_cons]
        exact List.mem_cons_of_mem _ i1
      · rw [List.map_cons] at h ⊢
        rcases List.mem_cons.mp h with e | e
        · exact List.mem_cons.mpr (.inl e)
        · exact List.mem_cons_of_mem _ (i2 g e)
theorem length_putF (f : Str) (v : V) : ∀ fs : List (Str × V), (putF f v fs).length ≤ fs.length + 1
  | [] => by simp [putF]
  | (k, x) :: r => by
    have ih := length_putF f v r
    rw [show putF f v ((k, x) :: r) = (if k = f then (k, v) :: r else (k, x) :: putF f v r) from rfl]
    by_cases hk : k = f
    · rw [if_pos hk, List.length_cons, List.length_cons]; omega
    · rw [if_neg hk, List.length_cons, List.length_cons]; omega
theorem RelO.some_of {v : V} {o : Option Value} (r : RelO (some v) o) : ∃ u, o = some u ∧ RelV v u := by
  cases o with
  | none => exact (show False from r).elim
  | some u => exact ⟨u, rfl, r⟩
theorem RelO.none_of {o : Option Value} (r : RelO none o) : o = none := by
  cases o with
  | none => rfl
  | some u => exact (show False from r).elim
theorem handed_of {v : V} {u : Value} (r : RelV v u) : PySem.W.handedIn u = true := by
  cases v with
  | non => cases (show u = Value.none from r); rfl
  | bl b => cases (show u = Value.bool b from r); rfl
  | int i => obtain ⟨t, e⟩ := (show ∃ t, u = Value.int i t from r); cases e; rfl
  | str x => obtain ⟨t, e⟩ := (show ∃ t, u = Value.str x t from r); cases e; rfl
  | byt b => obtain ⟨t, e⟩ := (show ∃ t, u = Value.bytes b t from r); cases e; rfl
  | flt b => obtain ⟨t, e⟩ := (show ∃ t, u = Value.float b t from r); cases e; rfl
  | ref a => cases (show u = Value.ref a from r); rfl
  | ty n => cases (show u = Value.type n from r); rfl
section
variable {P : Program} {w : World} {H H' : Hp} {h h' : Heap} {a C dx : Addr} {fs fs' : List (Str × V)}
theorem ins_get (hok : HOk P w H h) (e : H a = some (.ins C dx fs)) : ∃ mA, ObjM h a dx C mA ∧ (∀ f, RelO (fs.lookup f) (mA f)) ∧ PySem.Within mA (fs.map (·.1)) ∧ fs.length ≤ 1000 ∧ H dx = some (.own a) := by
  obtain ⟨d, z, ne, ob, mA, n, r, q⟩ := (show ObjOk P w H h a (.ins C dx fs) from hok a _ e)
  exact ⟨mA, ⟨ob, n, ne⟩, r, q, z, d⟩
end
structure Cls (K : PySem.W.Frag) (C : Addr) : Prop where
  pg : PySem.W.plainGet K C Str.empty = true
  hd : PySem.W.hasDictIn K C = true
  po : PySem.W.plainOver K C = true
  sa : PySem.W.findIn K (.ref C) "__setattr__" = some (some (.builtin "object.__setattr__"))
theorem Cls.get {K : PySem.W.Frag} {C : Addr} (c : Cls K C) (f : Str) : PySem.W.plainGet K C f = true := c.pg
def NoAttr (K : PySem.W.Frag) (C : Addr) (f : Str) : Prop := PySem.W.findIn K (.ref C) f = some none
theorem NoAttr.taker {K : PySem.W.Frag} {C : Addr} {f : Str} (n : NoAttr K C f) : PySem.W.takerIn K C f = some none := by
  unfold PySem.W.takerIn
  rw [show PySem.W.findIn K (.ref C) f = some none from n]
  rfl
structure Con (K : PySem.W.Frag) (C : Addr) (f : Str) (v : V) (u : Value) : Prop where
  at_ : PySem.W.findIn K (.ref C) f = some (some u)
  rel : RelV v u
  get : PySem.W.specialIn K u "__get__" = some none
  cp : PySem.W.copiedNames.contains f = false
structure Meth (K : PySem.W.Frag) (C : Addr) (m : Str) (f : Addr) : Prop where
  at_ : PySem.W.findIn K (.ref C) m = some (some (.ref f))
  fn : PySem.W.isFn K (.ref f) = true
  kp : PySem.W.keepIn K (.ref f) = true
section
variable {X : Cx} {pins : List (Addr × Obj)} {σ : St} {H : Hp} {s : Shared} {a C dx : Addr} {fs : List (Str × V)} {f : Str} {v : V} {A : Around} {E : Value → Shared → Prop}
theorem getattr_ok {b : Bool} {Q : Value → Shared → Prop} (I : Inv X pins σ H s) (e : H a = some (.ins C dx fs)) (c : Cls X.K C) (n : NoAttr X.K C f) (l : fs.lookup f = some v)
    (h : ∀ u s', Inv X pins σ H s' → RelV v u → Q u s') : wpAny (model X.prog X.w) A (getAttr (.ref a) f b) Q E s := by
  obtain ⟨mA, O, r, _, _, _⟩ := ins_get I.hok e
  obtain ⟨u, hu, ru⟩ := RelO.some_of (v := v) (o := mA f) (by rw [← l]; exact r f)
  exact get_map I.kIn O (c.get f) c.hd n hu (handed_of ru) (h u _ (I.tok _) ru)
theorem getmeth_ok {m : Str} {g : Addr} {pl : Sem Bool} {Q : Value × List Value → Shared → Prop} (I : Inv X pins σ H s) (e : H a = some (.ins C dx fs)) (c : Cls X.K C) (k : Meth X.K C m g) (l : fs.lookup m = none)
    (h : Q (.ref g, [.ref a]) s) : wpAny (model X.prog X.w) A (getMethod (.ref a) m pl) Q E s := by
  obtain ⟨mA, O, r, _, _, _⟩ := ins_get I.hok e
  have hn : mA m = none := RelO.none_of (by rw [← l]; exact r m)
  exact get_meth I.kIn O (c.get m) k.at_ k.fn hn h
theorem setattr_ok {y : V} {u : Value} {Q : Unit → Shared → Prop} (I : Inv X pins σ H s) (e : H a = some (.ins C dx fs)) (c : Cls X.K C) (n : NoAttr X.K C f) (hl : fs.length < 1000) (ry : RelV y u)
    (h : ∀ s', Inv X pins σ (upd H a (.ins C dx (putF f y fs))) s' → Q () s') : wpAny (model X.prog X.w) A (setAttr (.ref a) f u) Q E s := by
  obtain ⟨mA, O, r, wi, _, ho⟩ := ins_get I.hok e
  have hz : (fs.map (·.1)).length ≤ sizeLine := by rw [List.length_map, sizeLine_eq]; omega
  refine set_map I.kIn O c.sa c.po n.taker c.hd wi hz fun h' O' sb => h _ ?_
  have hd : ∃ o, h'.get? dx = some o := let ⟨o, _, _, e', _⟩ := O'.ns; ⟨o, e'⟩
  refine I.write (x := a) (e := dx) (by rw [e]; exact True.intro) (.inr ho) (fun b q hb z => (sb.2 b hb).trans z) hd ?_
  refine ⟨by rw [upd_ne O.ne]; exact ho, ?_, O.ne, O'.obj, _, O'.ns, fun g => ?_, fun g hg => ?_⟩
  · have := length_putF f y fs; omega
  · show RelO ((putF f y fs).lookup g) (if g = f then some u else mA g)
    rw [lookup_putF]
    by_cases q : g = f
    · rw [if_pos q, if_pos q]; exact ry
    · rw [if_neg q, if_neg q]; exact r g
  · by_cases q : g = f
    · rw [q]; exact (keys_putF f y fs).1
    · refine (keys_putF f y fs).2 g (wi g fun z => hg ?_)
      show (if g = f then some u else mA g) = none
      rw [if_neg q]; exact z
theorem Inv.made (I : Inv X pins σ H s) : Inv X pins σ (upd (upd H s.heap.objs.size (.own (s.heap.objs.size + 1))) (s.heap.objs.size + 1) (.ins C s.heap.objs.size []))
    { s with heap := (s.heap.push PySem.W.emptyDict).push (PySem.W.instObj C s.heap.objs.size) } := by
  have e1 : (s.heap.push PySem.W.emptyDict).get? s.heap.objs.size = some PySem.W.emptyDict := Heap.get?_push_size s.heap rfl
  have e2 : ((s.heap.push PySem.W.emptyDict).push (PySem.W.instObj C s.heap.objs.size)).get? (s.heap.objs.size + 1) = some (PySem.W.instObj C s.heap.objs.size) := by
    have := Heap.get?_push_size (s.heap.push PySem.W.emptyDict) (o := PySem.W.instObj C s.heap.objs.size) rfl
    rwa [Heap.size_push] at this
  have e3 : (s.heap.push PySem.W.emptyDict).Ns s.heap.objs.size (fun _ => none) := ⟨PySem.W.emptyDict, #[], _, e1, rfl, (fun e he => absurd he (by simp)), fun _ => rfl⟩
  have I1 := I.laid (a := s.heap.objs.size) (o := .own (s.heap.objs.size + 1)) (h' := s.heap.push PySem.W.emptyDict) (t' := s.toks) (fun b u q => Heap.get?_push_of_some _ q) (Nat.le_refl _) ⟨_, e1⟩
  refine I1.laid (a := s.heap.objs.size + 1) (o := .ins C s.heap.objs.size []) (t' := s.toks) (fun b u q => Heap.get?_push_of_some _ q) (Nat.le_of_eq (Heap.size_push _ _)) ?_
  have ne : s.heap.objs.size ≠ s.heap.objs.size + 1 := Nat.ne_of_lt (Nat.lt_succ_self _)
  refine ⟨by rw [upd_ne ne, upd_same], Nat.zero_le _, ne, e2, fun _ => none, (Heap.Ns1.of_empty e3).at fun o q => Heap.get?_push_of_some _ q, fun _ => True.intro, fun y hy => absurd rfl hy⟩
theorem attr_of {prog : Program} {w : World} {env : Env} {e : Expr} {f : Str} {pos : Pos} {s : Shared} {Q : Value → Shared → Prop} (hb : attributeBase e f env (eval e env) = eval e env)
    (h : wpAny (model prog w) A (eval e env) (fun o s₁ => wpAny (model prog w) A (getAttr o f true) Q E s₁) E s) : wpAny (model prog w) A (eval (.Attribute e f pos) env) Q E s :=
  Attribute_any_ h (by rw [arm_eval_Attribute, hb])
end
def tFld (K : PySem.W.Frag) (ta : TE) (f : Str) : TE := fun σ H Q => ta σ H fun x H1 => ∃ a C dx fs v, x = .ref a ∧ H1 a = some (.ins C dx fs) ∧ Cls K C ∧ NoAttr K C f ∧ fs.lookup f = some v ∧ Q v H1
def sFld (K : PySem.W.Frag) (ta tv : TE) (f : Str) : TS := fun D σ H => tv σ H fun y H1 => ta σ H1 fun x H2 => ∃ a C dx fs, x = .ref a ∧ H2 a = some (.ins C dx fs) ∧ Cls K C ∧ NoAttr K C f ∧ fs.length < 1000 ∧
  D.nx σ (upd H2 a (.ins C dx (putF f y fs)))
def InOp (X : Cx) (op : Operator) (rd : V → V → Hp → VK → Prop) : Prop :=
  ∀ (pins : List (Addr × Obj)) (s : Shared) (σ : St) (H : Hp) (x y : V) (u v : Value) (Q : VK), Inv X pins σ H s → RelV x u → RelV y v → rd x y H Q → wpAny (model X.prog X.w) X.A (inplaceOp op u v) (EP X pins σ Q) X.xe s
def sFldAug (K : PySem.W.Frag) (ta tv : TE) (rd : V → V → Hp → VK → Prop) (f : Str) : TS := fun D σ H => ta σ H fun x H1 => ∃ a C dx fs v, x = .ref a ∧ H1 a = some (.ins C dx fs) ∧ Cls K C ∧ NoAttr K C f ∧ fs.lookup f = some v ∧
  tv σ H1 fun y H2 => rd v y H2 fun z H3 => ∃ dx' fs', H3 a = some (.ins C dx' fs') ∧ fs'.length < 1000 ∧ D.nx σ (upd H3 a (.ins C dx' (putF f z fs')))
section
variable {X : Cx} {o e value : Expr} {f : Str} {pos pos' tpos : Pos} {ta tv : TE}
theorem pe_fld (he : PE X e ta) (hb : attributeBase e f X.env (eval e X.env) = eval e X.env) : PE X (.Attribute e f pos) (tFld X.K ta f) := by
  intro pins s σ H Q I h
  refine attr_of hb (thn (he pins s σ H _ I h) fun u s1 ⟨x, H1, I1, rx, a, C, dx, fs, v, ex, ea, c, n, l, q⟩ => ?_)
  subst ex
  obtain rfl : u = Value.ref a := rx
  exact getattr_ok I1 ea c n l fun u' s2 I2 ru => ⟨v, H1, I2, ru, q⟩
theorem ps_fld (ha : PE X o ta) (hv : PE X value tv) (hs : swapsWith value (some (.Attribute o f pos')) pos.line X.env = pure false) : PS X (.Assign [.Attribute o f pos'] value pos) (sFld X.K ta tv f) := by
  intro pins s σ H D I h
  refine plainObj_wpAny_Assign_Attribute (thn (hv pins s σ H _ I h) fun u s1 ⟨y, H1, I1, ry, q⟩ => thn (ha pins s1 σ H1 _ I1 q) fun ov s2 ⟨x, H2, I2, rx, a, C, dx, fs, ex, ea, c, n, l, q2⟩ => ?_) hs
  subst ex
  obtain rfl : ov = Value.ref a := rx
  exact setattr_ok I2 ea c n l ry fun s3 I3 => ⟨σ, _, I3, q2⟩
theorem ps_fldaug {op : Operator} {rd : V → V → Hp → VK → Prop} (ha : PE X o ta) (hv : PE X value tv) (hop : InOp X op rd) : PS X (.AugAssign (.Attribute o f tpos) op value pos) (sFldAug X.K ta tv rd f) := by
  intro pins s σ H D I h
  refine wpAny_AugAssign_AttributeAny (thn (ha pins s σ H _ I h) fun ov s1 ⟨x, H1, I1, rx, a, C, dx, fs, v, ex, ea, c, n, l, q⟩ => ?_)
  subst ex
  obtain rfl : ov = Value.ref a := rx
  refine getattr_ok I1 ea c n l fun u s2 I2 ru => thn (hv pins s2 σ H1 _ I2 q) fun w3 s3 ⟨y, H2, I3, ry, q3⟩ => thn (hop pins s3 σ H2 v y u w3 _ I3 ru ry q3) fun w4 s4 ⟨z, H3, I4, rz, dx', fs', ea', l', q4⟩ => ?_
  exact setattr_ok I4 ea' c n l' rz fun s5 I5 => ⟨σ, _, I5, q4⟩
def rAdd : V → V → Hp → VK → Prop := fun x y H Q => ∃ i j, x = .int i ∧ y = .int j ∧ Q (.int (i + j)) H
theorem in_add : InOp X .Add rAdd := by
  rintro pins s σ H x y u v Q I rx ry ⟨i, j, rfl, rfl, q⟩
  obtain ⟨t, rfl⟩ := (show ∃ t, u = Value.int i t from rx)
  obtain ⟨t', rfl⟩ := (show ∃ t', v = Value.int j t' from ry)
  exact PyProof.Rows.iadd_int ⟨.int (i + j), H, I.tok _, ⟨_, rfl⟩, q⟩
end
section
variable {X : Cx} {pins : List (Addr × Obj)} {σ : St} {H : Hp} {s : Shared} {A : Around} {E : Value → Shared → Prop} {Q : Value → Shared → Prop} {c : Value} {b : Bool}
inductive TyOf (K : PySem.W.Frag) (H : Hp) : V → Value → Prop where
  | non : TyOf K H .non (.type "NoneType")
  | bl (x : Bool) : TyOf K H (.bl x) (.type "bool")
  | int (i : Int) : TyOf K H (.int i) (.type "int")
  | str (x : Str) : TyOf K H (.str x) (.type "str")
  | flt (x : UInt64) : TyOf K H (.flt x) (.type "float")
  | lst {a : Addr} {xs : List V} (e : H a = some (.lst xs)) : TyOf K H (.ref a) (.type "list")
  | frz {a : Addr} {o : Obj} {xs : List V} (e : H a = some (.frz o (.lst xs))) : TyOf K H (.ref a) (.type "list")
  | tup {a : Addr} {xs : List V} (e : H a = some (.tup xs)) : TyOf K H (.ref a) (.type "tuple")
  | dK {a : Addr} {kvs : List (Key × V)} (e : H a = some (.dK kvs)) : TyOf K H (.ref a) (.type "dict")
  | dT {a : Addr} {kvs : List (List Key × V)} (e : H a = some (.dT kvs)) : TyOf K H (.ref a) (.type "dict")
  | ins {a C dx : Addr} {fs : List (Str × V)} (e : H a = some (.ins C dx fs)) (cl : Cls K C) (ha : PySem.W.findIn K (.ref C) "__class__" = some (some (.builtin "object.__class__")))
      (hn : PySem.W.specialIn K (.builtin "object.__class__") "__get__" = some (some (.builtin "getset_descriptor.__get__"))) (htk : PySem.W.takesIn K (.builtin "object.__class__") = some true)
      (hm : PySem.W.mroIn K C (.type "object") = some true) : TyOf K H (.ref a) (.ref C)
theorem isinst_ok {x : V} {u t : Value} (I : Inv X pins σ H s) (rx : RelV x u) (ty : TyOf X.K H x t) (e : PySem.W.kitOne X.K t c = some b) (h : ∀ tk, Q (.bool b) { s with toks := tk }) :
    wpAny (model X.prog X.w) A (call (.builtin "isinstance") [u, c]) Q E s := by
  cases ty with
  | non => cases (show u = Value.none from rx); exact PySem.W.kia_one PySem.W.kitx_none I.kIn True.intro e (fun z => nomatch z) h
  | bl y => cases (show u = Value.bool y from rx); exact PySem.W.kia_one PySem.W.kitx_bool I.kIn True.intro e (fun z => nomatch z) h
  | int i => obtain ⟨t, q⟩ := (show ∃ t, u = Value.int i t from rx); cases q; exact PySem.W.kia_one PySem.W.kitx_int I.kIn True.intro e (fun z => nomatch z) h
  | str y => obtain ⟨t, q⟩ := (show ∃ t, u = Value.str y t from rx); cases q; exact PySem.W.kia_one PySem.W.kitx_str I.kIn True.intro e (fun z => nomatch z) h
  | flt y => obtain ⟨t, q⟩ := (show ∃ t, u = Value.float y t from rx); cases q; exact PySem.W.kia_one PySem.W.kitx_float I.kIn True.intro e (fun z => nomatch z) h
  | @lst a xs ea =>
    cases (show u = Value.ref a from rx)
    obtain ⟨_, _, n, _, h1⟩ := (show ObjOk X.prog X.w H s.heap a (.lst xs) from I.hok a _ ea)
    exact PySem.W.kia_one PySem.W.kitx_list I.kIn ⟨_, h1, rfl⟩ e (fun z => nomatch z) h
  | @frz a ob xs ea =>
    cases (show u = Value.ref a from rx)
    obtain ⟨_, _, _, n, _, h1⟩ := (show ObjOk X.prog X.w H s.heap a (.frz ob (.lst xs)) from I.hok a _ ea)
    exact PySem.W.kia_one PySem.W.kitx_list I.kIn ⟨_, h1, rfl⟩ e (fun z => nomatch z) h
  | @tup a xs ea =>
    cases (show u = Value.ref a from rx)
    obtain ⟨_, _, _, p⟩ := (show ObjOk X.prog X.w H s.heap a (.tup xs) from I.hok a _ ea)
    obtain ⟨o, h1, h2, _⟩ := p
    exact PySem.W.kia_one PySem.W.kitx_tuple I.kIn ⟨o, h1, h2⟩ e (fun z => nomatch z) h
  | @dK a kvs ea =>
    cases (show u = Value.ref a from rx)
    obtain ⟨_, _, vs, _, p⟩ := (show ObjOk X.prog X.w H s.heap a (.dK kvs) from I.hok a _ ea)
    obtain ⟨o, es, ep, h1, h2, _⟩ := p
    exact PySem.W.kia_one PySem.W.kitx_dict I.kIn ⟨o, h1, h2.1⟩ e (fun z => nomatch z) h
  | @dT a kvs ea =>
    cases (show u = Value.ref a from rx)
    obtain ⟨_, _, xs, _, o, es, ep, h1, h2, _⟩ := (show ObjOk X.prog X.w H s.heap a (.dT kvs) from I.hok a _ ea)
    exact PySem.W.kia_one PySem.W.kitx_dict I.kIn ⟨o, h1, h2.1⟩ e (fun z => nomatch z) h
  | @ins a C dx fs ea cl ha hn htk hm =>
    cases (show u = Value.ref a from rx)
    obtain ⟨mA, O, _⟩ := ins_get I.hok ea
    obtain ⟨od, J, _⟩ := O.look
    exact PySem.W.kia_one (PySem.W.kitx_own (cl.get _) cl.hd ha hn htk hm) I.kIn J e (fun z => nomatch z) h
end
end L2
namespace L2
open PySem PySem.Spec PyProof.Rows
structure Room (k : Nat) (A : Around) : Prop where
  hd : A.handled = none
  dp : A.depth + 3 * k + 5 < recursionLimit
  un : A.units + 16 * k + 200 < cLine
theorem Room.mono {j k : Nat} {A : Around} (r : Room k A) (h : j ≤ k) : Room j A := ⟨r.hd, by have := r.dp; omega, by have := r.un; omega⟩
theorem Room.deeper {k : Nat} {A : Around} (r : Room (k + 1) A) (env : Env) : Room k (A.deeper env) :=
  ⟨r.hd, by have := r.dp; show A.depth + 1 + 3 * k + 5 < _; omega, by have := r.un; show A.units + 3 + 16 * k + 200 < _; omega⟩
theorem Room.in1 {k : Nat} {A : Around} (r : Room (k + 1) A) : Room k A.in1 :=
  ⟨r.hd, by have := r.dp; show A.depth + 3 * k + 5 < _; omega, by have := r.un; show A.units + 1 + 16 * k + 200 < _; omega⟩
theorem make_depth {A : Around} {C : Addr} {us : List Value} {kw : List (Str × Value)} : (A.under (.builtin "type.__call__" ⟨.ref C :: us, kw⟩)).depth = A.depth + 1 := by
  first | rfl | simp [Around.under, Code.weight, Code.isCreation, Code.isGuard, Code.isCaller, Code.frames, Code.isFrame, guardIds]
theorem make_units {A : Around} {C : Addr} {us : List Value} {kw : List (Str × Value)} : (A.under (.builtin "type.__call__" ⟨.ref C :: us, kw⟩)).units = A.units + 1 := by
  first | rfl | simp [Around.under, Code.cUnits, Code.frames, Code.isFrame]
theorem Room.make {k : Nat} {A : Around} (r : Room (k + 1) A) (C : Addr) (us : List Value) (kw : List (Str × Value)) : Room k (A.under (.builtin "type.__call__" ⟨.ref C :: us, kw⟩)) :=
  ⟨r.hd, by have := r.dp; rw [make_depth]; omega, by have := r.un; rw [make_units]; omega⟩
theorem Room.depth {k : Nat} {A : Around} (r : Room k A) : A.depth < recursionLimit := by have := r.dp; omega
theorem Room.units {k : Nat} {A : Around} (r : Room k A) : A.units + 64 < cLine := by have := r.un; omega
def tNil : TA := fun _ H Q => Q [] H
def tCons (ta : TE) (tr : TA) : TA := fun σ H Q => ta σ H fun x H1 => tr σ H1 fun xs H2 => Q (x :: xs) H2
section
variable {X : Cx} {e : Expr} {es : List Expr} {te : TE} {t : TA} {pos : Pos}
theorem pa_nil : PA X [] tNil := fun _ _ _ _ H Q I h => Calls.spliced_nil ⟨[], H, I, .nil, h⟩
theorem pa_cons (ha : PE X e te) (hr : PA X es t) (hs : starEach (e :: es) X.env = (false, eval e X.env) :: starEach es X.env := by rfl) : PA X (e :: es) (tCons te t) := by
  intro pos pins s σ H Q I h
  rw [hs]
  show wpAny _ _ (spliced ((false, eval e X.env) :: backTo pos (starEach es X.env))) _ _ s
  refine Calls.spliced_cons (thn (ha pins s σ H _ I h) fun u s1 ⟨x, H1, I1, r1, q1⟩ => ?_)
  exact thn (hr pos pins s1 σ H1 _ I1 q1) fun us s2 ⟨xs, H2, I2, r2, q2⟩ => ⟨x :: xs, H2, I2, .cons r1 r2, q2⟩
def tTup (t : TA) : TE := fun σ H Q => t σ H fun xs H1 => xs.length ≤ sizeLine ∧ ∀ p, H1 p = none → Q (.ref p) (upd H1 p (.tup xs))
def tLst (t : TA) : TE := fun σ H Q => t σ H fun xs H1 => xs.length ≤ sizeLine ∧ ∀ p, H1 p = none → Q (.ref p) (upd H1 p (.lst xs))
theorem pe_tup {x1} (h : PA X es t) : PE X (.Tuple es x1 pos) (tTup t) := by
  intro pins s σ H Q I hq
  refine wpAny_Tuple_spliced (thn (h pos pins s σ H _ I hq) fun us s1 ⟨xs, H1, I1, r, z, q⟩ => ⟨by rw [← r.length]; exact z, ?_⟩)
  have hf : H1 s1.heap.objs.size = none := I1.hok.fresh (Nat.le_refl _)
  refine ⟨.ref s1.heap.objs.size, upd H1 s1.heap.objs.size (.tup xs), I1.laid (t' := s1.toks) (fun b u e => Heap.get?_push_of_some _ e) (Nat.le_refl _) ?_, rfl, q _ hf⟩
  exact ⟨z, us, r, ⟨_, Heap.get?_push_size _ rfl, rfl, _, rfl⟩⟩
theorem pe_lst (h : PA X es t) : PE X (.List es pos) (tLst t) := by
  intro pins s σ H Q I hq
  refine wpAny_List_spliced (thn (h pos pins s σ H _ I hq) fun us s1 ⟨xs, H1, I1, r, z, q⟩ => ⟨by rw [← r.length]; exact z, ?_⟩)
  have hf : H1 s1.heap.objs.size = none := I1.hok.fresh (Nat.le_refl _)
  refine ⟨.ref s1.heap.objs.size, upd H1 s1.heap.objs.size (.lst xs), I1.laid (t' := s1.toks) (fun b u e => Heap.get?_push_of_some _ e) (Nat.le_refl _) ?_, rfl, q _ hf⟩
  exact ⟨z, us, 0, r, Heap.get?_push_size _ rfl⟩
end
abbrev Sp := List V → Hp → VK → XK → Prop
abbrev CXT := List Env → Hp → Shared → XK → Value → Shared → Prop
structure Env0 (P : Program) (w : World) (K : PySem.W.Frag) (mg : Str → Option Value) (base : Heap) (A : Around) (outer : List Env) (s : Shared) (H : Hp) : Prop where
  frames : A.frames = some outer
  mod : Mod K mg base
  bs : ∀ b o, base.get? b = some o → s.heap.get? b = some o ∧ H b = none
  bsz : base.objs.size ≤ s.heap.objs.size
  funs : s.heap.FunFrames base outer
  frf : ∀ b ∈ frs outer, H b = none
  hok : HOk P w H s.heap
  bare : AllBare s.gens
def CE (outer : List Env) (P : Program) (w : World) (H : Hp) (s : Shared) (Q : VK) (u : Value) (s' : Shared) : Prop :=
  ∃ v H', s'.os = s.os ∧ AllBare s'.gens ∧ Un (frs outer) [] H H' s.heap s'.heap ∧ HOk P w H' s'.heap ∧ RelV v u ∧ Q v H'
def CR (CX : CXT) (outer : List Env) (P : Program) (w : World) (H : Hp) (s : Shared) (Q : VK) (E : XK) (r : Result) (s' : Shared) : Prop :=
  match r with
  | .ok (.ret u) => CE outer P w H s Q u s'
  | .ok _ => False
  | .error e => CX outer H s E e s'
structure FnOk (P : Program) (w : World) (K : PySem.W.Frag) (mg : Str → Option Value) (base : Heap) (CX : CXT) (k : Nat) (f : Addr) (fd : FuncData) (ps : List Str) (sp : Sp) : Prop where
  len : ∀ vs H Q E, sp vs H Q E → vs.length = ps.length
  run : ∀ (A : Around) (outer : List Env) (s : Shared) (H : Hp) (args : Args) (us : List Value) (vs : List V) (Q : VK) (E : XK), Room k A → Env0 P w K mg base A outer s H → BindsTo s fd args (ps.zip us) → Vals vs us → sp vs H Q E →
    codeAny (model P w) A (.call (.ref f) args) (CR CX outer P w H s Q E) s
theorem FnOk.mono {P : Program} {w : World} {K : PySem.W.Frag} {mg : Str → Option Value} {base : Heap} {CX : CXT} {j k : Nat} {f : Addr} {fd : FuncData} {ps : List Str} {sp : Sp} (F : FnOk P w K mg base CX j f fd ps sp) (h : j ≤ k) :
    FnOk P w K mg base CX k f fd ps sp := ⟨F.len, fun A outer s H args us vs Q E hr => F.run A outer s H args us vs Q E (hr.mono h)⟩
theorem Env0.make {P : Program} {w : World} {K : PySem.W.Frag} {mg : Str → Option Value} {base : Heap} {A : Around} {outer : List Env} {s : Shared} {H : Hp} (e : Env0 P w K mg base A outer s H) (C : Addr) (us : List Value) (kw : List (Str × Value)) :
    Env0 P w K mg base (A.under (.builtin "type.__call__" ⟨.ref C :: us, kw⟩)) outer s H := ⟨by first | exact e.frames | (simpa [Around.under, Code.envs, Code.isFrame, pushEnvs] using e.frames), e.mod, e.bs, e.bsz, e.funs, e.frf, e.hok, e.bare⟩
theorem Env0.in1 {P : Program} {w : World} {K : PySem.W.Frag} {mg : Str → Option Value} {base : Heap} {A : Around} {outer : List Env} {s : Shared} {H : Hp} (e : Env0 P w K mg base A outer s H) :
    Env0 P w K mg base A.in1 outer s H := ⟨e.frames, e.mod, e.bs, e.bsz, e.funs, e.frf, e.hok, e.bare⟩
section
variable {X : Cx} {pins : List (Addr × Obj)} {σ : St} {H : Hp} {s s' : Shared}
theorem Inv.env0 (I : Inv X pins σ H s) : Env0 X.prog X.w X.K X.mg X.base X.A X.stack s H :=
  ⟨I.ok.frames, I.ok.mod, I.bs, Nat.le_trans I.ok.bsz I.sz, I.stack, I.stkFree, I.hok, I.bare⟩
theorem Inv.after {Q : VK} {u : Value} (I : Inv X pins σ H s) (h : CE X.stack X.prog X.w H s Q u s') : EP X pins σ Q u s' := by
  obtain ⟨v, H', os, bare, un, hok, r, q⟩ := h
  obtain ⟨hh, g, d, t, os'⟩ := s'
  obtain rfl : os' = s.os := os
  exact ⟨v, H', I.call (h' := hh) (g' := g) (d' := d) (t' := t) (ch := []) un hok bare (fun b z => absurd z (by simp)), r, q⟩
end
def tCall (sp : Sp) (dvs : List V) (E : XK) (t : TA) : TE := fun σ H Q => t σ H fun vs H1 => sp (vs ++ dvs) H1 Q E
def tMeth (C : Addr) (m : Str) (sp : Sp) (dvs : List V) (E : XK) (ta : TE) (t : TA) : TE := fun σ H Q => ta σ H fun x H1 => ∃ a dx fs, x = .ref a ∧ H1 a = some (.ins C dx fs) ∧ fs.lookup m = none ∧
  t σ H1 fun vs H2 => sp (x :: (vs ++ dvs)) H2 Q E
def tMake (C : Addr) (sp : Sp) (dvs : List V) (E : XK) (t : TA) : TE := fun σ H Q => t σ H fun vs H1 => ∀ x dx, H1 x = none → H1 dx = none → dx ≠ x →
  sp (.ref x :: (vs ++ dvs)) (upd (upd H1 dx (.own x)) x (.ins C dx [])) (fun v H2 => v = .non ∧ Q (.ref x) H2) E
def Binds (K : PySem.W.Frag) (fd : FuncData) (ps : List Str) (ds : List Value) : Prop :=
  ∀ (s : Shared) (us : List Value), K.In s.heap → (us ++ ds).length = ps.length → BindsTo s fd ⟨us, []⟩ (ps.zip (us ++ ds))
theorem Binds.all {K : PySem.W.Frag} {fd : FuncData} {ps : List Str} (h : ∀ us : List Value, us.length = ps.length → bindArgs fd ⟨us, []⟩ = pure (ps.zip us)) : Binds K fd ps [] := fun s us _ hl => by
  rw [List.append_nil] at hl ⊢
  exact .of_eq (h us hl)
def Passes (CX : CXT) (X : Cx) (E : XK) : Prop := ∀ (pins : List (Addr × Obj)) (σ : St) (H : Hp) (s : Shared) (e : Value) (s' : Shared), Inv X pins σ H s → CX X.stack H s E e s' → X.xe e s'
section
variable {X : Cx} {CX : CXT} {k : Nat} {f C : Addr} {fd : FuncData} {ps : List Str} {sp : Sp} {dvs : List V} {ds : List Value} {E : XK} {x m : Str} {p pos apos : Pos} {e o : Expr} {es : List Expr} {ta : TE} {t : TA}
theorem run_fn {pins : List (Addr × Obj)} {σ : St} {H : Hp} {s : Shared} {Q : VK} {us : List Value} {vs : List V} (F : FnOk X.prog X.w X.K X.mg X.base CX k f fd ps sp) (hr : Room k X.A) (hb : Binds X.K fd ps ds) (hd : Vals dvs ds) (hx : Passes CX X E)
    (I : Inv X pins σ H s) (r : Vals vs us) (h : sp (vs ++ dvs) H Q E) : wpAny (model X.prog X.w) X.A (call (.ref f) us) (EP X pins σ Q) X.xe s := by
  have r2 : Vals (vs ++ dvs) (us ++ ds) := r.append hd
  have hl : (us ++ ds).length = ps.length := by rw [← r2.length]; exact F.len _ _ _ _ h
  refine wpAny_call (codeAny_mono (F.run X.A X.stack s H ⟨us, []⟩ (us ++ ds) (vs ++ dvs) Q E hr I.env0 (hb s us I.kIn hl) r2 h) fun r s' hq => ?_)
  cases r with
  | error e => exact hx pins σ H s e s' I hq
  | ok fl =>
    cases fl with
    | ret u => exact I.after hq
    | next => exact False.elim hq
    | brk => exact False.elim hq
    | cont => exact False.elim hq
theorem pe_call (F : FnOk X.prog X.w X.K X.mg X.base CX k f fd ps sp) (hr : Room k X.A) (hg : Gl X x) (hm : X.mg x = some (.ref f)) (hk : PySem.W.keepIn X.K (.ref f) = true) (hb : Binds X.K fd ps ds) (hd : Vals dvs ds) (hx : Passes CX X E)
    (ha : PA X (e :: es) t) (hdb : (x == ("__debug__" : Str)) = false := by decide) (he : starEach (e :: es) X.env = (false, eval e X.env) :: starEach es X.env := by rfl) (hpl : (backTo pos (starEach es X.env)).any (·.1) = false := by rfl) :
    PE X (.Call (.Name x p) (e :: es) [] pos) (tCall sp dvs E t) := by
  intro pins s σ H Q I h
  refine wpAny_Call_Name_kw (ld_glob I hg hm ?_ hdb)
  refine PySem.W.callWith_K (h₀ := X.base) I.ok.mod.kin hk (thn (ha pos pins s σ H _ I h) fun us s1 ⟨vs, H1, I1, r, q⟩ => ⟨I1.kIn, ?_⟩) he hpl
  exact run_fn F hr hb hd hx I1 r q
theorem pe_meth0 {pl : Sem Bool} (he : PE X o ta) (c : Cls X.K C) (hm : Meth X.K C m f) (F : FnOk X.prog X.w X.K X.mg X.base CX k f fd ps sp) (hr : Room k X.A) (hb : Binds X.K fd ps ds) (hd : Vals dvs ds) (hx : Passes CX X E)
    (ht : eval (.Call (.Attribute o m apos) [] [] pos) X.env = (do
      let ov ← eval o X.env
      standAt apos.atName
      let (f, first) ← holding [ov] (getMethod ov m pl)
      callWith pos f first (backTo pos (starEach [] X.env)) (backToKw pos (keywordEach [] X.env))) := by rfl) :
    PE X (.Call (.Attribute o m apos) [] [] pos) (tMeth C m sp dvs E ta tNil) := by
  intro pins s σ H Q I h
  refine PySem.W.methodCall_KW (pl := pl) (thn (he pins s σ H _ I h) fun u s1 ⟨x, H1, I1, rx, a, dx, fs, ex, ea, l, q⟩ => ?_) ht
  subst ex
  obtain rfl : u = Value.ref a := rx
  refine getmeth_ok I1 ea c hm l ?_
  exact PySem.W.callWith_K0 (first := [.ref a]) I1.kIn hm.kp (run_fn (us := [.ref a]) (vs := [.ref a]) F hr hb hd hx I1 (.cons rfl .nil) q)
structure Mk (K : PySem.W.Frag) (C f : Addr) : Prop where
  makes : PySem.W.makesIn K C = true
  init : PySem.W.findIn K (.ref C) "__init__" = some (some (.ref f))
  fn : PySem.W.isFn K (.ref f) = true
  kp : PySem.W.keepIn K (.ref C) = true
theorem run_make {pins : List (Addr × Obj)} {σ : St} {H : Hp} {s : Shared} {Q : VK} {us : List Value} {vs : List V} (M : Mk X.K C f) (F : FnOk X.prog X.w X.K X.mg X.base CX k f fd ps sp) (hr : Room (k + 1) X.A) (hb : Binds X.K fd ps ds) (hd : Vals dvs ds)
    (hx : Passes CX X E) (I : Inv X pins σ H s) (r : Vals vs us)
    (h : ∀ x dx, H x = none → H dx = none → dx ≠ x → sp (.ref x :: (vs ++ dvs)) (upd (upd H dx (.own x)) x (.ins C dx [])) (fun v H2 => v = .non ∧ Q (.ref x) H2) E) :
    wpAny (model X.prog X.w) X.A (call (.ref C) us) (EP X pins σ Q) X.xe s := by
  have hq := h (s.heap.objs.size + 1) s.heap.objs.size (I.hok.fresh (Nat.le_succ _)) (I.hok.fresh (Nat.le_refl _)) (Nat.ne_of_lt (Nat.lt_succ_self _))
  have I2 := Inv.made (C := C) I
  have r2 : Vals (V.ref (s.heap.objs.size + 1) :: (vs ++ dvs)) (Value.ref (s.heap.objs.size + 1) :: (us ++ ds)) := .cons rfl (r.append hd)
  have hl : (Value.ref (s.heap.objs.size + 1) :: us ++ ds).length = ps.length := by
    have e := r2.length
    rw [F.len _ _ _ _ hq] at e
    exact e.symm
  refine wpAny_call (make_map (f := f) I.kIn M.makes M.init (beq_iff_eq.mp M.fn) (codeAny_mono (F.run _ X.stack _ _ ⟨Value.ref (s.heap.objs.size + 1) :: us, []⟩ (Value.ref (s.heap.objs.size + 1) :: (us ++ ds)) _ _ E (hr.make C us [])
    (I2.env0.make C us []) (hb _ (Value.ref (s.heap.objs.size + 1) :: us) I2.kIn hl) r2 hq) fun r s' hq' => ?_))
  cases r with
  | error e => exact hx pins σ _ _ e s' I2 hq'
  | ok fl =>
    cases fl with
    | ret u =>
      obtain ⟨v, H', I3, rv, ev, q3⟩ := I2.after hq'
      subst ev
      exact ⟨rv, ⟨V.ref (s.heap.objs.size + 1), H', I3, rfl, q3⟩⟩
    | next => exact False.elim hq'
    | brk => exact False.elim hq'
    | cont => exact False.elim hq'
theorem pe_make (M : Mk X.K C f) (F : FnOk X.prog X.w X.K X.mg X.base CX k f fd ps sp) (hr : Room (k + 1) X.A) (hg : Gl X x) (hm : X.mg x = some (.ref C)) (hb : Binds X.K fd ps ds) (hd : Vals dvs ds) (hx : Passes CX X E)
    (ha : PA X (e :: es) t) (hdb : (x == ("__debug__" : Str)) = false := by decide) (he : starEach (e :: es) X.env = (false, eval e X.env) :: starEach es X.env := by rfl) (hpl : (backTo pos (starEach es X.env)).any (·.1) = false := by rfl) :
    PE X (.Call (.Name x p) (e :: es) [] pos) (tMake C sp dvs E t) := by
  intro pins s σ H Q I h
  refine wpAny_Call_Name_kw (ld_glob I hg hm ?_ hdb)
  refine PySem.W.callWith_K (h₀ := X.base) I.ok.mod.kin M.kp (thn (ha pos pins s σ H _ I h) fun us s1 ⟨vs, H1, I1, r, q⟩ => ⟨I1.kIn, ?_⟩) he hpl
  exact run_make M F hr hb hd hx I1 r q
end
section
variable {X : Cx} {CX : CXT} {k : Nat} {f C : Addr} {fd : FuncData} {ps ks : List Str} {sp : Sp} {E : XK} {x m : Str} {p pos apos kpos : Pos} {e o : Expr} {es : List Expr} {kws : List Keyword} {te ta : TE} {t tk : TA} {nm : Option Str}
structure KBinds (K : PySem.W.Frag) (fd : FuncData) (ps ks : List Str) (g : List Value → List Value → List Value) (gV : List V → List V → List V) : Prop where
  to : ∀ (s : Shared) (us ws : List Value), K.In s.heap → (g us ws).length = ps.length → BindsTo s fd ⟨us, ks.zip ws⟩ (ps.zip (g us ws))
  rel : ∀ {vs : List V} {us : List Value} {zs : List V} {ws : List Value}, Vals vs us → Vals zs ws → Vals (gV vs zs) (g us ws)
variable {g : List Value → List Value → List Value} {gV : List V → List V → List V}
end
structure FnScope (N P : List Str) (sc : Scope) : Prop where
  kind : sc.kind = .function
  co : sc.isCoroutine = false
  gen : sc.isGenerator = false
  nd : N.Nodup
  pre : N.take P.length = P
  par : ∀ x ∈ P, sc.names.lookup x = some .local ∨ sc.names.lookup x = some .cell
  nofree : ∀ y ∈ sc.names, y.2 ≠ .free
theorem bindL_out {kindOf : Str → Option NameKind} {x : Str} : ∀ {binds : List (Str × Value)} {m : Str → Option Value}, (∀ v, (x, v) ∉ binds) → bindL kindOf binds m x = m x
  | [], _, _ => rfl
  | (n, v) :: r, m, h => by
    unfold bindL
    rw [bindL_out fun w hw => h w (List.mem_cons_of_mem _ hw)]
    split
    · have : x ≠ n := by rintro rfl; exact h v List.mem_cons_self
      simp [this]
    · rfl
theorem bindC_out {kindOf : Str → Option NameKind} {x : Str} : ∀ {binds : List (Str × Value)} {m : Str → Option Value}, (∀ v, (x, v) ∉ binds) → bindC kindOf binds m x = m x
  | [], _, _ => rfl
  | (n, v) :: r, m, h => by
    unfold bindC
    rw [bindC_out fun w hw => h w (List.mem_cons_of_mem _ hw)]
    split
    · rfl
    · have : x ≠ n := by rintro rfl; exact h v List.mem_cons_self
      simp [this]
theorem bindL_get {kindOf : Str → Option NameKind} {x : Str} {v : Value} : ∀ {P : List Str} {vs : List Value} {i : Nat} {m : Str → Option Value}, P.Nodup → P[i]? = some x → vs[i]? = some v → kindOf x = some .local →
    bindL kindOf (P.zip vs) m x = some v
  | [], _, _, _, _, h, _, _ => by simp at h
  | _ :: _, [], _, _, _, _, h, _ => by simp at h
  | p :: P, w :: vs, 0, m, nd, h1, h2, hk => by
    simp at h1 h2; subst h1; subst h2
    show bindL kindOf ((p, w) :: P.zip vs) m p = _
    unfold bindL
    rw [bindL_out fun v hv => (List.nodup_cons.mp nd).1 (List.of_mem_zip hv).1, if_pos hk]
    simp
  | p :: P, w :: vs, i + 1, m, nd, h1, h2, hk => by
    show bindL kindOf ((p, w) :: P.zip vs) m x = _
    unfold bindL
    exact bindL_get (i := i) (List.nodup_cons.mp nd).2 (by simpa using h1) (by simpa using h2) hk
theorem bindC_get {kindOf : Str → Option NameKind} {x : Str} {v : Value} : ∀ {P : List Str} {vs : List Value} {i : Nat} {m : Str → Option Value}, P.Nodup → P[i]? = some x → vs[i]? = some v → kindOf x ≠ some .local →
    bindC kindOf (P.zip vs) m x = some v
  | [], _, _, _, _, h, _, _ => by simp at h
  | _ :: _, [], _, _, _, _, h, _ => by simp at h
  | p :: P, w :: vs, 0, m, nd, h1, h2, hk => by
    simp at h1 h2; subst h1; subst h2
    show bindC kindOf ((p, w) :: P.zip vs) m p = _
    unfold bindC
    rw [bindC_out fun v hv => (List.nodup_cons.mp nd).1 (List.of_mem_zip hv).1, if_neg hk]
    simp
  | p :: P, w :: vs, i + 1, m, nd, h1, h2, hk => by
    show bindC kindOf ((p, w) :: P.zip vs) m x = _
    unfold bindC
    exact bindC_get (i := i) (List.nodup_cons.mp nd).2 (by simpa using h1) (by simpa using h2) hk
def start (N : List Str) (vs : List V) : St := vs.map some ++ List.replicate (N.length - vs.length) none
def cxOf (CX : CXT) (P : Program) (w : World) (K : PySem.W.Frag) (mg : Str → Option Value) (base : Heap) (N : List Str) (qual : Str) (scope : Scope) (f : Addr) (cd : Value) (A : Around) (outer : List Env) (s : Shared) (H : Hp) (E : XK) : Cx where
  prog := P
  w := w
  K := K
  mg := mg
  base := base
  A := A.deeper (envOfC qual scope s.heap.objs.size f cd)
  N := N
  s₀ := s
  H₀ := H
  env := envOfC qual scope s.heap.objs.size f cd
  outer := outer
  stack := envOfC qual scope s.heap.objs.size f cd :: outer
  ex := []
  calm := true
  fn := fun _ => true
  pn := []
  xe := fun e s' => wpAny (model P w) (A.deeper (envOfC qual scope s.heap.objs.size f cd)) (leaving (envOfC qual scope s.heap.objs.size f cd) e) (fun _ s'' => CX outer H s E e s'') (fun e' s'' => CX outer H s E e' s'') s'
theorem cell_has {sc : Scope} {n : Nat} {x : Str} (h : sc.names.lookup x = some .cell) : ∃ c, (cellsFrom n sc.names []).lookup x = some c := by
  have q := PySem.W.cellsFrom_some sc.names n [] (.inl h)
  exact Option.isSome_iff_exists.mp q
theorem inv_start {CX : CXT} {P : Program} {w : World} {K : PySem.W.Frag} {mg : Str → Option Value} {base : Heap} {N ps : List Str} {qual : Str} {scope : Scope} {f : Addr} {cd : Value} {A : Around} {outer : List Env} {s s1 : Shared} {H : Hp} {E : XK} {us : List Value} {vs : List V}
    (S : FnScope N ps scope) (hd : A.handled = none) (e0 : Env0 P w K mg base A outer s H) (hl : vs.length = ps.length) (r : Vals vs us)
    (x : InCallC s s.heap.objs.size (bindL (envOfC qual scope s.heap.objs.size f cd).kindOf (ps.zip us) fun _ => none) (cellsFrom (s.heap.objs.size + 1) scope.names []) (bindC (envOfC qual scope s.heap.objs.size f cd).kindOf (ps.zip us) fun _ => none) s1) :
    Inv (cxOf CX P w K mg base N qual scope f cd A outer s H E) [] (start N vs) H s1 := by
  have hpl : ps.length ≤ N.length := by have := congrArg List.length S.pre; rw [List.length_take] at this; omega
  obtain ⟨h1, tk, rfl, hk⟩ := x.done
  have noA : ∀ b : Addr, b ∉ (cxOf CX P w K mg base N qual scope f cd A outer s H E).ex := fun b z => absurd (show b ∈ ([] : List Addr) from z) (by simp)
  refine ⟨⟨e0.mod, S.kind, rfl, rfl, Nat.le_refl _, fun y z c h1 h2 => ?_, fun y hy => ?_, fun y c _ h => ?_, fun _ => hd, Around.frames_deeper e0.frames, .inr ⟨rfl, rfl⟩, fun b z => absurd z (noA b), e0.bs, e0.bsz, fun b _ _ => noA b, fun b z => absurd z (noA b), e0.funs, e0.frf⟩,
    rfl, e0.bare, Un.kept hk, ⟨_, x.toInCall.ns, fun i y v h1 h2 h3 => ?_⟩, fun y c h => ⟨_, x.cell y c h⟩, e0.hok.fresh (Nat.le_refl _), fun y c h => ?_, fun p hp => absurd (show p ∈ ([] : List (Addr × Obj)) from hp) (by simp), e0.hok.kept hk, ?_⟩
  · exact name_of_addr x.apart (PySem.mem_of_lookup h1) (PySem.mem_of_lookup h2)
  · have hy : scope.names.lookup y = some .cell ∨ scope.names.lookup y = some .free := hy
    rcases hy with hy | hy
    · exact cell_has hy
    · exact absurd rfl (S.nofree _ (PySem.mem_of_lookup hy))
  · exact Nat.le_of_lt (x.above y c (PySem.mem_of_lookup h))
  · have hi : i < vs.length := by
      unfold start at h2
      by_cases hi : i < vs.length
      · exact hi
      · rw [List.getElem?_append_right (by simpa using hi)] at h2
        rw [List.getElem?_replicate] at h2
        split at h2 <;> cases h2
    have ha : vs[i]? = some v := by
      unfold start at h2
      rw [List.getElem?_append_left (by simpa using hi), List.getElem?_map] at h2
      cases e : vs[i]? with
      | none => rw [e] at h2; cases h2
      | some a => rw [e] at h2; cases h2; rfl
    obtain ⟨u, hu, rv⟩ := r.get ha
    have hp : ps[i]? = some y := by
      rw [← S.pre, List.getElem?_take_of_lt (by omega)]; exact h1
    have ndP : ps.Nodup := by rw [← S.pre]; exact S.nd.sublist (List.take_sublist _ _)
    refine ⟨u, rv, ?_⟩
    rcases S.par y (List.mem_of_getElem? hp) with k | k
    · exact .inl ⟨k, bindL_get ndP hp hu k⟩
    · obtain ⟨c, e⟩ := cell_has (n := s.heap.objs.size + 1) k
      refine .inr ⟨.inl k, c, e, ?_⟩
      have q := x.cell y c e
      rw [bindC_get ndP hp hu (by show scope.names.lookup y ≠ _; rw [k]; decide)] at q
      exact q
  · exact e0.hok.fresh (Nat.le_of_lt (x.above y c (PySem.mem_of_lookup h)))
  · unfold start
    show _ = N.length
    rw [List.length_append, List.length_map, List.length_replicate]
    omega
theorem fn_of {CX : CXT} {P : Program} {w : World} {K : PySem.W.Frag} {mg : Str → Option Value} {base : Heap} {k : Nat} {f : Addr} {name qual : Str} {params : Arguments} {body : List Stmt} {scope : Scope} {dV kV doc pm cdv ct oc : Value} {an od : Option Addr}
    {osl : Array (Option Value)} {N ps : List Str} {sp : Sp} (lk : K.lookup f = some ⟨oc, od, .func (PySem.W.fnOf name qual params body scope dV kV doc pm an cdv ct), osl⟩) (hcd : PySem.W.codeIn K cdv qual = true) (S : FnScope N ps scope)
    (len : ∀ vs H Q E, sp vs H Q E → vs.length = ps.length)
    (hbody : ∀ (A : Around) (outer : List Env) (s : Shared) (H : Hp) (vs : List V) (Q : VK) (E : XK), Room k (A.deeper (envOfC qual scope s.heap.objs.size f cdv)) → sp vs H Q E →
      ∃ t, PSs (cxOf CX P w K mg base N qual scope f cdv A outer s H E) body t ∧ t { nx := fun _ H' => Q .non H', rt := Q } (start N vs) H) :
    FnOk P w K mg base CX (k + 1) f (PySem.W.fnOf name qual params body scope dV kV doc pm an cdv ct) ps sp := by
  refine ⟨len, fun A outer s H args us vs Q E hr e0 hb r hsp => ?_⟩
  have hl := len _ _ _ _ hsp
  have KX : K.In s.heap := e0.mod.kin.keeps fun b o e => (e0.bs b o e).1
  have lim : s.heap.NoLimit := e0.mod.nolimit.keeps fun b o e => (e0.bs b o e).1
  have hkind : ∀ y ∈ ps.zip us, scope.names.lookup y.1 = some .local ∨ (scope.names.lookup y.1 = some .cell ∧ ((cellsFrom (s.heap.objs.size + 1) scope.names []).lookup y.1).isSome = true) := fun ⟨n, v⟩ hy => by
    rcases S.par n (List.of_mem_zip hy).1 with q | q
    · exact .inl q
    · exact .inr ⟨q, PySem.W.cellsFrom_some _ _ _ (.inl q)⟩
  refine codeAny_call_function hr.depth (KX _ _ lk) rfl S.co S.gen rfl (PySem.W.codeRec_of KX hcd) (hb _ _ _ _ ?_)
  refine wpAny_newFunctionEnv_cells S.kind hkind fun env he s1 x => ?_
  subst he
  refine ⟨lim.keeps x.toInCall.keep, codeAny_func ?_⟩
  obtain ⟨t, ht, hq⟩ := hbody A outer s H vs Q E (hr.deeper _) hsp
  have I : Inv (cxOf CX P w K mg base N qual scope f cdv A outer s H E) [] (start N vs) H s1 := inv_start S hr.hd e0 hl r x
  refine wpAny_mono (ht [] s1 (start N vs) H _ I hq) (fun fl s' hs => ?_) fun e s' hs => hs
  have fin : ∀ {σ' : St} {H' : Hp} {v : V} {u : Value}, Inv (cxOf CX P w K mg base N qual scope f cdv A outer s H E) [] σ' H' s' → RelV v u → Q v H' → CE outer P w H s Q u s' :=
    fun {σ' H' v u} J rv q => ⟨v, H', J.os, J.bare, J.base, J.hok, rv, q⟩
  cases fl with
  | ret u =>
    obtain ⟨v, σ', H', J, rv, q⟩ := hs
    exact fin J rv q
  | next =>
    obtain ⟨σ', H', J, q⟩ := hs
    exact fin (v := V.non) (u := Value.none) J rfl q
  | brk =>
    obtain ⟨_, _, _, q⟩ := hs
    exact False.elim q
  | cont =>
    obtain ⟨_, _, _, q⟩ := hs
    exact False.elim q
end L2
namespace L2
open PySem PySem.Spec PyProof.Rows
section
variable {X : Cx} {x : Str} {p pos : Pos} {e : Expr} {es : List Expr} {t : TA} {id T : String} {r : List V → Hp → VK → Prop}
def tCB (r : List V → Hp → VK → Prop) (t : TA) : TE := fun σ H Q => t σ H fun vs H1 => r vs H1 Q
theorem pe_callB (hc : CallR X (.builtin id) r) (hg : Gl X x) (hm : X.mg x = none) (hv : bootBuiltins x = some (.builtin id)) (ha : PA X (e :: es) t) (hn : x ≠ "__name__" := by decide) (hdb : (x == ("__debug__" : Str)) = false := by decide)
    (he : starEach (e :: es) X.env = (false, eval e X.env) :: starEach es X.env := by rfl) (hpl : (backTo pos (starEach es X.env)).any (·.1) = false := by rfl) : PE X (.Call (.Name x p) (e :: es) [] pos) (tCB r t) := by
  intro pins s σ H Q I h
  refine wpAny_Call_Name_kw (ld_blt I hg hm hv ?_ hn hdb)
  exact PyProof.Rows.callWith_builtin1 (thn (ha pos pins s σ H _ I h) fun us s1 ⟨vs, H1, I1, r1, q1⟩ => hc pins s1 σ H1 vs us Q I1 r1 q1) he hpl
theorem pe_callTy (hc : CallR X (.type T) r) (hg : Gl X x) (hm : X.mg x = none) (hv : bootBuiltins x = some (.type T)) (ha : PA X (e :: es) t) (hn : x ≠ "__name__" := by decide) (hdb : (x == ("__debug__" : Str)) = false := by decide)
    (he : starEach (e :: es) X.env = (false, eval e X.env) :: starEach es X.env := by rfl) (hpl : (backTo pos (starEach es X.env)).any (·.1) = false := by rfl) : PE X (.Call (.Name x p) (e :: es) [] pos) (tCB r t) := by
  intro pins s σ H Q I h
  refine wpAny_Call_Name_kw (ld_blt I hg hm hv ?_ hn hdb)
  exact PyProof.Rows.callWith_type1 (thn (ha pos pins s σ H _ I h) fun us s1 ⟨vs, H1, I1, r1, q1⟩ => hc pins s1 σ H1 vs us Q I1 r1 q1) he hpl
end
end L2
namespace HT
open PySem PyProof.Rows
section
open PySem.SeqAt
open PySem.AutoSeq1 (wpAny_loadPart')
open PySem.MeetsSeq PySem.MeetsSeq2 PySem.MeetsSeq3
end
section
variable {prog : Program} {w : World} {A : Around} {E : Value → Shared → Prop} {s : Shared}
def sIx (n d : Nat) : Option Int → Nat
  | none => d
  | some v => if v < 0 then (v + (n : Int)).toNat else min v.toNat n
theorem sIx_none (n d : Nat) : sIx n d none = d := rfl
theorem sIx_nat (n d k : Nat) : sIx n d (some (k : Int)) = min k n := by
  show (if (k : Int) < 0 then ((k : Int) + (n : Int)).toNat else min (k : Int).toNat n) = min k n
  rw [if_neg (by omega), Int.toNat_natCast]
end
end HT
namespace L2
open PySem PySem.Spec PyProof.Rows
abbrev TO := St → Hp → (Option Int → Hp → Prop) → Prop
def PO (X : Cx) (e : Option Expr) (t : TO) : Prop :=
  ∀ (pins : List (Addr × Obj)) (s : Shared) (σ : St) (H : Hp) (Q : Option Int → Hp → Prop), Inv X pins σ H s → t σ H Q →
    wpAny (model X.prog X.w) X.A (evalPart e X.env) (fun u s' => ∃ o H', Inv X pins σ H' s' ∧ IsPart u o ∧ Q o H') X.xe s
def tNoPart : TO := fun _ H Q => Q none H
def tPart (t : TE) : TO := fun σ H Q => t σ H fun x H1 => ∃ i, x = .int i ∧ Q (some i) H1
section
variable {X : Cx} {e : Expr} {te : TE} {lo hi : Option Expr} {tl th : TO} {pos p2 : Pos}
theorem po_none : PO X none tNoPart := by
  intro pins s σ H Q I h
  rw [evalPart_none]
  exact wpAny_pure ⟨none, H, I, .none, h⟩
theorem po_some (h : PE X e te) : PO X (some e) (tPart te) := by
  intro pins s σ H Q I hw
  rw [evalPart_some]
  refine thn (h pins s σ H _ I hw) fun u s1 ⟨x, H1, I1, r1, q1⟩ => ?_
  obtain ⟨i, rfl, q⟩ := q1
  obtain ⟨t, rfl⟩ := r1
  exact ⟨some i, H1, I1, .int i t, q⟩
def SlR (X : Cx) (r : V → Option Int → Option Int → Hp → VK → Prop) : Prop :=
  ∀ (pins : List (Addr × Obj)) (s : Shared) (σ : St) (H : Hp) (x : V) (v vl vu : Value) (lo hi : Option Int) (sl : Addr) (Q : VK), Inv X pins σ H s → RelV x v → s.heap.IsSliceOf sl vl vu .none → IsPart vl lo → IsPart vu hi → r x lo hi H Q →
    ∃ T id, typeLookup (.type T) "__getitem__" = pure (some (.builtin id)) ∧ s.TypeIs v T ∧ wpAny (model X.prog X.w) X.A (getItem v (.ref sl)) (EP X pins σ Q) X.xe s
theorem SlR.or {r r' : V → Option Int → Option Int → Hp → VK → Prop} (h : SlR X r) (h' : SlR X r') : SlR X (fun x lo hi H Q => r x lo hi H Q ∨ r' x lo hi H Q) := by
  intro pins s σ H x v vl vu lo hi sl Q I rx hs pl pu q
  rcases q with q | q
  · exact h pins s σ H x v vl vu lo hi sl Q I rx hs pl pu q
  · exact h' pins s σ H x v vl vu lo hi sl Q I rx hs pl pu q
def tSl (r : V → Option Int → Option Int → Hp → VK → Prop) (te : TE) (tl th : TO) : TE := fun σ H Q => te σ H fun x H1 => tl σ H1 fun l H2 => th σ H2 fun u H3 => r x l u H3 Q
theorem pe_slice {r : V → Option Int → Option Int → Hp → VK → Prop} (hr : SlR X r) (he : PE X e te) (hl : PO X lo tl) (hu : PO X hi th) : PE X (.Subscript e (.Slice lo hi none p2) pos) (tSl r te tl th) := by
  intro pins s σ H Q I h
  refine Subscript_ (thn (he pins s σ H _ I h) fun v s1 ⟨x, H1, I1, r1, q1⟩ => ?_)
  refine wpAny_Slice (thn (hl pins s1 σ H1 _ I1 q1) fun vl s2 ⟨l, H2, I2, pl, q2⟩ => thn (hu pins s2 σ H2 _ I2 q2) fun vu s3 ⟨u, H3, I3, pu, q3⟩ => ?_)
  rw [evalPart_none]
  refine wpAny_pure ?_
  have I4 : Inv X pins σ H3 { s3 with heap := s3.heap.push { cls := .type "slice", data := .fields #[vl, vu, .none] } } := I3.kept (t' := s3.toks) fun b ob q => Heap.get?_push_of_some _ q
  obtain ⟨T, id, hT, ht, hg⟩ := hr pins { s3 with heap := s3.heap.push { cls := .type "slice", data := .fields #[vl, vu, .none] } } σ H3 x v vl vu l u s3.heap.objs.size Q I4 r1 (Heap.IsSliceOf.new ..) pl pu q3
  show wpAny (model X.prog X.w) X.A (subscriptTail e (.Slice lo hi none p2) v (.ref s3.heap.objs.size)) (EP X pins σ Q) X.xe { s3 with heap := s3.heap.push { cls := .type "slice", data := .fields #[vl, vu, .none] } }
  exact tail_any (ops := [.ref s3.heap.objs.size, v]) ht hT hg (by with_unfolding_all rfl)
def cutV (xs : List V) (lo hi : Option Int) : List V := (xs.drop (HT.sIx xs.length 0 lo)).take (HT.sIx xs.length xs.length hi - HT.sIx xs.length 0 lo)
theorem cutV_length (xs : List V) (lo hi : Option Int) : (cutV xs lo hi).length ≤ xs.length := by
  unfold cutV
  rw [List.length_take, List.length_drop]
  omega
end
end L2
namespace L2
open PySem PySem.Spec PyProof.Rows
def ixN (n : Nat) (i : Int) : Option Nat := if 0 ≤ i then (if i < n then some i.toNat else none) else if -(n : Int) ≤ i then some (i + n).toNat else none
def atI {α : Type} (xs : List α) (i : Int) : Option α := (ixN xs.length i).bind fun j => xs[j]?
theorem ixN_seq {n : Nat} {i : Int} {j : Nat} (h : ixN n i = some j) : seqIndex? i n = some j ∧ j < n ∧ -(n : Int) ≤ i ∧ i < n := by
  unfold ixN at h
  by_cases h0 : 0 ≤ i
  · rw [if_pos h0] at h
    by_cases h1 : i < n
    · rw [if_pos h1] at h
      have e : i.toNat = j := Option.some.inj h
      exact ⟨by rw [seqIndex_of h0 h1, e], by omega, by omega, h1⟩
    · rw [if_neg h1] at h; cases h
  · rw [if_neg h0] at h
    by_cases h1 : -(n : Int) ≤ i
    · rw [if_pos h1] at h
      have e : (i + n).toNat = j := Option.some.inj h
      exact ⟨by rw [seqIndex_neg (by omega) h1, e], by omega, h1, by omega⟩
    · rw [if_neg h1] at h; cases h
theorem atI_get {α : Type} {xs : List α} {i : Int} {v : α} (h : atI xs i = some v) : ∃ j, seqIndex? i xs.length = some j ∧ xs[j]? = some v ∧ j < xs.length ∧ -(xs.length : Int) ≤ i ∧ i < xs.length := by
  unfold atI at h
  cases e : ixN xs.length i with
  | none => rw [e] at h; cases h
  | some j =>
    rw [e] at h
    obtain ⟨h1, h2, h3, h4⟩ := ixN_seq e
    exact ⟨j, h1, h, h2, h3, h4⟩
theorem atI_nat {α : Type} {xs : List α} {j : Nat} {v : α} (h : xs[j]? = some v) : atI xs (j : Int) = some v := by
  have hj : j < xs.length := (List.getElem?_eq_some_iff.mp h).1
  have e : ixN xs.length (j : Int) = some j := by
    unfold ixN
    rw [if_pos (by omega), if_pos (by omega)]; simp
  unfold atI; rw [e]; exact h
def PlainIx (b : Expr) : Prop := ∀ o i, subscripted b false o i = operate [o, i] (getItem o i)
def IxR (X : Cx) (r : R2) : Prop :=
  ∀ (value slice : Expr) (pins : List (Addr × Obj)) (s : Shared) (σ : St) (H : Hp) (x y : V) (v u : Value) (Q : VK), Inv X pins σ H s → RelV x v → RelV y u → r x y H Q →
    subscripted slice false v u = operate [v, u] (getItem v u) → wpAny (model X.prog X.w) X.A (subscriptTail value slice v u) (EP X pins σ Q) X.xe s
def MtR (X : Cx) (id : String) (r : V → List V → Hp → VK → Prop) : Prop :=
  ∀ (pins : List (Addr × Obj)) (s : Shared) (σ : St) (H : Hp) (x : V) (xs : List V) (v : Value) (us : List Value) (Q : VK), Inv X pins σ H s → RelV x v → Vals xs us → r x xs H Q →
    wpAny (model X.prog X.w) X.A (call (.builtin id) (v :: us)) (EP X pins σ Q) X.xe s
section
variable {X : Cx} {a b : Expr} {ta tb : TE} {pos : Pos}
theorem IxR.or {r r' : R2} (h : IxR X r) (h' : IxR X r') : IxR X (fun x y H Q => r x y H Q ∨ r' x y H Q) := by
  intro value slice pins s σ H x y v u Q I rx ry q hs
  rcases q with q | q
  · exact h value slice pins s σ H x y v u Q I rx ry q hs
  · exact h' value slice pins s σ H x y v u Q I rx ry q hs
theorem MtR.or {id : String} {r r' : V → List V → Hp → VK → Prop} (h : MtR X id r) (h' : MtR X id r') : MtR X id (fun x xs H Q => r x xs H Q ∨ r' x xs H Q) := by
  intro pins s σ H x xs v us Q I rx rs q
  rcases q with q | q
  · exact h pins s σ H x xs v us Q I rx rs q
  · exact h' pins s σ H x xs v us Q I rx rs q
theorem pe_ix {r : R2} (hr : IxR X r) (ha : PE X a ta) (hb : PE X b tb) (hs : PlainIx b) : PE X (.Subscript a b pos) (tOp r ta tb) := by
  intro pins s σ H Q I h
  exact Subscript_ (binT ha hb I h fun v u s2 x y H2 I2 rx ry q => hr a b pins s2 σ H2 x y v u Q I2 rx ry q (hs _ _))
def rIxL (K : PySem.W.Frag) : R2 := fun x y H Q => ∃ p xs i v, x = .ref p ∧ y = .int i ∧ SqL K H p xs ∧ atI xs i = some v ∧ Q v H
def rIxT (K : PySem.W.Frag) : R2 := fun x y H Q => ∃ p xs i v, x = .ref p ∧ y = .int i ∧ SqT K H p xs ∧ atI xs i = some v ∧ Q v H
def rIxS : R2 := fun x y H Q => ∃ z i c, x = .str z ∧ y = .int i ∧ z.length ≤ sizeLine ∧ atI z.cps.toList i = some c ∧ Q (.str ⟨#[c]⟩) H
theorem ix_list : IxR X (rIxL X.K) := by
  intro value slice pins s σ H x y v u Q I rx ry h hs
  obtain ⟨p, xs, i, z, rfl, rfl, hq, he, q⟩ := h
  cases rx
  obtain ⟨t, rfl⟩ := ry
  obtain ⟨its, r, pl, hz⟩ := I.list hq
  obtain ⟨j, h1, h2, h3, h4, h5⟩ := atI_get he
  obtain ⟨w, ew, rw'⟩ := r.get h2
  have hl := r.length
  have hn := line63
  have fin : EP X pins σ Q w s := ⟨z, H, I, rw', q⟩
  by_cases h0 : 0 ≤ i
  · have hj : i.toNat = j := by
      rw [seqIndex_of h0 h5] at h1
      exact Option.some.inj h1
    exact item_listR pl.isList h0 (by omega) (by rw [hj]; simpa using ew) fin hs
  · have hj : (i + (its.toArray.size : Int)).toNat = j := by
      rw [seqIndex_neg (by omega) h4] at h1
      rw [List.size_toArray, ← hl]
      exact Option.some.inj h1
    exact subscriptTail_builtinR (x := w) pl.isList.typeIs slot_list_getitem.lookup
      (wpAny_getItem_list_neg (Q := fun r s' => r = w ∧ EP X pins σ Q r s') pl.isList (by omega) (by rw [List.size_toArray] <;> omega) (by omega) (by rw [hj]; simpa using ew) ⟨rfl, fin⟩) hs
theorem ix_tup : IxR X (rIxT X.K) := by
  intro value slice pins s σ H x y v u Q I rx ry h hs
  obtain ⟨p, xs, i, z, rfl, rfl, hq, he, q⟩ := h
  cases rx
  obtain ⟨t, rfl⟩ := ry
  obtain ⟨its, r, pl, hz⟩ := I.tuple hq
  obtain ⟨j, h1, h2, h3, h4, h5⟩ := atI_get he
  obtain ⟨w, ew, rw'⟩ := r.get h2
  have hl := r.length
  have hn := line63
  have fin : EP X pins σ Q w s := ⟨z, H, I, rw', q⟩
  exact subscriptTail_builtinR (x := w) pl.typeIs slot_tuple_getitem.lookup
    (getItem_tuple (j := j) (Q := fun r s' => r = w ∧ EP X pins σ Q r s') pl (by omega) (by omega) (by rw [List.size_toArray, ← hl]; exact h1) (by simpa using ew) ⟨rfl, fin⟩) hs
theorem ix_str : IxR X rIxS := by
  intro value slice pins s σ H x y v u Q I rx ry h hs
  obtain ⟨z, i, c, rfl, rfl, hz, he, q⟩ := h
  obtain ⟨t, rfl⟩ := rx
  obtain ⟨t', rfl⟩ := ry
  obtain ⟨j, h1, h2, h3, h4, h5⟩ := atI_get he
  have hl : z.cps.toList.length = z.length := by simp [Str.length]
  rw [hl] at h1 h4 h5
  have hn := line63
  exact tail_any (typeIs_str s z t) slot_str_getitem.lookup (getItem_str (c := c) (by
    have e1 : decide (i < -(2 ^ 63 : Int)) = false := decide_eq_false (by omega)
    have e2 : decide (i ≥ 2 ^ 63) = false := decide_eq_false (by omega)
    rw [e1, e2, Bool.or_false]) (by rw [h1]; simpa using h2) ⟨.str ⟨#[c]⟩, H, I.tok _, ⟨_, rfl⟩, q⟩) hs
theorem mapSeq_set (its : List Value) (n j : Nat) (u : Value) : Obj.mapSeq (·.setIfInBounds j u) { cls := .type "list", data := .seq its.toArray n } = { cls := .type "list", data := .seq (its.set j u).toArray n } := by
  simp [Obj.mapSeq]
theorem Inv.lst {pins : List (Addr × Obj)} {σ : St} {H : Hp} {s : Shared} {p : Addr} {xs : List V} (I : Inv X pins σ H s) (h : H p = some (.lst xs)) :
    ∃ (its : List Value) (n : Nat), Vals xs its ∧ s.heap.get? p = some { cls := .type "list", data := .seq its.toArray n } ∧ xs.length ≤ sizeLine := by
  obtain ⟨z, its, n, r, e⟩ := I.hok p _ h
  exact ⟨its, n, r, e, z⟩
theorem Inv.lstUpd {pins : List (Addr × Obj)} {σ : St} {H : Hp} {s : Shared} {p : Addr} {xs ys : List V} {its its' : List Value} {n n' : Nat} {f : Obj → Obj} (I : Inv X pins σ H s) (h : H p = some (.lst xs))
    (ho : s.heap.get? p = some { cls := .type "list", data := .seq its.toArray n }) (hf : f { cls := .type "list", data := .seq its.toArray n } = { cls := .type "list", data := .seq its'.toArray n' }) (r : Vals ys its') (hz : ys.length ≤ sizeLine) (t : Nat) :
    Inv X pins σ (upd H p (.lst ys)) { s with heap := s.heap.update p f, toks := t } := by
  have e : (s.heap.update p f).get? p = some { cls := .type "list", data := .seq its'.toArray n' } := by
    rw [Heap.get?_update_self f ho (by rw [hf] <;> rfl), hf]
  refine I.write (x := p) (e := p) (by rw [h]; trivial) (.inl rfl) (fun b u hb q => (Heap.get?_update_other _ _ (Ne.symm hb)).trans q) ⟨_, e⟩ ?_
  exact ⟨hz, its', n', r, e⟩
def rSetL : V → V → V → Hp → (Hp → Prop) → Prop := fun o i v H Q => ∃ p xs k j, o = .ref p ∧ i = .int k ∧ H p = some (.lst xs) ∧ ixN xs.length k = some j ∧ Q (upd H p (.lst (xs.set j v)))
theorem set_list : PSet X rSetL := by
  intro pins s σ H o i v ov iv u Q I ro ri rv h
  obtain ⟨p, xs, k, j, rfl, rfl, hp, hj, q⟩ := h
  cases ro
  obtain ⟨t, rfl⟩ := ri
  obtain ⟨its, n, r, ho, hz⟩ := I.lst hp
  obtain ⟨h1, h2, h3, h4⟩ := ixN_seq hj
  have hl := r.length
  have hn := line63
  have I' : Inv X pins σ (upd H p (.lst (xs.set j v))) { s with heap := s.heap.update p (Obj.mapSeq (·.setIfInBounds j u)) } :=
    I.lstUpd hp ho (mapSeq_set its n j u) (r.set rv j) (by rw [List.length_set]; exact hz) s.toks
  by_cases h0 : 0 ≤ k
  · have hk : k.toNat = j := by
      rw [seqIndex_of h0 h4] at h1
      exact Option.some.inj h1
    exact PySem.W.ki_setAt ho h0 (by omega) (by rw [List.size_toArray, ← hl]; exact h4) (by rw [hk]; exact ⟨_, I', q⟩)
  · have hk : (k + (its.toArray.size : Int)).toNat = j := by
      rw [seqIndex_neg (by omega) h3] at h1
      rw [List.size_toArray, ← hl]
      exact Option.some.inj h1
    exact PySem.W.ki_setBack ho (by omega) (by rw [List.size_toArray, ← hl]; exact h3) (by omega) (by rw [hk]; exact ⟨_, I', q⟩)
theorem slice_bounds (lo hi : Option Int) (n : Nat) : (sliceBounds lo hi none n).1 = ((HT.sIx n 0 lo : Nat) : Int) ∧ (sliceBounds lo hi none n).2.1 = ((HT.sIx n n hi : Nat) : Int) ∧ (sliceBounds lo hi none n).2.2 = 1 := by
  refine ⟨?_, ?_, rfl⟩
  · cases lo with
    | none => simp [sliceBounds, HT.sIx]
    | some i =>
      simp only [sliceBounds, HT.sIx, Option.getD_none, show (1 : Int) > 0 by decide, if_true]
      by_cases h : i < 0
      · simp only [h, if_true] <;> omega
      · simp only [h, if_false] <;> omega
  · cases hi with
    | none => simp [sliceBounds, HT.sIx]
    | some i =>
      simp only [sliceBounds, HT.sIx, Option.getD_none, show (1 : Int) > 0 by decide, if_true]
      by_cases h : i < 0
      · simp only [h, if_true] <;> omega
      · simp only [h, if_false] <;> omega
theorem slicePick_cut (its : List Value) (lo hi : Option Int) : slicePick its.toArray lo hi none = ((its.drop (HT.sIx its.length 0 lo)).take (HT.sIx its.length its.length hi - HT.sIx its.length 0 lo)).toArray := by
  obtain ⟨h1, h2, h3⟩ := slice_bounds lo hi its.toArray.size
  unfold slicePick
  rw [h1, h2, h3]
  simp only [sliceRange_one, pick_run, List.size_toArray] <;> rfl
def rSlL (K : PySem.W.Frag) : V → Option Int → Option Int → Hp → VK → Prop := fun x lo hi H Q => ∃ a xs, x = .ref a ∧ SqL K H a xs ∧ ∀ p, H p = none → Q (.ref p) (upd H p (.lst (cutV xs lo hi)))
theorem sl_list : SlR X (rSlL X.K) := by
  intro pins s σ H x v vl vu lo hi sl Q I rx hs pl pu h
  obtain ⟨a, xs, rfl, hx, q⟩ := h
  cases rx
  obtain ⟨its, r, ht, hz⟩ := I.list hx
  have hlen := r.length
  refine ⟨"list", _, slot_list_getitem.lookup, ht.isList.typeIs, ?_⟩
  refine wpAny_getItem_list_slice ht.isList hs pl pu .none (by simp) ?_ (by rw [List.size_toArray] <;> omega)
  rw [slicePick_cut, ← hlen]
  refine ⟨.ref s.heap.objs.size, _, I.laid (t' := s.toks) (o := .lst (cutV xs lo hi)) (fun b ob q => Heap.get?_push_of_some _ q) (Nat.le_refl _) ?_, rfl, q _ (I.hok.fresh (Nat.le_refl _))⟩
  exact ⟨Nat.le_trans (cutV_length xs lo hi) hz, _, 0, (r.drop (HT.sIx xs.length 0 lo)).take (HT.sIx xs.length xs.length hi - HT.sIx xs.length 0 lo), Heap.get?_push_size _ rfl⟩
theorem call_len_seq : CallR X (.builtin "len") (fun xs H Q => ∃ p ys, xs = [.ref p] ∧ (SqL X.K H p ys ∨ SqT X.K H p ys) ∧ Q (.int ys.length) H) := by
  intro pins s σ H xs us Q I r h
  obtain ⟨p, ys, rfl, hq, q⟩ := h
  obtain ⟨u, rfl, rx⟩ := vals1 r
  cases rx
  have hn := line63
  rcases hq with hq | hq
  · obtain ⟨its, r', pl, hz⟩ := I.list hq
    have hlen := r'.length
    exact Calls.call_len_list pl.isList (by simp only [List.size_toArray] <;> omega) ⟨.int ys.length, H, I.tok _, ⟨s.toks + 1, by rw [List.size_toArray, hlen]⟩, q⟩
  · obtain ⟨its, r', pl, hz⟩ := I.tuple hq
    have hlen := r'.length
    exact len_tuple pl (by simp only [List.size_toArray] <;> omega) ⟨.int ys.length, H, I.tok _, ⟨s.toks + 1, by rw [List.size_toArray, hlen]⟩, q⟩
theorem call_len_str : CallR X (.builtin "len") (fun xs H Q => ∃ z, xs = [.str z] ∧ z.length ≤ sizeLine ∧ Q (.int z.length) H) := by
  intro pins s σ H xs us Q I r h
  obtain ⟨z, rfl, hz, q⟩ := h
  obtain ⟨u, rfl, t, rfl⟩ := vals1 r
  have hn := line63
  exact len_str (by omega) ⟨.int z.length, H, I.tok _, ⟨_, rfl⟩, q⟩
theorem CallR.or {f : Value} {r r' : List V → Hp → VK → Prop} (h : CallR X f r) (h' : CallR X f r') : CallR X f (fun xs H Q => r xs H Q ∨ r' xs H Q) := by
  intro pins s σ H xs us Q I rs q
  rcases q with q | q
  · exact h pins s σ H xs us Q I rs q
  · exact h' pins s σ H xs us Q I rs q
theorem call_tuple_of : CallR X (.type "tuple") (fun xs H Q => ∃ p ys, xs = [.ref p] ∧ ((SqL X.K H p ys ∧ ∀ l, H l = none → Q (.ref l) (upd H l (.tup ys))) ∨ (SqT X.K H p ys ∧ Q (.ref p) H))) := by
  intro pins s σ H xs us Q I r h
  obtain ⟨p, ys, rfl, h⟩ := h
  obtain ⟨u, rfl, rx⟩ := vals1 r
  cases rx
  rcases h with ⟨hq, q⟩ | ⟨hq, q⟩
  · obtain ⟨its, r', pl, hz⟩ := I.list hq
    have hlen := r'.length
    refine call_tuple_list pl.isList (fun h' kp => ?_) (by simp only [List.size_toArray] <;> omega)
    have I1 : Inv X pins σ H { s with heap := h' } := I.kept (t' := s.toks) kp
    have I2 : Inv X pins σ (upd H h'.objs.size (.tup ys)) { s with heap := h'.push { cls := .type "tuple", data := .seq its.toArray } } :=
      I1.laid (t' := s.toks) (fun b o e => Heap.get?_push_of_some _ e) (Nat.le_refl _) (show ObjOk X.prog X.w _ _ _ (.tup ys) from ⟨hz, its, r', IsTup.new _ _⟩)
    exact ⟨.ref h'.objs.size, _, I2, rfl, q _ (I1.hok.fresh (Nat.le_refl _))⟩
  · obtain ⟨its, r', pl, hz⟩ := I.tuple hq
    exact call_tuple_same pl ⟨.ref p, H, I, rfl, q⟩
def tyV (K : PySem.W.Frag) (T : String) (x : V) (H : Hp) : Prop := match x with
  | .str _ => T = "str"
  | .int _ => T = "int"
  | .ref p => (T = "list" ∧ ∃ xs, SqL K H p xs) ∨ (T = "tuple" ∧ ∃ o, K.lookup p = some o ∧ o.cls = .type "tuple" ∧ o.dict = none) ∨
      (T = "dict" ∧ ((∃ kvs, H p = some (.dK kvs)) ∨ ∃ kvs, H p = some (.dT kvs))) ∨ (T = "set" ∧ ∃ S n, H p = some (.set S n))
  | _ => False
theorem tyV_is {pins : List (Addr × Obj)} {σ : St} {H : Hp} {s : Shared} {T : String} {x : V} {v : Value} (I : Inv X pins σ H s) (r : RelV x v) (ty : tyV X.K T x H) :
    s.TypeIs v T ∧ ∀ a, v = .ref a → ∃ ob, s.heap.get? a = some ob ∧ ob.dict = none := by
  cases x with
  | str z =>
    obtain ⟨t, rfl⟩ := r
    cases (show T = "str" from ty)
    exact ⟨typeIs_str s z t, fun _ e => nomatch e⟩
  | int i =>
    obtain ⟨t, rfl⟩ := r
    cases (show T = "int" from ty)
    exact ⟨typeIs_int s i t, fun _ e => nomatch e⟩
  | ref p =>
    cases r
    rcases ty with ⟨rfl, xs, hq⟩ | ⟨rfl, o, hk, hc, hd⟩ | ⟨rfl, hk⟩ | ⟨rfl, S, n, hk⟩
    · obtain ⟨its, _, pl, _⟩ := I.list hq
      refine ⟨pl.isList.typeIs, fun a e => ?_⟩
      cases e
      obtain ⟨o, n, e, c, hd, _⟩ := pl
      exact ⟨o, e, hd⟩
    · refine ⟨⟨o, I.kIn p o hk, hc⟩, fun a e => ?_⟩
      cases e
      exact ⟨o, I.kIn _ o hk, hd⟩
    · have z : ∃ o, s.heap.get? p = some o ∧ o.ExactDict := by
        rcases hk with ⟨kvs, hk⟩ | ⟨kvs, hk⟩
        · obtain ⟨_, _, _, _, o, _, _, e, ex, _⟩ := I.hok p _ hk
          exact ⟨o, e, ex⟩
        · obtain ⟨_, _, _, _, o, _, _, e, ex, _⟩ := I.hok p _ hk
          exact ⟨o, e, ex⟩
      obtain ⟨o, e, ex⟩ := z
      refine ⟨⟨o, e, ex.1⟩, fun a e2 => ?_⟩
      cases e2
      exact ⟨o, e, ex.2.1⟩
    · obtain ⟨o, _, _, _, e, ex, _⟩ := I.hok p _ hk
      refine ⟨⟨o, e, ex.1⟩, fun a e2 => ?_⟩
      cases e2
      exact ⟨o, e, ex.2.1⟩
  | _ => exact False.elim ty
def tBM (K : PySem.W.Frag) (T : String) (r : V → List V → Hp → VK → Prop) (to : TE) (t : TA) : TE := fun σ H Q => to σ H fun x H1 => tyV K T x H1 ∧ t σ H1 fun xs H2 => r x xs H2 Q
variable {o e : Expr} {es : List Expr} {to : TE} {t : TA} {name : Str} {apos cpos : Pos} {T id : String} {r : V → List V → Hp → VK → Prop}
theorem pe_bm (pa : PlainAttrs T) (slot : Slot T name id) (hty : typeOf (.builtin id) = pure (.type "method_descriptor")) (hm : MtR X id r) (ho : PE X o to) (ha : PA X (e :: es) t)
    (hbase : attributeBase o name X.env (eval o X.env) = eval o X.env := by rfl)
    (hfew : ((backTo cpos (starEach (e :: es) X.env)).all (fun x => !x.1) && (backToKw cpos (keywordEach [] X.env)).all (fun x => x.1.isSome)
      && decide ((e :: es).length + ([] : List Keyword).length + (if ([] : List Keyword).isEmpty then 0 else 1) < 30)) = true := by rfl)
    (hline : (apos.endLine == cpos.line) = true := by rfl) (hs : starEach (e :: es) X.env = (false, eval e X.env) :: starEach es X.env := by rfl) (hplain : (backTo cpos (starEach es X.env)).any (·.1) = false := by rfl) :
    PE X (.Call (.Attribute o name apos) (e :: es) [] cpos) (tBM X.K T r to t) := by
  intro pins s σ H Q I h
  refine wpAny_Call_method_late hbase hfew hline rfl (thn (ho pins s σ H _ I h) fun v s1 ⟨x, H1, I1, r1, ty, q1⟩ => ?_)
  obtain ⟨h1, h2⟩ := tyV_is I1 r1 ty
  refine ⟨T, id, pa, slot, hty, h1, h2, ?_⟩
  have hA := ha cpos pins s1 σ H1 _ I1 q1
  rw [hs] at hA ⊢
  refine Calls.callWith_builtin (by show (false || (backTo cpos (starEach es X.env)).any (·.1)) = false; rw [hplain] <;> rfl) (Calls.evalArgs_plain ?_)
  exact thn hA fun us s2 ⟨vs, H2, I2, r2, q2⟩ => hm pins s2 σ H2 x vs v us Q I2 r1 r2 q2
/- xs.append(e), list.index on a module's tuple .. are MtR facts of 06m -/
end
end L2
namespace L2
open PySem PySem.Spec PyProof.Rows
def MtM (X : Cx) (id : String) (r : V → List V → Hp → VK → Prop) : Prop :=
  ∀ (pins : List (Addr × Obj)) (s : Shared) (σ : St) (H : Hp) (x : V) (xs : List V) (v : Value) (us : List Value) (Q : VK), Inv X pins σ H s → RelV x v → Vals xs us → r x xs H Q →
    wpAny (model X.prog X.w) X.A (call (.builtin id) (v :: us)) (EP X pins σ Q) X.xe s
theorem Vals.one : ∀ {x : V} {us : List Value}, Vals [x] us → ∃ u, us = [u] ∧ RelV x u
  | _, _, .cons r .nil => ⟨_, rfl, r⟩
theorem Vals.zero : ∀ {us : List Value}, Vals [] us → us = []
  | _, .nil => rfl
section
variable {X : Cx} {pins : List (Addr × Obj)} {σ : St} {H : Hp} {s : Shared} {l b : Addr} {xs ys zs : List V}
theorem Inv.lset {its its' : List Value} {n : Nat} {f : Array Value → Array Value} {t' : Nat} (I : Inv X pins σ H s) (hH : H l = some (.lst xs))
    (e : s.heap.get? l = some { cls := .type "list", data := .seq its.toArray n }) (hf : f its.toArray = its'.toArray) (hv : Vals ys its') (hz : ys.length ≤ sizeLine) :
    Inv X pins σ (upd H l (.lst ys)) { s with heap := s.heap.update l (Obj.mapSeq f), toks := t' } := by
  have q := PySem.IsL.update e f
  rw [hf] at q
  refine I.write (x := l) (e := l) (by rw [hH]; exact trivial) (.inl rfl) (fun b' u hb hu => (Heap.get?_update_other s.heap (Obj.mapSeq f) (Ne.symm hb)).trans hu) ⟨_, q⟩ ?_
  exact ⟨hz, its', _, hv, q⟩
theorem Inv.lnew {its : List Value} {t' : Nat} (I : Inv X pins σ H s) (hv : Vals ys its) (hz : ys.length ≤ sizeLine) :
    Inv X pins σ (upd H s.heap.objs.size (.lst ys)) { s with heap := s.heap.push { cls := .type "list", data := .seq its.toArray }, toks := t' } :=
  I.laid (fun _ _ q => Heap.get?_push_of_some _ q) (Nat.le_refl _) ⟨hz, its, 0, hv, Heap.get?_push_size _ rfl⟩
theorem Inv.fresh (I : Inv X pins σ H s) : H s.heap.objs.size = none := I.hok.fresh (Nat.le_refl _)
theorem Inv.lstM (I : Inv X pins σ H s) (hH : H l = some (.lst xs)) : xs.length ≤ sizeLine ∧ ∃ (its : List Value) (n : Nat), Vals xs its ∧ xs.length = its.length ∧ s.heap.get? l = some { cls := .type "list", data := .seq its.toArray n } := by
  obtain ⟨z, its, n, r, e⟩ := I.hok l _ hH
  exact ⟨z, its, n, r, r.length, e⟩
theorem notLongL {n : Nat} (h : n ≤ sizeLine) : Builtin.List.listTooLong n = false := by
  unfold Builtin.List.listTooLong
  exact decide_eq_false (by omega)
end
section
variable {X : Cx}
def rAppend : V → List V → Hp → VK → Prop := fun x vs H Q => ∃ l xs y, x = .ref l ∧ vs = [y] ∧ H l = some (.lst xs) ∧ xs.length < sizeLine ∧ Q .non (upd H l (.lst (xs ++ [y])))
theorem mt_append : MtM X "list.append" rAppend := by
  intro pins s σ H x vs v us Q I rx rv h
  obtain ⟨l, xs, y, rfl, rfl, hH, hz, q⟩ := h
  cases rx
  obtain ⟨u, rfl, ru⟩ := rv.one
  obtain ⟨z, its, n, r, hl, e⟩ := I.lstM hH
  refine call_meets F.slot_list_append ⟨_, e, rfl⟩ F.entry_list_append (F.args_list_append_2 _ _) (PySem.list_append l its.toArray n u (by rw [List.size_toArray]; omega)) ⟨e, ?_⟩
  refine ⟨.non, _, I.lset (its' := its ++ [u]) hH e (by simp) (r.append (.cons ru .nil)) ?_, rfl, q⟩
  rw [List.length_append, List.length_singleton]
  omega
def rExtend : V → List V → Hp → VK → Prop := fun x vs H Q => ∃ l b xs zs, x = .ref l ∧ vs = [.ref b] ∧ H l = some (.lst xs) ∧ H b = some (.lst zs) ∧ xs.length + zs.length ≤ sizeLine ∧ Q .non (upd H l (.lst (xs ++ zs)))
theorem mt_extend : MtM X "list.extend" rExtend := by
  intro pins s σ H x vs v us Q I rx rv h
  obtain ⟨l, b, xs, zs, rfl, rfl, hH, hB, hz, q⟩ := h
  cases rx
  obtain ⟨u, rfl, ru⟩ := rv.one
  cases ru
  obtain ⟨z, its, n, r, hl, e⟩ := I.lstM hH
  obtain ⟨z2, its2, n2, r2, hl2, e2⟩ := I.lstM hB
  have hsz : its.toArray.size + its2.toArray.size ≤ sizeLine := by rw [List.size_toArray, List.size_toArray]; omega
  have hlong : ¬ (!its.toArray.isEmpty && Builtin.List.listTooLong (its.toArray.size + its2.toArray.size)) = true := by
    rw [notLongL hsz, Bool.and_false]
    exact Bool.false_ne_true
  refine call_meets F.slot_list_extend ⟨_, e, rfl⟩ F.entry_list_extend (F.args_list_extend_2 _ _)
    (AutoSeq1.list_extend_list_list_0 l its.toArray n b its2.toArray n2 hlong (by rw [List.size_toArray]; omega) (by omega)) ⟨e, e2, ?_⟩
  refine ⟨.non, _, I.lset (its' := its ++ its2) hH e (by simp) (r.append r2) ?_, rfl, q⟩
  rw [List.length_append]
  omega
def rCat : R2 := fun x y H Q => ∃ l b xs zs, x = .ref l ∧ y = .ref b ∧ H l = some (.lst xs) ∧ H b = some (.lst zs) ∧ xs.length + zs.length ≤ sizeLine ∧ ∀ p, H p = none → Q (.ref p) (upd H p (.lst (xs ++ zs)))
theorem op_cat : OpR X (binaryOp .Add) rCat := by
  intro pins s σ H x y v u Q I rx ry h
  obtain ⟨l, b, xs, zs, rfl, rfl, hH, hB, hz, q⟩ := h
  cases rx
  cases ry
  obtain ⟨z, its, n, r, hl, e⟩ := I.lstM hH
  obtain ⟨z2, its2, n2, r2, hl2, e2⟩ := I.lstM hB
  refine PySem.P.add_list e e2 ?_ (by rw [List.size_toArray, List.size_toArray]; omega)
  have ea : its.toArray ++ its2.toArray = (its ++ its2).toArray := by simp
  rw [ea]
  exact ⟨.ref _, _, I.lnew (t' := s.toks) (r.append r2) (by rw [List.length_append]; omega), rfl, q _ I.fresh⟩
end
section
variable {prog : Program} {w : World} {A : Around} {E : Value → Shared → Prop} {s : Shared}
end
section
variable {X : Cx}
end
end L2
namespace Att
open PySem PySem.W PySem.Calls PyProof.Rows
theorem ints_of_wellAll {P : Params} {h : Heap} : ∀ (ns : List Int) (vs : List Value), WellAll P h vs (ns.map WData.int) → IntsAre vs ns := by
  intro ns
  induction ns with
  | nil =>
    intro vs w
    rw [List.map_nil] at w
    cases w
    exact .nil
  | cons n ns ih =>
    intro vs w
    rw [List.map_cons] at w
    cases w with
    | cons a b =>
      cases a
      exact .cons _ _ (ih _ b)
theorem script_of {l : OpenLaw} {n : Nat} (hn : l.most = some n) {P : Params} {h : Heap} {args : List WData} {vals : List Value}
    (hpre : l.row.toRowW.claim.pre args = true) (hwl : WellAll P h vals args) :
    ∃ a vs ns, vals = [Value.ref a] ∧ args = [WData.list (ns.map WData.int)] ∧ h.get? a = some { cls := .type "list", data := .seq vs.toArray } ∧ IntsAre vs ns ∧ ns.length ≤ n := by
  have hsh : WShape.hasAll [] args [.list .int] = true := (pre_splitW hpre).1
  have hc : l.pre.holds [] { args := args } = true := (pre_splitW hpre).2
  obtain ⟨d, r, rfl, h1, h2⟩ := hasAllW_cons hsh
  obtain rfl := hasAllW_nil h2
  obtain ⟨xs, rfl, h3⟩ := hasW_list h1
  obtain ⟨ns, rfl⟩ := items_int h3
  have hlen : ns.length ≤ n := by
    unfold OpenLaw.pre at hc
    have h4 : (WTm.not (.lt (.lit (.int (n : Int))) (.len (.arg 0)))).holds [] { args := [.list (ns.map .int)] } = true := by
      have h4 := (holds_andW hc).1
      rw [hn] at h4
      exact h4
    have h5 := condW_of h4 (w_not (w_lt w_lit (w_len_list (w_arg rfl))))
    rw [List.length_map] at h5
    refine Nat.le_of_not_lt fun q => ?_
    have q' : (n : Int) < ((ns.length : Nat) : Int) := by omega
    first
      | (rw [decide_eq_true q'] at h5; exact absurd h5 (by decide))
      | (simp at h5; omega)
  cases hwl with
  | cons w1 w2 =>
    cases w2
    cases w1 with
    | list ho hall => exact ⟨_, _, ns, rfl, rfl, ho, ints_of_wellAll ns _ hall, hlen⟩
theorem post_true (l : OpenLaw) (args : List WData) : l.row.toRowW.claim.post args (.bool true) args = true :=
  postW_of (r := l.row.toRowW) (X := (true == true))
    (show WShape.has [] (.bool true) .bool = true by first | rfl | decide | simp [WShape.has, WShape.arms, WShape.armsAll])
    (show (WTm.eq .res (.lit (.bool true))).value [] { args := args, res := some (.bool true), after := args } = some (.bool (true == true)) from w_eq_bool (w_res rfl) w_lit) rfl
theorem attach_call {l : OpenLaw} {n : Nat} {q : Program} {loose : List Str} {XP : (Str → Option Value) → Heap → Prop} {YP : World → Heap → Prop} {d : DefRec}
    (hn : l.most = some n) (hdf : d.params.defaults = [])
    (call : ∀ (w : World) (s₀ s₁ : Shared) (mg mb : Str → Option Value) (fa : Addr) (o : Obj) (pm cd doc : Value) (a : Addr) (vs : List Value) (ns : List Int),
      Ground q loose [] XP w s₀ mg mb s₁.heap → YP w s₁.heap →
      s₁.heap.get? fa = some o → o.data = .func (docDef d.name d.params d.body d.scope pm cd doc) → s₁.heap.CodeRec cd d.name → mg d.name = some (.ref fa) →
      s₁.heap.get? a = some { cls := .type "list", data := .seq vs.toArray } → IntsAre vs ns → ns.length ≤ n → s₁.gens = #[] →
      codeAny (model l.prog w) callerA (.call (.ref fa) ⟨[.ref a], []⟩) (fun r s' => r = .ok (.ret (.bool true)) ∧ OldK s₁.heap s'.heap ∧ s'.os = s₁.os ∧ AllBare s'.gens) s₁) :
    WalkO q loose XP YP l.row.toRowW d [] (fun f vs => PySem.call f vs) := by
  intro w s₀ s₁ mg mb G Y fa o pm cd doc dV kV ho hd hcd hD hmg hg args vals as hpre hlay hrd hwl hlo
  obtain rfl : dV = .none := Dflts.none hD hdf
  obtain rfl : kV = .none := Dflts.noKw hD
  obtain ⟨a, vs, ns, rfl, rfl, hobj, hints, hlen⟩ := script_of hn hpre hwl
  refine enter_call (codeAny_mono (call w s₀ s₁ mg mb fa o pm cd doc a vs ns G Y ho (fd_plain hd) hcd hmg hobj hints hlen hg) fun r s' hq => ?_)
  obtain ⟨rfl, h2, h3, h4⟩ := hq
  exact ⟨.inl ⟨.bool true, .bool true, [], rfl, fun _ => rfl, .bool true, post_true l _, fun _ => ⟨List.Pairwise.nil, fun _ hm => (nomatch hm)⟩⟩, h2, h3, h4⟩
section
variable {prog : Program} {w : World} {A : Around} {E : Value → Shared → Prop} {s : Shared} {K : Frag}
end
end Att
namespace L2
open PySem PySem.Spec PyProof.Rows
theorem vals_ints : ∀ {vs : List Value} {ns : List Int}, IntsAre vs ns → Vals (ns.map V.int) vs
  | _, _, .nil => .nil
  | _, _, .cons n t h => .cons ⟨t, rfl⟩ (vals_ints h)
def Only (H : Hp) : Prop := ∀ b, H b = none ∨ ∃ o xs, H b = some (.frz o (.lst xs))
theorem law_call {P : Program} {w : World} {K : PySem.W.Frag} {mg mb : Str → Option Value} {CX : CXT} {k : Nat} {fa a : Addr} {fd : FuncData} {x : Str} {sp : Sp} {s₁ : Shared} {vs : List Value} {ns : List Int}
    (KX : K.In s₁.heap) (hns : s₁.heap.Ns mainGlobals mg) (hb : s₁.heap.Ns builtinsNs mb) (hbb : ∀ x : Str, x ≠ "__name__" → mb x = bootBuiltins x) (hlim : s₁.heap.NoLimit) (hg : s₁.gens = #[])
    (ha : s₁.heap.get? a = some { cls := .type "list", data := .seq vs.toArray }) (hi : IntsAre vs ns) (hl : ns.length ≤ sizeLine) (hr : Room k callerA)
    (F : ∀ base : Heap, K.In base → base.Ns mainGlobals mg → FnOk P w K mg base CX k fa fd [x] sp) (hbind : ∀ (s : Shared) (u : Value), BindsTo s fd ⟨[u], []⟩ [(x, u)])
    (hsp : ∀ H : Hp, Only H → SqL K H a (ns.map V.int) → sp [.ref a] H (fun v _ => v = .bl true) fun _ _ _ => False)
    (hCX : ∀ H e s', CX [] H s₁ (fun _ _ _ => False) e s' → False) :
    codeAny (model P w) callerA (.call (.ref fa) ⟨[.ref a], []⟩) (fun r s' => r = .ok (.ret (.bool true)) ∧ OldK s₁.heap s'.heap ∧ s'.os = s₁.os ∧ AllBare s'.gens) s₁ := by
  have rv := vals_ints hi
  have lenV := hi.length
  have core : ∀ H : Hp, Only H → SqL K H a (ns.map V.int) → HOk P w H s₁.heap → (∀ b, H b ≠ none → b = a) → (H a ≠ none → K.lookup a = none) →
      codeAny (model P w) callerA (.call (.ref fa) ⟨[.ref a], []⟩) (fun r s' => r = .ok (.ret (.bool true)) ∧ OldK s₁.heap s'.heap ∧ s'.os = s₁.os ∧ AllBare s'.gens) s₁ := by
    intro H hO hS hok hA hK
    have base_of : ∀ {b : Addr} {o : Obj}, s₁.heap.get? b = some o → H b = none → (hidT s₁.heap H).get? b = some o := fun e n => hidT_get e n
    have noA : ∀ {b : Addr} {o : Obj} {es : Array DictEntry} {ep : Nat}, s₁.heap.get? b = some o → o.data = .dict es ep → H b = none := fun {b o es ep} e d => by
      cases q : H b with
      | none => rfl
      | some u =>
        have e' : b = a := hA b (by rw [q]; simp)
        subst e'
        rw [ha] at e; cases e
        have d' : Data.seq vs.toArray _ = Data.dict es ep := d
        cases d'
    have nsK : ∀ {b : Addr} {m : Str → Option Value}, s₁.heap.Ns b m → (hidT s₁.heap H).Ns b m := fun {b m} ⟨o, es, ep, e, d, r⟩ => ⟨o, es, ep, base_of e (noA e d), d, r⟩
    have hKb : K.In (hidT s₁.heap H) := fun b o e => base_of (KX b o e) (by
      cases q : H b with
      | none => rfl
      | some u =>
        have e' : b = a := hA b (by rw [q]; simp)
        subst e'
        rw [hK (by rw [q]; simp)] at e; cases e)
    have hM : Mod K mg (hidT s₁.heap H) := ⟨hKb, nsK hns, ⟨mb, nsK hb, hbb⟩, let ⟨mc, h1, h2⟩ := hlim; ⟨mc, nsK h1, h2⟩⟩
    have e0 : Env0 P w K mg (hidT s₁.heap H) callerA [] s₁ H := ⟨rfl, hM, fun b o e => of_hidT e, Nat.le_of_eq (hidT_size _ _), trivial, fun b hb => absurd (show b ∈ ([] : List Addr) from hb) (by simp), hok, .of_eq hg⟩
    refine codeAny_mono ((F _ hKb (nsK hns)).run callerA [] s₁ H ⟨[.ref a], []⟩ [.ref a] [.ref a] _ _ hr e0 (hbind s₁ (.ref a)) (.cons rfl .nil) (hsp H hO hS)) fun r s' h => ?_
    cases r with
    | error e => exact (hCX H e s' h).elim
    | ok fl =>
      cases fl with
      | next => exact False.elim h
      | brk => exact False.elim h
      | cont => exact False.elim h
      | ret u =>
        obtain ⟨v, H', os, bare, un, hok', r', q⟩ := h
        have q' : v = .bl true := q
        subst q'
        obtain rfl : u = Value.bool true := r'
        refine ⟨rfl, OldK.of_keep fun b o e => ?_, os, bare⟩
        cases q : H b with
        | none => exact un.keep b o e q (by intro z; exact absurd (show b ∈ ([] : List Addr) from z) (by simp)) (by simp)
        | some u =>
          rcases hO b with z | ⟨ob, xs, z⟩
          · rw [q] at z; cases z
          · have z2 := un.frzs b ob _ z
            obtain ⟨e1, _⟩ := hok b _ z
            obtain ⟨e2, _⟩ := hok' b _ z2
            rw [e] at e1; cases e1
            exact e2
  cases hk : K.lookup a with
  | some o =>
    have e := KX a o hk
    rw [ha] at e
    cases e
    refine core (fun _ => none) (fun _ => .inl rfl) (.inr ⟨_, vs.toArray, _, hk, rfl, rfl, rfl, by rw [List.size_toArray, lenV]; exact hl, by simpa using rv⟩) (fun b u z => by have z' : (none : Option HO) = some u := z; cases z') (fun b z => absurd rfl z) fun z => absurd rfl z
  | none =>
    refine core (fun b => if b = a then some (.frz { cls := .type "list", data := .seq vs.toArray } (.lst (ns.map V.int))) else none) (fun b => ?_) (.inl (.inr ⟨{ cls := .type "list", data := .seq vs.toArray }, if_pos rfl⟩)) (fun b u z => ?_) (fun b z => ?_) fun _ => hk
    · by_cases hb : b = a
      · exact .inr ⟨_, _, if_pos hb⟩
      · exact .inl (if_neg hb)
    · by_cases hb : b = a
      · have z' := (if_pos hb).symm.trans z
        cases z'
        subst hb
        exact ⟨ha, by rw [List.length_map]; exact hl, vs, _, rv, ha⟩
      · have z' := (if_neg hb).symm.trans z
        cases z'
    · by_cases hb : b = a
      · exact hb
      · exact absurd (if_neg hb) z
end L2
namespace L2
open PySem PySem.Spec PyProof.Rows
abbrev KOf {K : PySem.W.Frag} {h : Heap} (_ : K.In h) : PySem.W.Frag := K
theorem walk_of {l : PySem.W.OpenLaw} {n k : Nat} {q : Program} {loose : List Str} {XP : (Str → Option Value) → Heap → Prop} {YP : World → Heap → Prop} {d : DefRec} {K : Params → PySem.W.Frag} {CX : World → CXT} {sp : World → Sp} {x : Str}
    (hn : l.most = some n) (hn2 : n ≤ sizeLine) (hdf : d.params.defaults = []) (hr : Room k callerA)
    (hY : ∀ (w : World) (h : Heap), YP w h → (K w.params).In h)
    (F : ∀ (w : World) (mg : Str → Option Value) (fa : Addr) (h : Heap), (K w.params).In h → h.Ns mainGlobals mg → mg d.name = some (.ref fa) →
      ∃ fd : FuncData, (∀ (s : Shared) (u : Value), BindsTo s fd ⟨[u], []⟩ [(x, u)]) ∧
        ∀ base : Heap, (K w.params).In base → base.Ns mainGlobals mg → FnOk l.prog w (K w.params) mg base (CX w) k fa fd [x] (sp w))
    (hsp : ∀ (w : World) (H : Hp) (a : Addr) (ns : List Int), ns.length ≤ n → Only H → SqL (K w.params) H a (ns.map V.int) → sp w [.ref a] H (fun v _ => v = .bl true) fun _ _ _ => False)
    (hCX : ∀ (w : World) (H : Hp) (s : Shared) (e : Value) (s' : Shared), CX w [] H s (fun _ _ _ => False) e s' → False) :
    PySem.W.WalkO q loose XP YP l.row.toRowW d [] (fun f vs => PySem.call f vs) := by
  refine Att.attach_call hn hdf fun w s₀ s₁ mg mb fa o pm cd doc a vs ns G Y ho hd hcd hmg hobj hints hlen hg => ?_
  have KX := hY w _ Y
  obtain ⟨fd, hb, hF⟩ := F w mg fa _ KX G.T.g hmg
  exact law_call KX G.T.g G.T.b G.T.builtins G.T.nolimit hg hobj hints (Nat.le_trans hlen hn2) hr hF hb (fun H hO hS => hsp w H a ns hlen hO hS) fun H e s' => hCX w H s₁ e s'
end L2
/- THE LAST THEOREM (shape; LID, My.* are yours):
   My.Adr: a structure of the addresses that your layer names (classes, functions); My.Txt K t: a structure (Prop) of the equations over K;
   My.txt_mk : {K} {implicit addresses ..} (e1 : nsIn K mainGlobals "law" = some (some (.ref f))) (e2 : K.lookup f = some ⟨oc, od, .func (fnOf "law" "law" params body scope dV kV doc pm an cdv ct), sl⟩) (e3 : codeIn K cdv "law" = true) .. : ∃ t, My.Txt K t
set_option maxRecDepth 100000 in
set_option maxHeartbeats 0 in
theorem PySem.Challenge.cw_LID_holds : PySem.Challenge.rw_LID.Holds := by
  w_on; o_law; k_head; (case hw => w_witness2)
  k_fill
  refine L2.walk_of (l := PySem.Challenge.rw_LID) (n := 63) (k := 40) (x := "script") (CX := fun w => ..) (sp := fun _ => My.sp_law) rfl (by decide) rfl ⟨rfl, by decide, by decide⟩ (fun w h Y => PySem.W.kIn_of Y) ?F ?S ?C
  case F =>
    intro w mg fa h KX G hmg
    have T : ∃ t, My.Txt (L2.KOf KX) t := by
      dsimp only [L2.KOf]                          -- K must stand as «<heap const> w.params» for k_is
      refine' My.txt_mk ?e1 ?e2 ?e3 ..
      (case e1 => PySem.W.k_is)                    -- in the order: a name -> its address -> its object -> its parts
      (case e2 => PySem.W.k_is)
      ..
    obtain ⟨t, T⟩ := T
    have e0 := hmg.symm.trans (PySem.W.mg_of KX G T.law)
    cases e0                                       -- fa is the law's own address
    exact ⟨_, fun s u => .of_eq rfl, fun base kb nb => My.law_fn T kb nb⟩     -- if «.of_eq rfl» comes too early: refine' ⟨_, ?b, fun base kb nb => My.law_fn T kb nb⟩; exact fun s u => .of_eq rfl
  case S => exact fun w H a ns hl hO hS => ..
  case C => exact ..
(the tactic k_is has no namespace: write k_is) -/
namespace L2
open PySem PySem.Spec PyProof.Rows
def inClass (s : Stmt) (j : Nat) : Stmt := match s with
  | .ClassDef _ _ _ body _ _ _ _ _ _ _ => body.getD j (.Pass ⟨0, 0, 0, 0⟩)
  | _ => .Pass ⟨0, 0, 0, 0⟩
def defArgs (s : Stmt) : Arguments := match s with
  | .FunctionDef _ a _ _ _ _ _ _ _ _ => a
  | _ => { posonlyargs := [], args := [], vararg := none, kwonlyargs := [], kw_defaults := [], kwarg := none, defaults := [] }
def defBody (s : Stmt) : List Stmt := match s with
  | .FunctionDef _ _ b _ _ _ _ _ _ _ => b
  | _ => []
def defScope (s : Stmt) : Scope := match s with
  | .FunctionDef _ _ _ _ _ _ sc _ _ _ => sc
  | _ => { kind := .function, names := [], isGenerator := false, isCoroutine := false }
abbrev CX0 : CXT := fun _ _ _ _ _ _ => False
abbrev E0 : XK := fun _ _ _ => False
theorem pass0 {X : Cx} : Passes CX0 X E0 := fun _ _ _ _ _ _ _ h => h.elim
structure Fun (K : PySem.W.Frag) (x qual : Str) (st : Stmt) (f : Addr) (fd : FuncData) : Prop where
  ex : ∃ (oc : Value) (od : Option Addr) (kV doc pm : Value) (an : Option Addr) (cdv ct : Value) (osl : Array (Option Value)),
    fd = PySem.W.fnOf x qual (defArgs st) (defBody st) (defScope st) .none kV doc pm an cdv ct ∧ K.lookup f = some ⟨oc, od, .func fd, osl⟩ ∧ PySem.W.codeIn K cdv qual = true
  kp : PySem.W.keepIn K (.ref f) = true
section
variable {P : Program} {w : World} {K : PySem.W.Frag} {mg : Str → Option Value} {base : Heap}
theorem Fun.ok {x qual : Str} {st : Stmt} {f : Addr} {fd : FuncData} {N ps : List Str} {k : Nat} {sp : Sp} (F : Fun K x qual st f fd) (S : FnScope N ps (defScope st)) (len : ∀ vs H Q E, sp vs H Q E → vs.length = ps.length)
    (hbody : ∀ (cdv : Value) (A : Around) (outer : List Env) (s : Shared) (H : Hp) (vs : List V) (Q : VK) (E : XK), Room k (A.deeper (envOfC qual (defScope st) s.heap.objs.size f cdv)) → sp vs H Q E →
      ∃ t, PSs (cxOf CX0 P w K mg base N qual (defScope st) f cdv A outer s H E).nox (defBody st) t ∧ t { nx := fun _ H' => Q .non H', rt := Q } (start N vs) H) : FnOk P w K mg base CX0 (k + 1) f fd ps sp := by
  obtain ⟨oc, od, kV, doc, pm, an, cdv, ct, osl, rfl, lk, hcd⟩ := F.ex
  refine fn_of lk hcd S len fun A outer s H vs Q E hr hsp => ?_
  obtain ⟨t, h, q⟩ := hbody cdv A outer s H vs Q E hr hsp
  exact ⟨t, h.nox, q⟩
theorem Fun.binds {x qual : Str} {st : Stmt} {f : Addr} {fd : FuncData} {ps : List Str} (F : Fun K x qual st f fd)
    (h : ∀ (kV doc pm : Value) (an : Option Addr) (cdv ct : Value) (us : List Value), us.length = ps.length → bindArgs (PySem.W.fnOf x qual (defArgs st) (defBody st) (defScope st) .none kV doc pm an cdv ct) ⟨us, []⟩ = pure (ps.zip us)) : Binds K fd ps [] := by
  obtain ⟨oc, od, kV, doc, pm, an, cdv, ct, osl, rfl, lk, hcd⟩ := F.ex
  exact .all (h kV doc pm an cdv ct)
theorem fun_mk {x qual : Str} {st : Stmt} {f : Addr} {oc : Value} {od an : Option Addr} {osl : Array (Option Value)} {kV doc pm cdv ct : Value} (l : K.lookup f = some ⟨oc, od, .func (PySem.W.fnOf x qual (defArgs st) (defBody st) (defScope st) .none kV doc pm an cdv ct), osl⟩)
    (c : PySem.W.codeIn K cdv qual = true) (k : PySem.W.keepIn K (.ref f) = true) : Fun K x qual st f (PySem.W.fnOf x qual (defArgs st) (defBody st) (defScope st) .none kV doc pm an cdv ct) := ⟨⟨oc, od, kV, doc, pm, an, cdv, ct, osl, rfl, l, c⟩, k⟩
end
theorem small1000 {n : Nat} (h : n ≤ 1000) : n < sizeLine := Nat.lt_of_le_of_lt h (by decide)
section
variable {X : Cx}
theorem pv (i : Nat) {x : Str} {pos : Pos} (hN : X.N[i]? = some x := by rfl) (hv : Vis X.env.scope x := by first | exact Or.inl rfl | exact Or.inr (Or.inl rfl) | exact Or.inr (Or.inr rfl)) (hd : (x == ("__debug__" : Str)) = false := by decide)
    (hcd : (x == ("__classdict__" : Str)) = false := by decide) : PE X (.Name x pos) (tVar i) := pe_var hN hv hd hcd
end
theorem iteF {A B : Prop} (h : B) : if false = true then A else B := by
  rw [if_neg Bool.false_ne_true]
  exact h
theorem iteT {A B : Prop} (h : A) : if true = true then A else B := by
  rw [if_pos rfl]
  exact h
theorem ite2 {c A B : Prop} [Decidable c] (h1 : c → A) (h2 : ¬ c → B) : if c then A else B := by
  by_cases h : c
  · rw [if_pos h]
    exact h1 h
  · rw [if_neg h]
    exact h2 h
theorem iteNS {c A B : Prop} [Decidable c] (hc : c) (h : B) : if (!decide c) = true then A else B := by
  rw [decide_eq_true hc]
  exact iteF h
def Same (H H' : Hp) : Prop := ∀ b o, H b = some o → H' b = some o
theorem Same.refl (H : Hp) : Same H H := fun _ _ h => h
theorem Same.trans {H H1 H2 : Hp} (a : Same H H1) (b : Same H1 H2) : Same H H2 := fun c o h => b c o (a c o h)
theorem Same.free {H H' : Hp} (e : Same H H') {l : Addr} (h : H' l = Option.none) : H l = Option.none := by
  cases q : H l with
  | none => rfl
  | some o =>
    rw [e l o q] at h
    cases h
theorem Same.seq {K : PySem.W.Frag} {H H' : Hp} {a : Addr} {xs : List V} (e : Same H H') (h : SqL K H a xs) : SqL K H' a xs := by
  rcases h with (h | ⟨o, h⟩) | h
  · exact .inl (.inl (e _ _ h))
  · exact .inl (.inr ⟨o, e _ _ h⟩)
  · exact .inr h
end L2
namespace L2
open PySem PySem.Spec PyProof.Rows
def clGo (cells : List (Str × Addr)) : List (Str × NameKind) → List (Str × Addr) → List (Str × Addr)
  | [], cs => cs
  | (n, k) :: r, cs => clGo cells r (if k == .free then (match cells.lookup n with | some c => (n, c) :: cs | none => cs) else cs)
def clOf (sc : Scope) (cells : List (Str × Addr)) : List (Str × Addr) := clGo cells sc.names []
theorem closure_of {sc : Scope} {env : Env} (h : ∀ y ∈ sc.names, y.2 = .free → ∃ c, env.cells.lookup y.1 = some c) : closureFor sc env = pure (clOf sc env.cells) := by
  have go : ∀ (l : List (Str × NameKind)) (cs : List (Str × Addr)), (∀ y ∈ l, y.2 = .free → ∃ c, env.cells.lookup y.1 = some c) →
      (forIn l cs (fun (x : Str × NameKind) (r : List (Str × Addr)) => (match x with | (name, kind) => if kind == NameKind.free then (do let c ← cellOf env name; pure (ForInStep.yield ((name, c) :: r))) else pure (ForInStep.yield r) : Sem (ForInStep (List (Str × Addr)))))) = pure (clGo env.cells l cs) := by
    intro l
    induction l with
    | nil => intro cs _; rfl
    | cons y r ih =>
      intro cs h
      obtain ⟨n, k⟩ := y
      have hr : ∀ y ∈ r, y.2 = .free → ∃ c, env.cells.lookup y.1 = some c := fun y hy => h y (List.mem_cons_of_mem _ hy)
      rw [List.forIn_cons]
      by_cases hk : k = .free
      · subst hk
        obtain ⟨c, e⟩ := h (n, .free) List.mem_cons_self rfl
        have e' : env.cells.lookup n = some c := e
        simp only [beq_self_eq_true, if_true, cellOf, e', pure_bind, clGo]
        exact ih _ hr
      · have hb : (k == NameKind.free) = false := by simpa using hk
        simp only [hb, Bool.false_eq_true, if_false, pure_bind, clGo]
        exact ih _ hr
  unfold closureFor clOf
  refine Eq.trans (bind_pure _) ?_
  exact go sc.names [] h
theorem clGo_sub {cells : List (Str × Addr)} : ∀ (l : List (Str × NameKind)) (cs : List (Str × Addr)), (∀ x c, cs.lookup x = some c → cells.lookup x = some c) → ∀ x c, (clGo cells l cs).lookup x = some c → cells.lookup x = some c
  | [], _, h, x, c, e => h x c e
  | (n, k) :: r, cs, h, x, c, e => by
    refine clGo_sub r _ (fun y d z => ?_) x c e
    by_cases hk : (k == NameKind.free) = true
    · rw [if_pos hk] at z
      cases q : cells.lookup n with
      | none => rw [q] at z; exact h y d z
      | some a =>
        rw [q] at z
        have z' : List.lookup y ((n, a) :: cs) = some d := z
        rw [List.lookup_cons] at z'
        cases hy : y == n with
        | true =>
          rw [hy] at z'
          have ey : y = n := by simpa using hy
          rw [ey, q]
          exact z'
        | false =>
          rw [hy] at z'
          exact h y d z'
    · rw [if_neg hk] at z
      exact h y d z
theorem clGo_has {cells : List (Str × Addr)} : ∀ (l : List (Str × NameKind)) (cs : List (Str × Addr)) (x : Str), ((x, NameKind.free) ∈ l ∧ (∃ c, cells.lookup x = some c)) ∨ (∃ c, cs.lookup x = some c) → ∃ c, (clGo cells l cs).lookup x = some c
  | [], cs, x, h => by
    rcases h with ⟨h, _⟩ | h
    · cases h
    · exact h
  | (n, k) :: r, cs, x, h => by
    refine clGo_has r _ x ?_
    have put : (∃ c, cs.lookup x = some c) → ∃ c, (if (k == NameKind.free) = true then (match cells.lookup n with | some c => (n, c) :: cs | none => cs) else cs).lookup x = some c := fun ⟨c, e⟩ => by
      by_cases hk : (k == NameKind.free) = true
      · rw [if_pos hk]
        cases q : cells.lookup n with
        | none => exact ⟨c, e⟩
        | some a =>
          show ∃ c, List.lookup x ((n, a) :: cs) = some c
          rw [List.lookup_cons]
          cases hy : x == n with
          | true => exact ⟨a, rfl⟩
          | false => exact ⟨c, e⟩
      · rw [if_neg hk]; exact ⟨c, e⟩
    rcases h with ⟨h, c, e⟩ | h
    · rcases List.mem_cons.mp h with z | z
      · injection z with z1 z2
        subst z1; subst z2
        refine .inr ⟨c, ?_⟩
        show List.lookup x (match cells.lookup x with | some c => (x, c) :: cs | none => cs) = some c
        rw [e]
        show List.lookup x ((x, c) :: cs) = some c
        rw [List.lookup_cons, beq_self_eq_true]
      · exact .inl ⟨z, c, e⟩
    · exact .inr (put h)
theorem relabel_free {env : Env} : ∀ {l : List (Str × NameKind)} {x : Str}, (∀ y ∈ l, y.2 ≠ NameKind.cell) →
    ((l.map fun (n, k) => if (k == NameKind.free && env.scope.kind == .function && env.kindOf n == some .cell) then (n, NameKind.cell) else (n, k)).lookup x = some .cell ∨
     (l.map fun (n, k) => if (k == NameKind.free && env.scope.kind == .function && env.kindOf n == some .cell) then (n, NameKind.cell) else (n, k)).lookup x = some .free) → (x, NameKind.free) ∈ l
  | [], x, _, h => by rcases h with h | h <;> simp at h
  | (n, k) :: r, x, hc, h => by
    rw [List.map_cons] at h
    have nk : k ≠ NameKind.cell := hc (n, k) List.mem_cons_self
    by_cases hx : x = n
    · subst hx
      have kf : k = .free := by
        by_cases q : (k == NameKind.free && env.scope.kind == .function && env.kindOf x == some .cell) = true
        · rw [Bool.and_eq_true, Bool.and_eq_true] at q
          simpa using q.1.1
        · have e : (match (x, k) with | (n, k) => if (k == NameKind.free && env.scope.kind == .function && env.kindOf n == some .cell) = true then (n, NameKind.cell) else (n, k)) = (x, k) := if_neg q
          rw [e, List.lookup_cons, beq_self_eq_true] at h
          rcases h with h | h
          · exact absurd (Option.some.inj h) nk
          · exact Option.some.inj h
      subst kf
      exact List.mem_cons_self
    · refine List.mem_cons_of_mem _ (relabel_free (env := env) (fun y hy => hc y (List.mem_cons_of_mem _ hy)) ?_)
      have hb : (x == n) = false := by simpa using hx
      by_cases q : (k == NameKind.free && env.scope.kind == .function && env.kindOf n == some .cell) = true
      · have e : (match (n, k) with | (n, k) => if (k == NameKind.free && env.scope.kind == .function && env.kindOf n == some .cell) = true then (n, NameKind.cell) else (n, k)) = (n, NameKind.cell) := if_pos q
        rw [e, List.lookup_cons, hb] at h
        exact h
      · have e : (match (n, k) with | (n, k) => if (k == NameKind.free && env.scope.kind == .function && env.kindOf n == some .cell) = true then (n, NameKind.cell) else (n, k)) = (n, k) := if_neg q
        rw [e, List.lookup_cons, hb] at h
        exact h
def blk (X : Cx) (N' : List Str) (sc : Scope) (fp : List Addr) (s : Shared) (H : Hp) (C : Addr) : Cx where
  prog := X.prog
  w := X.w
  K := X.K
  mg := X.mg
  base := X.base
  A := X.A
  N := N'
  s₀ := s
  H₀ := H
  env := compEnvC sc (clOf sc X.env.cells) C X.env
  outer := X.stack
  stack := X.stack
  ex := fp
  fn := fun _ => false
  calm := X.calm
  pn := []
  xe := fun _ _ => False
inductive Caps (X : Cx) (sc : Scope) : List Str → List Nat → Prop where
  | nil : Caps X sc [] []
  | cons {x : Str} {j : Nat} {cap : List Str} {js : List Nat} (hj : X.N[j]? = some x) (hk : X.env.kindOf x = some .cell ∨ X.env.kindOf x = some .free)
      (hr : (relabel sc X.env).names.lookup x = some .cell ∨ (relabel sc X.env).names.lookup x = some .free) : Caps X sc cap js → Caps X sc (x :: cap) (j :: js)
structure BlkScope (X : Cx) (sc : Scope) : Prop where
  kind : sc.kind = .function
  cell : ∀ y ∈ sc.names, y.2 ≠ .cell
  names : ∀ y ∈ sc.names, y.2 = .local → sc.names.lookup y.1 = some .local
  free : ∀ y ∈ sc.names, y.2 = .free → X.env.kindOf y.1 = some .cell ∨ X.env.kindOf y.1 = some .free
def blkChk (sc : Scope) (nm : List (Str × NameKind)) : Bool := sc.names.all fun y => y.2 != .cell && (y.2 != .local || sc.names.lookup y.1 == some .local) && (y.2 != .free || (nm.lookup y.1 == some .cell || nm.lookup y.1 == some .free))
theorem BlkScope.chk {X : Cx} {sc : Scope} (hk : sc.kind = .function) (h : blkChk sc X.env.scope.names = true) : BlkScope X sc := by
  have a := List.all_eq_true.mp h
  refine ⟨hk, fun y hy e => ?_, fun y hy e => ?_, fun y hy e => ?_⟩
  · have q := a y hy
    rw [e] at q
    simp at q
  · have q := a y hy
    rw [e] at q
    simpa using q
  · have q := a y hy
    rw [e] at q
    have q' : X.env.scope.names.lookup y.1 = some .cell ∨ X.env.scope.names.lookup y.1 = some .free := by simpa using q
    exact q'
def blkSt (n : Nat) (js : List Nat) (σ : St) : St := List.replicate n none ++ js.map fun j => (σ[j]?).join
theorem Caps.len {X : Cx} {sc : Scope} : ∀ {cap : List Str} {js : List Nat}, Caps X sc cap js → cap.length = js.length
  | _, _, .nil => rfl
  | _, _, .cons _ _ _ c => by rw [List.length_cons, List.length_cons, c.len]
theorem Caps.get {X : Cx} {sc : Scope} : ∀ {cap : List Str} {js : List Nat}, Caps X sc cap js → ∀ {i : Nat} {x : Str}, cap[i]? = some x →
    ∃ j, js[i]? = some j ∧ X.N[j]? = some x ∧ (X.env.kindOf x = some .cell ∨ X.env.kindOf x = some .free) ∧ ((relabel sc X.env).names.lookup x = some .cell ∨ (relabel sc X.env).names.lookup x = some .free)
  | _, _, .nil, i, x, e => by simp at e
  | _, _, .cons hj hk hr c, 0, x, e => by
    rw [List.getElem?_cons_zero] at e
    cases e
    exact ⟨_, rfl, hj, hk, hr⟩
  | _, _, .cons hj hk hr c, i + 1, x, e => by
    rw [List.getElem?_cons_succ] at e
    obtain ⟨j, h1, h2⟩ := c.get e
    exact ⟨j, by rw [List.getElem?_cons_succ]; exact h1, h2⟩
theorem blkSt_len {X : Cx} {sc : Scope} {own cap : List Str} {js : List Nat} {σ : St} (C : Caps X sc cap js) : (blkSt own.length js σ).length = (own ++ cap).length := by
  unfold blkSt
  rw [List.length_append, List.length_replicate, List.length_map, List.length_append, C.len]
theorem blkSt_get {n : Nat} {js : List Nat} {σ : St} {i : Nat} {v : V} (e : (blkSt n js σ)[i]? = some (some v)) : n ≤ i ∧ ∃ j, js[i - n]? = some j ∧ σ[j]? = some (some v) := by
  unfold blkSt at e
  by_cases h : i < n
  · rw [List.getElem?_append_left (by simpa using h), List.getElem?_replicate, if_pos h] at e
    cases e
  · refine ⟨by omega, ?_⟩
    rw [List.getElem?_append_right (by rw [List.length_replicate]; omega), List.length_replicate, List.getElem?_map] at e
    cases q : js[i - n]? with
    | none => rw [q] at e; cases e
    | some j =>
      rw [q] at e
      have e' : (σ[j]?).join = some v := Option.some.inj e
      refine ⟨j, rfl, ?_⟩
      cases z : σ[j]? with
      | none => rw [z] at e'; cases e'
      | some o =>
        rw [z] at e'
        have e2 : o = some v := e'
        rw [e2]
theorem blkSt_weak {n : Nat} {js : List Nat} {σ σ2 : St} (hd : σ2.drop n = (blkSt n js σ).drop n) {i : Nat} {v : V} (e : (blkSt n js σ)[i]? = some (some v)) : σ2[i]? = some (some v) := by
  have h := (blkSt_get e).1
  have q : (σ2.drop n)[i - n]? = ((blkSt n js σ).drop n)[i - n]? := by rw [hd]
  rw [List.getElem?_drop, List.getElem?_drop, show n + (i - n) = i by omega] at q
  rw [q]; exact e
def PTs (X : Cx) (ifs : List Expr) (t : TT) : Prop :=
  ∀ (pins : List (Addr × Obj)) (s : Shared) (σ : St) (H : Hp) (Q : Bool → Hp → Prop), Inv X pins σ H s → t σ H Q →
    wpAny (model X.prog X.w) X.A (forIn ifs true fun c r => if r = true then do let ok ← isTrue c X.env (eval c X.env); pure (ForInStep.yield ok) else pure (ForInStep.yield r)) (TP X pins σ Q) X.xe s
def tTrue : TT := fun _ H Q => Q true H
theorem pts_nil {X : Cx} : PTs X [] tTrue := fun _ _ _ H _ I h => wpAny_tests_nil ⟨H, I, h⟩
theorem compLoop_any {prog : Program} {w : World} {A : Around} {R : Result → Shared → Prop} {s : Shared} {elt tg iter : Expr} {ifs : List Expr} {scope : Scope} {pos : Pos} {it acc : Value} {env : Env} (I : Nat → Shared → Prop)
    (turn : ∀ n s, I n s → wpAny (model prog w) A (pyNext it) (fun r s₁ => match r with
      | none => R (.ok .next) s₁
      | some v => wpAny (model prog w) A (letOwnedTupleGo tg it v) (fun _ s₀ => wpAny (model prog w) A (assign tg env v) (fun _ s₂ =>
          wpAny (model prog w) A (forIn ifs true fun c r => if r = true then do let ok ← isTrue c env (eval c env); pure (ForInStep.yield ok) else pure (ForInStep.yield r)) (fun ok s₃ =>
            if ok = true then wpAny (model prog w) A (eval elt env) (fun x s₄ =>
              wpAny (model prog w) A (call (.builtin "list.append") [acc, x]) (fun _ s₅ => ∃ m, m < n ∧ I m s₅) (notedBy (model prog w) A env fun e s' => R (.error e) s') s₄) (notedBy (model prog w) A env fun e s' => R (.error e) s') s₃
            else ∃ m, m < n ∧ I m s₃) (notedBy (model prog w) A env fun e s' => R (.error e) s') s₂) (notedBy (model prog w) A env fun e s' => R (.error e) s') s₀) (notedBy (model prog w) A env fun e s' => R (.error e) s') s₁)
        (notedBy (model prog w) A env fun e s' => R (.error e) s') s)
    (n : Nat) (h : I n s) :
    codeAny (model prog w) A (.compLoop (.ListComp elt [⟨tg, iter, ifs, 0⟩] scope pos) 0 it acc env) R s := by
  refine codeAny_loop rfl I (fun n s hI => ?_) n h
  show wpAny _ A ((compTurn (.ListComp elt [⟨tg, iter, ifs, 0⟩] scope pos) 0 it acc env).onRaise (fun x => do noteFrame x env; theTreesLotGoes x)) _ _ s
  refine wpAny_noted ?_
  rw [compTurn_list]
  refine wpAny_bind (wpAny_standAt (wpAny_bind (wpAny_mono (turn n s hI) (fun r s₁ h₁ => ?_) fun _ _ h' => h')))
  cases r with
  | none => exact wpAny_pure h₁
  | some v =>
    refine wpAny_bind (wpAny_mono h₁ (fun _ s₀ h₀ => ?_) fun _ _ h' => h')
    refine wpAny_bind (wpAny_mono h₀ (fun _ s₂ h₂ => wpAny_bind (wpAny_mono h₂ (fun ok s₃ h₃ => ?_) fun _ _ h' => h')) fun _ _ h' => h')
    cases ok with
    | false => exact wpAny_pure ⟨rfl, h₃⟩
    | true =>
      exact wpAny_bind (wpAny_bind (wpAny_mono h₃ (fun x s₄ h₄ => wpAny_bind (wpAny_mono h₄ (fun _ s₅ h₅ => wpAny_pure (wpAny_pure ⟨rfl, h₅⟩)) fun _ _ h' => h')) fun _ _ h' => h'))
def CompW (J : It) (H1 : Hp) (g : TG) (tt : TT) (te : TE) (n : Nat) (js : List Nat) (σ : St) (Q : VK) : Prop := ∃ W : Nat → Nat → List V → Hp → Prop, (∃ m, W 0 m [] H1) ∧ ∀ i m ys H, W i m ys H →
  (J.stop i H ∧ ys.length ≤ sizeLine ∧ ∀ p, H p = none → Q (.ref p) (upd H p (.lst ys))) ∨
  (J.go i H ∧ ys.length ≤ sizeLine ∧ ∃ N : List V → Hp → Prop, (∀ ys' H', N ys' H' → ∃ m', m' < m ∧ W (i + 1) m' ys' H') ∧ ∀ x H', J.yld i H x H' → g x (blkSt n js σ) H' fun σ2 H2 => σ2.drop n = (blkSt n js σ).drop n ∧ tt σ2 H2 fun b H3 =>
    if b = true then te σ2 H3 fun y H4 => N (ys ++ [y]) H4 else N ys H3)
def tComp (wi : TI) (g : TG) (tt : TT) (te : TE) (n : Nat) (js : List Nat) : TE := fun σ H Q => wi σ H fun J H1 => CompW J H1 g tt te n js σ Q
section
variable {X : Cx}
theorem Vals.snoc {xs : List V} {us : List Value} {x : V} {u : Value} (r : Vals xs us) (q : RelV x u) : Vals (xs ++ [x]) (us ++ [u]) := r.append (.cons q .nil)
theorem blk_start {pins : List (Addr × Obj)} {σ : St} {H : Hp} {s s3 : Shared} {sc : Scope} {own cap : List Str} {js : List Nat} {fp : List Addr} {C : Addr} {tn : Nat → Heap → Prop} {h₁ : Heap} {tk : Nat} {m : Str → Option Value} (I : Inv X pins σ H s) (S : BlkScope X sc) (cp : Caps X sc cap js)
    (hob : ∀ b ∈ fp, ∃ o, s.heap.get? b = some o ∧ ∀ v, o.data ≠ .cell v) (hf : ∀ b ∈ fp, FpOk X pins H b) (hC : s.heap.objs.size ≤ C) (hn : h₁.Ns C m) (old : ∀ b o, s.heap.get? b = some o → h₁.get? b = some o) :
    Inv (blk X (own ++ cap) sc fp s H C) [] (blkSt own.length js σ) H { s with heap := h₁, toks := tk } := by
  have sub : ∀ x c, (clOf sc X.env.cells).lookup x = some c → X.env.cells.lookup x = some c := clGo_sub sc.names [] (fun x c e => by simp at e)
  have has : ∀ x, ((relabel sc X.env).names.lookup x = some .cell ∨ (relabel sc X.env).names.lookup x = some .free) → ∃ c, (clOf sc X.env.cells).lookup x = some c := fun x hx => by
    have hm := relabel_free (env := X.env) (l := sc.names) (x := x) S.cell hx
    exact clGo_has sc.names [] x (.inl ⟨hm, I.ok.has x (S.free _ hm rfl)⟩)
  refine ⟨⟨I.ok.mod, S.kind, I.ok.glob, I.ok.blt, hC, fun x y c e1 e2 => I.ok.inj x y c (sub x c e1) (sub y c e2), has, (fun x c e => by cases e), I.ok.hd, I.ok.frames, .inl rfl, fun b hb => ?_, I.bs, Nat.le_trans I.ok.bsz I.sz, fun b o e hb => ?_, fun b hb z => ?_, I.stack, I.stkFree⟩,
    rfl, I.bare, Un.kept old, ⟨m, hn, fun i x v h1 h2 h3 => ?_⟩, fun x c e => ?_, I.hok.fresh hC, fun x c e => I.freeC x c (sub x c e), fun p hp => absurd (show p ∈ ([] : List (Addr × Obj)) from hp) (by simp), I.hok.kept old, blkSt_len cp⟩
  · obtain ⟨o, e, _⟩ := hob b hb
    refine ⟨Nat.ne_of_lt (Nat.lt_of_lt_of_le (Heap.lt_size e) hC), fun x c e => ?_⟩
    exact (hf b hb).2.2.2.2.1 x c (sub x c e)
  · obtain ⟨_, _, _, h4, _, _⟩ := hf b hb
    rcases h4 with z | z
    · exact I.ok.noex b o e z
    · exact absurd (Nat.lt_of_lt_of_le (Heap.lt_size e) (Nat.le_trans I.ok.bsz z)) (Nat.lt_irrefl _)
  · obtain ⟨_, h2, h3, _⟩ := hf b hb
    rcases List.mem_cons.mp (I.stkSub b z) with q | q
    · exact h2 q
    · exact h3 q
  · obtain ⟨hni, j, hj, hv⟩ := blkSt_get h2
    have h1' : (own ++ cap)[i]? = some x := h1
    rw [List.getElem?_append_right hni] at h1'
    obtain ⟨j', e1, e2, e3, e4⟩ := cp.get h1'
    rw [hj] at e1
    cases e1
    obtain ⟨m0, hn0, hl0⟩ := I.loc
    have vis : Vis X.env.scope x := .inr e3
    obtain ⟨u, ru, lk⟩ := hl0 j x v e2 hv vis
    refine ⟨u, ru, ?_⟩
    rcases lk with ⟨k, _⟩ | ⟨k, c, ec, hc⟩
    · exfalso
      rcases e3 with q | q
      · rw [q] at k; cases k
      · rw [q] at k; cases k
    · obtain ⟨c', ec'⟩ := has x e4
      have q := sub x c' ec'
      rw [ec] at q
      cases q
      exact .inr ⟨e4, c, ec', hc.keeps old⟩
  · obtain ⟨v, z⟩ := I.cell x c (sub x c e)
    exact ⟨v, z.keeps old⟩
theorem blk_end {pins pn : List (Addr × Obj)} {σ σ' : St} {H H' : Hp} {s s' : Shared} {sc : Scope} {N' : List Str} {fp : List Addr} {C D : Addr} {h' : Heap} {ys : List V} {its : List Value} {nn : Nat} (I : Inv X pins σ H s) (J : Inv (blk X N' sc fp s H C) pn σ' H' s')
    (hf : ∀ b ∈ fp, FpOk X pins H b) (hC : s.heap.objs.size ≤ C) (hD : s.heap.objs.size ≤ D) (hDC : D ≠ C) (hn : H' D = none) (ho : s'.heap.get? D = some { cls := .type "list", data := .seq its.toArray nn }) (hz : ys.length ≤ sizeLine) (rv : Vals ys its)
    (hs : Heap.SameBut C s'.heap h') : Inv X pins σ (upd H' D (.lst ys)) { s' with heap := h' } := by
  have u : Un (frs X.stack) fp H H' s.heap s'.heap := J.base
  have low : ∀ b o, s.heap.get? b = some o → b ≠ C ∧ b ≠ D := fun b o e => ⟨Nat.ne_of_lt (Nat.lt_of_lt_of_le (Heap.lt_size e) hC), Nat.ne_of_lt (Nat.lt_of_lt_of_le (Heap.lt_size e) hD)⟩
  have kp : ∀ b o, b ≠ C → s'.heap.get? b = some o → h'.get? b = some o := fun b o hb e => (hs.2 b hb).trans e
  have u2 : Un (frs X.stack) fp H (upd H' D (.lst ys)) s.heap h' := by
    refine ⟨fun b o e n hb hx => kp b o (low b o e).1 (u.keep b o e n hb hx), fun b o e n hb hx => ?_, fun b o e n hx => ?_, fun b o e hx => ?_, fun b xs e => ?_, fun b o xs e => ?_, fun b ps e => ?_⟩
    · obtain ⟨sl, q⟩ := u.slot b o e n hb hx
      exact ⟨sl, kp b _ (low b o e).1 q⟩
    · rw [upd_ne (low b o e).2]; exact u.free b o e n hx
    · obtain ⟨o', q⟩ := u.there b o e hx
      exact ⟨o', kp b _ (low b o e).1 q⟩
    · have q := u.tups b xs e
      rw [upd_ne (ne_of_none q hn)]; exact q
    · have q := u.frzs b o xs e
      rw [upd_ne (ne_of_none q hn)]; exact q
    · obtain ⟨more, q⟩ := u.tbls b ps e
      exact ⟨more, by rw [upd_ne (ne_of_none q hn)]; exact q⟩
  have nC : H' C = none := J.free
  have hok : HOk X.prog X.w (upd H' D (.lst ys)) h' := fun b o e => by
    by_cases hb : b = D
    · subst hb
      rw [upd_same] at e
      cases e
      exact ⟨hz, its, nn, rv, kp b _ hDC ho⟩
    · rw [upd_ne hb] at e
      refine (J.hok b o e).stay (fun c v hc q => kp c v ?_ q) (fun c q => ?_) fun c xs q => ?_
      · rintro rfl
        rcases hc with z | z
        · rw [← z, nC] at e; cases e
        · rw [nC] at z; cases z
      · rw [upd_ne (ne_of_none q hn)]; exact q
      · rw [upd_ne (ne_of_none q hn)]; exact q
  have os := J.os
  have bare := J.bare
  obtain ⟨hh, g, d, t, os'⟩ := s'
  obtain rfl : os' = s.os := os
  have z := I.call (h' := h') (g' := g) (d' := d) (t' := t) (ch := fp) u2 hok bare fun b hb => ⟨(hf b hb).2.2.2.1, (hf b hb).2.1, (hf b hb).2.2.2.2.1, (hf b hb).2.2.2.2.2⟩
  exact z
theorem blk_run {elt iter tg : Expr} {ifs : List Expr} {sc : Scope} {pos : Pos} {own cap : List Str} {js : List Nat} {g : TG} {tt : TT} {te : TE} {Qf : List V → Hp → Prop} {RR : Value → Addr → Result → Shared → Prop} {E : Value → Shared → Prop}
    {pins : List (Addr × Obj)} {σ : St} {H2 : Hp} {s2 : Shared} {it : Addr} {fp : List Addr} {tn : Nat → Heap → Prop} {J : It} {W : Nat → Nat → List V → Hp → Prop} {m0 : Nat}
    (hc : X.calm = true) (S : BlkScope X sc) (cp : Caps X sc cap js)
    (hg : ∀ fp s H C, PG (blk X (own ++ cap) sc fp s H C) tg g) (ht : ∀ fp s H C, PTs (blk X (own ++ cap) sc fp s H C) ifs tt) (he : ∀ fp s H C, PE (blk X (own ++ cap) sc fp s H C) elt te)
    (I2 : Inv X pins σ H2 s2) (T : Turn X.prog X.w X.K tg J fp it tn) (st2 : tn 0 s2.heap) (f2 : ∀ b ∈ fp, FpOk X pins H2 b) (w0 : W 0 m0 [] H2)
    (turn : ∀ i m ys H, W i m ys H → (J.stop i H ∧ ys.length ≤ sizeLine ∧ Qf ys H) ∨
      (J.go i H ∧ ys.length ≤ sizeLine ∧ ∃ N : List V → Hp → Prop, (∀ ys' H', N ys' H' → ∃ m', m' < m ∧ W (i + 1) m' ys' H') ∧ ∀ x H', J.yld i H x H' → g x (blkSt own.length js σ) H' fun σ2 H2 => σ2.drop own.length = (blkSt own.length js σ).drop own.length ∧ tt σ2 H2 fun b H3 =>
        if b = true then te σ2 H3 fun y H4 => N (ys ++ [y]) H4 else N ys H3))
    (hRR : ∀ D C H4 s4 pn ys its nn, s2.heap.objs.size ≤ D → s2.heap.objs.size ≤ C → D ≠ C → Inv (blk X (own ++ cap) sc fp s2 H2 C) pn (blkSt own.length js σ) H4 s4 → H4 D = none → s4.heap.get? D = some { cls := .type "list", data := .seq its.toArray nn } →
      ys.length ≤ sizeLine → Vals ys its → Qf ys H4 → RR (.ref D) C (.ok .next) s4) :
    wpAny (model X.prog X.w) X.A (newList []) (fun acc s₃ => wpAny (model X.prog X.w) X.A (newFunctionEnv sc X.env.globals (clOf sc X.env.cells) [] X.env.qual none .none (some X.env)) (fun cenv s₄ =>
      codeAny (model X.prog X.w) X.A (.compStart (.ListComp elt [⟨tg, iter, ifs, 0⟩] sc pos) 0 (.ref it) acc { cenv with scope := relabel sc X.env }) (RR acc cenv.locals) s₄) E s₃) E s2 := by
  refine wpAny_newObj_type (wpAny_newFunctionEnv S.cell (by intro y hy; simp at hy) (fun h₁ hns₁ hsb₁ => ?_) S.kind)
  dsimp only at hns₁ hsb₁ ⊢
  generalize hH2 : s2.heap.push { cls := .type "list", dict := none, data := .seq ([] : List Value).toArray } = HH at hns₁ hsb₁ ⊢
  generalize hDd : s2.heap.objs.size = D at hns₁ hsb₁ ⊢
  generalize hCc : HH.objs.size = C at hns₁ hsb₁ ⊢
  have hC : C = D + 1 := by rw [← hCc, ← hH2, Heap.size_push, hDd]
  have hDC : D ≠ C := by rw [hC]; exact Nat.ne_of_lt (Nat.lt_succ_self _)
  have hCle : s2.heap.objs.size ≤ C := by rw [hDd, hC]; exact Nat.le_succ _
  have hDle : s2.heap.objs.size ≤ D := Nat.le_of_eq hDd
  have below : ∀ b, b < s2.heap.objs.size → b ≠ C ∧ b ≠ D := fun b hb => ⟨Nat.ne_of_lt (Nat.lt_of_lt_of_le hb hCle), Nat.ne_of_lt (Nat.lt_of_lt_of_le hb hDle)⟩
  have old : ∀ b o, s2.heap.get? b = some o → h₁.get? b = some o := fun b o e => hsb₁.extBut b o (below b (Heap.lt_size e)).1 (Heap.get?_push_of_some _ (hH2 ▸ Heap.get?_push_of_some _ e))
  have q0 : HH.get? D = some { cls := .type "list", data := .seq ([] : List Value).toArray 0 } := by
    rw [← hH2, ← hDd]
    exact Heap.get?_push_size _ rfl
  have hacc : h₁.get? D = some { cls := .type "list", data := .seq ([] : List Value).toArray 0 } := hsb₁.extBut _ _ hDC (Heap.get?_push_of_some _ q0)
  have fpo := T.obj 0 _ st2
  have fplt : ∀ b ∈ fp, b < s2.heap.objs.size := fun b hb => by obtain ⟨o, e, _⟩ := fpo b hb; exact Heap.lt_size e
  have st3 : tn 0 h₁ := T.keep 0 _ _ st2 fun b hb o e => old b o e
  have I3 : ∀ tk, Inv (blk X (own ++ cap) sc fp s2 H2 C) [] (blkSt own.length js σ) H2 { s2 with heap := h₁, toks := tk } := fun tk => blk_start (s3 := s2) (tn := tn) I2 S cp fpo f2 hCle hns₁ old
  have stkD : ∀ b, s2.heap.objs.size ≤ b → b ∉ frs X.stack := fun b hb hm => by
    obtain ⟨_, o, e, _⟩ := I2.stack.mem hm
    exact absurd (Nat.lt_of_lt_of_le (Heap.lt_size e) hb) (Nat.lt_irrefl _)
  have nD : H2 D = none := I2.hok.fresh hDle
  have stat : ∀ {pn : List (Addr × Obj)} {H' : Hp}, (∀ p ∈ pn, p.1 = D) → (∀ b ∈ fp, H' b = none) → ∀ b ∈ fp, FpOk (blk X (own ++ cap) sc fp s2 H2 C) pn H' b := fun {pn H'} hp hn b hb => by
    refine ⟨hn b hb, (below b (fplt b hb)).1, fun z => ?_, .inl hb, fun x c e => ?_, fun p hp' z => ?_⟩
    · obtain ⟨_, h2, h3, _⟩ := f2 b hb
      rcases List.mem_cons.mp (I2.stkSub b z) with q | q
      · exact h2 q
      · exact h3 q
    · exact (f2 b hb).2.2.2.2.1 x c (clGo_sub sc.names [] (fun x c e => by simp at e) x c e)
    · have e := hp p (by simpa [blk] using hp')
      rw [e] at z
      exact (below b (fplt b hb)).2 z.symm
  have pinD : ∀ {H' : Hp} {s' : Shared} {o : Obj}, Inv (blk X (own ++ cap) sc fp s2 H2 C) [] (blkSt own.length js σ) H' s' → H' D = none → s'.heap.get? D = some o → (∀ v, o.data ≠ .cell v) → Inv (blk X (own ++ cap) sc fp s2 H2 C) [(D, o)] (blkSt own.length js σ) H' s' := fun {H' s' o} I' n e d =>
    I'.pins_of fun p hp => by
      have q : p = (D, o) := by simpa using hp
      subst q
      exact ⟨e, n, hDC, stkD D hDle, d⟩
  have loop : ∀ s₃ : Shared, s₃ = { s2 with heap := h₁, toks := s2.toks + ([] : List (Str × Value)).length } →
      codeAny (model X.prog X.w) X.A (.compLoop (.ListComp elt [⟨tg, iter, ifs, 0⟩] sc pos) 0 (.ref it) (.ref D) (compEnvC sc (clOf sc X.env.cells) C X.env)) (RR (.ref D) C) s₃ := by
    rintro s₃ rfl
    refine compLoop_any (fun k s' => ∃ i ys its nn H', Inv (blk X (own ++ cap) sc fp s2 H2 C) [] (blkSt own.length js σ) H' s' ∧ tn i s'.heap ∧ (∀ b ∈ fp, H' b = none) ∧ H' D = none ∧
      s'.heap.get? D = some { cls := .type "list", data := .seq its.toArray nn } ∧ Vals ys its ∧ W i k ys H') ?_ m0 ⟨0, [], [], 0, H2, I3 _, st3, fun b hb => (f2 b hb).1, nD, hacc, .nil, w0⟩
    rintro k s3 ⟨i, ys, its, nn, H3, I3, st3, fr3, d3, o3, rv3, w3⟩
    have I3' := pinD I3 d3 o3 (fun v z => by cases z)
    have only : ∀ p ∈ [(D, ({ cls := .type "list", data := .seq its.toArray nn } : Obj))], p.1 = D := fun p hp => by
      rw [List.mem_singleton.mp hp]
    rcases turn i k ys H3 w3 with ⟨stop, hz, qn⟩ | ⟨go, hz, N, hN, step⟩
    · refine wpAny_mono (T.done (blk X (own ++ cap) sc fp s2 H2 C) rfl rfl rfl hc i _ s3 _ H3 (fun _ _ => False) I3' (stat only fr3) st3 stop) (fun r s4 ⟨hr, I4⟩ => ?_) fun _ _ z => z.elim
      subst hr
      have o4 := (I4.pin (D, _) (List.mem_append_right _ (List.mem_singleton.mpr rfl))).1
      exact hRR D C H3 s4 _ ys its nn hDle hCle hDC I4 d3 o4 hz rv3 qn
    · refine wpAny_mono (T.item (blk X (own ++ cap) sc fp s2 H2 C) rfl rfl rfl hc i _ s3 _ H3 (fun _ _ => False) I3' (stat only fr3) st3 go) (fun r s4 ⟨u, hr, h4⟩ => ?_) fun _ _ z => z.elim
      subst hr
      refine wpAny_mono h4 (fun _ s5 ⟨x, H5, I5, r5, y5, st5, fr5⟩ => ?_) fun _ _ z => z.elim
      have I5' := I5.pinned (stat only fr5) (T.obj _ _ st5)
      refine wpAny_mono (hg fp s2 H2 C _ s5 _ H5 x u _ I5' r5 (step x H5 y5)) (fun _ s6 ⟨σ6, H6, I6, d6, q6⟩ => ?_) fun _ _ z => z.elim
      refine wpAny_mono (ht fp s2 H2 C _ s6 σ6 H6 _ I6 q6) (fun ok s7 ⟨H7, I7, q7⟩ => ?_) fun _ _ z => z.elim
      have memD : ∀ {o : Obj}, (D, o) ∈ (blk X (own ++ cap) sc fp s2 H2 C).pn ++ ([(D, o)] ++ pinsAt fp s5.heap) := List.mem_append_right _ (List.mem_append_left _ (List.mem_singleton.mpr rfl))
      have memF : ∀ {b : Addr} {o o' : Obj}, b ∈ fp → s5.heap.get? b = some o → (b, o) ∈ (blk X (own ++ cap) sc fp s2 H2 C).pn ++ ([(D, o')] ++ pinsAt fp s5.heap) := fun hb e => List.mem_append_right _ (List.mem_append_right _ (mem_pinsAt hb e))
      have σlen : (blkSt own.length js σ).length = σ6.length := by
        have a := I6.len
        have b := I5.len
        exact b.trans a.symm
      cases ok with
      | false =>
        have q7' : N ys H7 := q7
        obtain ⟨m', hm, w7⟩ := hN _ _ q7'
        refine ⟨m', hm, i + 1, ys, its, nn, H7, (I7.pins_of fun p hp => absurd hp (by simp)).weak σlen (fun j v e => blkSt_weak d6 e), T.keep _ _ _ st5 fun b hb o e => (I7.pin (b, o) (memF hb e)).1, fun b hb => ?_, (I7.pin (D, _) memD).2.1, (I7.pin (D, _) memD).1, rv3, w7⟩
        obtain ⟨o, e, _⟩ := T.obj _ _ st5 b hb
        exact (I7.pin (b, o) (memF hb e)).2.1
      | true =>
        have q7' : te σ6 H7 fun y H4 => N (ys ++ [y]) H4 := q7
        refine wpAny_mono (he fp s2 H2 C _ s7 σ6 H7 _ I7 q7') (fun yv s8 ⟨y, H8, I8, r8, n8'⟩ => ?_) fun _ _ z => z.elim
        obtain ⟨m', hm, w8⟩ := hN _ _ n8'
        have o8 := (I8.pin (D, _) memD).1
        have n8 := (I8.pin (D, _) memD).2.1
        refine append_at (hsz := by rw [List.size_toArray, ← rv3.length]; exact hz) o8 fun h9 hs9 hD9 => ?_
        have I8' := (I8.pins_of (pins' := []) fun p hp => absurd hp (by simp)).weak σlen (fun j v e => blkSt_weak d6 e)
        have I9 := I8'.turned (h' := h9) (t' := s8.toks) (it := D) (fun b o hb e => (hs9.2 b hb).trans e) n8 hDC (.inr hDle) (fun x c e z => by
          obtain ⟨v, q⟩ := I2.cell x c (clGo_sub sc.names [] (fun x c e => by simp at e) x c e)
          exact absurd (Nat.lt_of_lt_of_le q.lt (by rw [z]; exact hDle)) (Nat.lt_irrefl _)) (fun p hp => absurd (show p ∈ ([] : List (Addr × Obj)) from hp) (by simp))
        refine ⟨m', hm, i + 1, ys ++ [y], its ++ [yv], nn + 1, H8, I9, T.keep _ _ _ st5 fun b hb o e => (hs9.2 b (below b (fplt b hb)).2).trans (I8.pin (b, o) (memF hb e)).1, fun b hb => ?_, n8, ?_, rv3.snoc r8, w8⟩
        · obtain ⟨o, e, _⟩ := T.obj _ _ st5 b hb
          exact (I8.pin (b, o) (memF hb e)).2.1
        · rw [hD9, List.push_toArray]
  exact codeAny_compStart_list (loop _ rfl) (T.self X.A 0 _ _ _ st3 (loop _ rfl))
theorem pe_comp {elt iter tg : Expr} {ifs : List Expr} {sc : Scope} {pos : Pos} {own cap : List Str} {js : List Nat} {wi : TI} {g : TG} {tt : TT} {te : TE} (hc : X.calm = true) (S : BlkScope X sc) (cp : Caps X sc cap js) (hi : PI X tg iter wi)
    (hg : ∀ fp s H C, PG (blk X (own ++ cap) sc fp s H C) tg g) (ht : ∀ fp s H C, PTs (blk X (own ++ cap) sc fp s H C) ifs tt) (he : ∀ fp s H C, PE (blk X (own ++ cap) sc fp s H C) elt te)
    (hs : ∀ x, foldedSetIterable iter X.env x = pure x := by intro _; rfl) : PE X (.ListComp elt [⟨tg, iter, ifs, 0⟩] sc pos) (tComp wi g tt te own.length js) := by
  intro pins s σ H Q I h
  rw [eval_ListComp]
  refine wpAny_comprehension_free (use := none) rfl hs (closure_of fun y hy hf => I.ok.has y.1 (S.free y hy hf)) S.kind S.names (thn (hi pins s σ H _ I h) fun v s1 h1 => thn h1 fun itv s2 h2 => ?_)
  obtain ⟨it, fp, tn, J, H2, e, I2, T, st2, f2, W, ⟨m0, w0⟩, turn⟩ := h2
  subst e
  refine blk_run (RR := fun acc C => compPost (model X.prog X.w) X.A X.xe none (EP X pins σ Q) acc C) (Qf := fun ys H => ∀ p, H p = none → Q (.ref p) (upd H p (.lst ys))) hc S cp hg ht he I2 T st2 f2 w0 turn ?_
  intro D C H4 s4 pn ys its nn hD hC hDC I4 n4 o4 hz rv q
  obtain ⟨m, hn, _⟩ := I4.loc
  exact ⟨m, hn, fun h' hs' => ⟨.ref D, upd H4 D (.lst ys), blk_end I2 I4 f2 hC hD hDC n4 o4 hz rv hs', rfl, q D n4⟩⟩
end
def Its (x : Str) : It := ⟨fun i _ => i < x.cps.size, fun i H v H' => H' = H ∧ ∃ c, x.cps[i]? = some c ∧ v = .str ⟨#[c]⟩, fun i _ => i = x.cps.size⟩
section
variable {X : Cx} {tg : Expr}
def iStr (tl : TE) : TI := fun σ H R => tl σ H fun v H1 => ∃ x, v = .str x ∧ R (Its x) H1
theorem turn_str_of {P : Program} {w : World} {K : PySem.W.Frag} {tg : Expr} {ty : String} (x : Str) (t : Tok) (it : Addr) (hty : ["enumerate", "zip", "dict_itemiterator", "dict_reverseitemiterator", "odict_iterator", "itertools.zip_longest", "itertools.pairwise"].contains ty = false)
    (W : ∀ A : Around, A.handled = none → Walks P w A it [it] [it] x.cps.size (SignAt x) (fun i h => h.IsStrIter it ty x t i))
    (hself : ∀ (A : Around) (i : Nat) (s : Shared) (Q : Value → Shared → Prop) (E : Value → Shared → Prop), s.heap.IsStrIter it ty x t i → Q (.ref it) s → wpAny (model P w) A (pyIter (.ref it)) Q E s) :
    Turn P w K tg (Its x) [it] it (fun i h => h.IsStrIter it ty x t i) where
  mem := by simp
  obj := fun i h st b hb => by
    have e : b = it := by simpa using hb
    subst e
    obtain ⟨o, e, c, d⟩ := st
    exact ⟨o, e, fun v z => by rw [d] at z; cases z⟩
  keep := fun i h h' st k => by
    obtain ⟨o, e, r⟩ := st
    exact ⟨o, k it (by simp) o e, r⟩
  item := by
    intro X hP hw hK hc i pins s σ H E I hf st hg
    subst hP hw hK
    obtain ⟨f0, f1, f2, f3, f4, f5⟩ := hf it (by simp)
    refine (W X.A (I.ok.hd hc)).item i s _ _ hg st fun v h' tk hv st' kk => ?_
    obtain ⟨c, u, hcx, rfl⟩ := hv
    have I1 : Inv X pins σ H { s with heap := h', toks := tk } := I.turned (fun b o hb e => kk b o (by simpa using hb) e) f0 f1 f3 f4 f5
    obtain ⟨o, e, c', d⟩ := id st'
    exact ⟨_, rfl, go_of (s := { s with heap := h', toks := tk }) e c' d hty ⟨.str ⟨#[c]⟩, H, I1, ⟨u, rfl⟩, ⟨rfl, c, hcx, rfl⟩, st', fun b hb => (hf b hb).1⟩⟩
  done := by
    intro X hP hw hK hc i pins s σ H E I hf st hg
    subst hP hw hK
    obtain ⟨f0, f1, f2, f3, f4, f5⟩ := hf it (by simp)
    have le : i = x.cps.size := hg
    subst le
    exact (W X.A (I.ok.hd hc)).done s _ _ st fun h' tk kk => ⟨rfl, I.turned (fun b o hb e => kk b o (by simpa using hb) e) f0 f1 f3 f4 f5⟩
  self := hself
theorem pi_str {l : Expr} {tl : TE} (hl : PE X l tl) : PI X tg l (iStr tl) := by
  intro pins s σ H R I h
  refine thn (hl pins s σ H _ I h) fun v s1 ⟨y, H1, I1, r1, q1⟩ => ?_
  obtain ⟨x, e, q⟩ := q1
  subst e
  obtain ⟨t, rfl⟩ := r1
  have fp : ∀ b ∈ [s1.heap.objs.size], FpOk X pins H1 b := fun b hb => by
    have e : b = s1.heap.objs.size := by simpa using hb
    subst e
    exact I1.fpOk (Nat.le_refl _) (I1.hok.fresh (Nat.le_refl _))
  cases ha : x.cps.all (· < 128)
  · refine wpAny_pyIter_wide ha ?_
    exact ⟨s1.heap.objs.size, [s1.heap.objs.size], _, Its x, H1, rfl, I1.kept (t' := s1.toks) fun b o e => Heap.get?_push_of_some _ e, turn_str_of x t _ (by decide) (fun A hA => Walks.strWide hA _ x t) (fun A i s Q E st h => wpAny_pyIter_striter_wide st h), ⟨_, Heap.get?_push_size _ rfl, rfl, rfl⟩, fp, q⟩
  · refine wpAny_pyIter_ascii ha ?_
    exact ⟨s1.heap.objs.size, [s1.heap.objs.size], _, Its x, H1, rfl, I1.kept (t' := s1.toks) fun b o e => Heap.get?_push_of_some _ e, turn_str_of x t _ (by decide) (fun A hA => Walks.strAscii hA _ x t) (fun A i s Q E st h => wpAny_pyIter_striter_ascii st h), ⟨_, Heap.get?_push_size _ rfl, rfl, rfl⟩, fp, q⟩
end
theorem comp_of {J : It} {len : Nat} {x : Nat → V} {H1 : Hp} {g : TG} {tt : TT} {te : TE} {n : Nat} {js : List Nat} {σ : St} {Q : VK} (Pv : Nat → List V → Hp → Prop) (hgo : ∀ i ys H, Pv i ys H → i < len → J.go i H) (hst : ∀ ys H, Pv len ys H → J.stop len H)
    (hy : ∀ i ys H v H', Pv i ys H → i < len → J.yld i H v H' → H' = H ∧ v = x i) (h0 : Pv 0 [] H1) (hz : ∀ i ys H, Pv i ys H → ys.length ≤ sizeLine)
    (hs : ∀ i ys H, i < len → Pv i ys H → g (x i) (blkSt n js σ) H fun σ2 H2 => σ2.drop n = (blkSt n js σ).drop n ∧ tt σ2 H2 fun b H3 => if b = true then te σ2 H3 fun y H4 => Pv (i + 1) (ys ++ [y]) H4 else Pv (i + 1) ys H3)
    (hd : ∀ ys H, Pv len ys H → ∀ p, H p = none → Q (.ref p) (upd H p (.lst ys))) : CompW J H1 g tt te n js σ Q := by
  refine ⟨fun i m ys H => m = len - i ∧ i ≤ len ∧ Pv i ys H, ⟨len, by simp, Nat.zero_le _, h0⟩, ?_⟩
  rintro i m ys H ⟨rfl, hi, p⟩
  by_cases hlt : i < len
  · refine .inr ⟨hgo i ys H p hlt, hz i ys H p, Pv (i + 1), fun ys' H' p' => ⟨len - (i + 1), by omega, rfl, hlt, p'⟩, fun v H' y => ?_⟩
    obtain ⟨e, ev⟩ := hy i ys H v H' p hlt y
    subst e ev
    exact hs i ys _ hlt p
  · have e : i = len := by omega
    subst e
    exact .inl ⟨hst ys H p, hz _ ys H p, hd ys H p⟩
theorem comp_str {t : Str} {H1 : Hp} {g : TG} {tt : TT} {te : TE} {n : Nat} {js : List Nat} {σ : St} {Q : VK} (Pv : Nat → List V → Hp → Prop) (h0 : Pv 0 [] H1) (hz : ∀ i ys H, Pv i ys H → ys.length ≤ sizeLine)
    (hs : ∀ i c ys H, t.cps[i]? = some c → Pv i ys H → g (.str ⟨#[c]⟩) (blkSt n js σ) H fun σ2 H2 => σ2.drop n = (blkSt n js σ).drop n ∧ tt σ2 H2 fun b H3 => if b = true then te σ2 H3 fun y H4 => Pv (i + 1) (ys ++ [y]) H4 else Pv (i + 1) ys H3)
    (hd : ∀ ys H, Pv t.cps.size ys H → ∀ p, H p = none → Q (.ref p) (upd H p (.lst ys))) : CompW (Its t) H1 g tt te n js σ Q := by
  refine comp_of (len := t.cps.size) (x := fun i => .str ⟨#[t.cps.getD i 0]⟩) Pv (fun i ys H _ h => h) (fun ys H _ => rfl) (fun i ys H v H' _ hlt y => ?_) h0 hz (fun i ys H hlt p => ?_) hd
  · obtain ⟨e, c, hc, ev⟩ := y
    refine ⟨e, ?_⟩
    rw [ev, Array.getD_eq_getD_getElem?, hc]
    rfl
  · have hc : t.cps[i]? = some (t.cps.getD i 0) := by
      rw [Array.getD_eq_getD_getElem?, Array.getElem?_eq_getElem hlt]
      rfl
    exact hs i _ ys H hc p
theorem comp_tup {K : PySem.W.Frag} {a : Addr} {xs : List V} {H1 : Hp} {g : TG} {tt : TT} {te : TE} {n : Nat} {js : List Nat} {σ : St} {Q : VK} (Pv : Nat → List V → Hp → Prop) (hl : ∀ i ys H, Pv i ys H → SqT K H a xs) (h0 : Pv 0 [] H1) (hz : ∀ i ys H, Pv i ys H → ys.length ≤ sizeLine)
    (hs : ∀ i x ys H, xs[i]? = some x → Pv i ys H → g x (blkSt n js σ) H fun σ2 H2 => σ2.drop n = (blkSt n js σ).drop n ∧ tt σ2 H2 fun b H3 => if b = true then te σ2 H3 fun y H4 => Pv (i + 1) (ys ++ [y]) H4 else Pv (i + 1) ys H3)
    (hd : ∀ ys H, Pv xs.length ys H → ∀ p, H p = none → Q (.ref p) (upd H p (.lst ys))) : CompW (Itt K a) H1 g tt te n js σ Q := by
  refine comp_of (len := xs.length) (x := fun i => xs.getD i .non) Pv (fun i ys H p hlt => ⟨xs, xs[i], hl i ys H p, by simp [hlt]⟩) (fun ys H p => ⟨xs, hl _ ys H p, Nat.le_refl _⟩) (fun i ys H v H' p hlt y => ?_) h0 hz (fun i ys H hlt p => ?_) hd
  · obtain ⟨e, y⟩ := y
    refine ⟨e, ?_⟩
    rw [List.getD_eq_getElem?_getD, y xs (hl i ys H p)]
    rfl
  · refine hs i _ ys H ?_ p
    rw [List.getD_eq_getElem?_getD, List.getElem?_eq_getElem hlt]
    rfl
theorem comp_range {lo : Int} {len : Nat} {H1 : Hp} {g : TG} {tt : TT} {te : TE} {n : Nat} {js : List Nat} {σ : St} {Q : VK} (Pv : Nat → List V → Hp → Prop) (h0 : Pv 0 [] H1) (hz : ∀ i ys H, Pv i ys H → ys.length ≤ sizeLine)
    (hs : ∀ i ys H, i < len → Pv i ys H → g (.int (lo + i)) (blkSt n js σ) H fun σ2 H2 => σ2.drop n = (blkSt n js σ).drop n ∧ tt σ2 H2 fun b H3 => if b = true then te σ2 H3 fun y H4 => Pv (i + 1) (ys ++ [y]) H4 else Pv (i + 1) ys H3)
    (hd : ∀ ys H, Pv len ys H → ∀ p, H p = none → Q (.ref p) (upd H p (.lst ys))) : CompW (Itr lo len) H1 g tt te n js σ Q :=
  comp_of (len := len) (x := fun i => .int (lo + i)) Pv (fun i ys H _ h => h) (fun ys H _ => Nat.le_refl _) (fun i ys H v H' _ hlt y => y) h0 hz (fun i ys H hlt p => hs i ys H hlt p) hd
section
variable {X : Cx}
theorem vals_bl : ∀ {bs : List Bool} {us : List Value}, Vals (bs.map V.bl) us → us = bs.map Value.bool
  | [], us, r => by rw [List.map_nil] at r; cases r; rfl
  | b :: bs, us, r => by
    rw [List.map_cons] at r
    cases r with
    | cons r1 r2 => rw [List.map_cons, vals_bl r2, show _ = Value.bool b from r1]
theorem call_all (hc : X.calm = true) : CallR X (.builtin "all") (fun xs H Q => ∃ (a : Addr) (bs : List Bool), xs = [.ref a] ∧ SqL X.K H a (bs.map V.bl) ∧ Q (.bl (bs.all id)) H) := by
  intro pins s σ H xs us Q I r h
  obtain ⟨a, bs, rfl, hq, q⟩ := h
  obtain ⟨u, rfl, ru⟩ := vals1 r
  cases ru
  obtain ⟨its, rv, p, hz⟩ := I.list hq
  have e := vals_bl rv
  have hlt : a < s.heap.objs.size := by obtain ⟨o, n, e, _⟩ := p; exact Heap.lt_size e
  refine call_all_walk (wpAny_pyIter_list p.isList ?_)
  refine ⟨s.heap.objs.size, _, _, _, _, _, fun i => bs.getD i true, rfl, Walks.list (show X.A.in1.handled = none from I.ok.hd hc) s.heap.objs.size a (Nat.ne_of_lt hlt) its.toArray, ⟨⟨_, Heap.get?_push_size _ rfl, rfl, rfl⟩, p.isList.push _⟩, ?_, ?_⟩
  · intro i v s' Q' E' hP hQ
    have hP' : its[i]? = some v := by simpa using hP
    rw [e, List.getElem?_map] at hP'
    cases z : bs[i]? with
    | none => rw [z] at hP'; cases hP'
    | some b =>
      rw [z] at hP'
      have ev : Value.bool b = v := Option.some.inj hP'
      subst ev
      have hQ' : Q' (bs.getD i true) s' := hQ
      rw [List.getD_eq_getElem?_getD, z] at hQ'
      exact wpAny_truthy_bool hQ'
  · intro h' tk kk
    refine ⟨.bl _, H, I.kept (t' := tk) fun b o e => kk b o (fun z => ?_) (Heap.get?_push_of_some _ e), ?_, q⟩
    · have z' : b = s.heap.objs.size := by simpa using z
      exact absurd (Heap.lt_size e) (by rw [z']; exact Nat.lt_irrefl _)
    · show Value.bool _ = Value.bool _
      congr 1
      rw [List.size_toArray, e, List.length_map]
      have go : ∀ l : List Bool, (List.range l.length).all (fun i => l.getD i true) = l.all id := fun l => by
        have q := range_getD l true
        have e2 : ((List.range l.length).map fun j => l.getD j true).all id = (List.range l.length).all fun i => l.getD i true := by
          rw [List.all_map]
          rfl
        rw [← e2, q]
      exact go bs
theorem call_isinst : CallR X (.builtin "isinstance") (fun xs H Q => ∃ x c t b, xs = [x, c] ∧ TyOf X.K H x t ∧ ((∃ n, c = .ty n ∧ PySem.W.kitOne X.K t (.type n) = some b) ∨ (∃ a, c = .ref a ∧ PySem.W.kitOne X.K t (.ref a) = some b)) ∧ Q (.bl b) H) := by
  intro pins s σ H xs us Q I r h
  obtain ⟨x, c, t, b, rfl, ty, hc, q⟩ := h
  obtain ⟨u, u', rfl, r1, r2⟩ := vals2 r
  rcases hc with ⟨n, rfl, e⟩ | ⟨a, rfl, e⟩
  · cases (show u' = Value.type n from r2)
    exact isinst_ok I r1 ty e fun tk => ⟨.bl b, H, I.tok tk, rfl, q⟩
  · cases (show u' = Value.ref a from r2)
    exact isinst_ok I r1 ty e fun tk => ⟨.bl b, H, I.tok tk, rfl, q⟩
mutual
inductive DV (K : PySem.W.Frag) (H : Hp) : V → PyData → Prop where
  | non : DV K H .non .none
  | bl (b : Bool) : DV K H (.bl b) (.bool b)
  | int (i : Int) : DV K H (.int i) (.int i)
  | str (x : Str) : DV K H (.str x) (.str x)
  | lst {a : Addr} {xs : List V} {ds : List PyData} : SqL K H a xs → DVs K H xs ds → DV K H (.ref a) (.list ds)
  | tup {a : Addr} {xs : List V} {ds : List PyData} : SqT K H a xs → DVs K H xs ds → DV K H (.ref a) (.tuple ds)
inductive DVs (K : PySem.W.Frag) (H : Hp) : List V → List PyData → Prop where
  | nil : DVs K H [] []
  | cons {x : V} {d : PyData} {xs : List V} {ds : List PyData} : DV K H x d → DVs K H xs ds → DVs K H (x :: xs) (d :: ds)
end
end
end L2
namespace L2
open PySem PySem.Spec PyProof.Rows
section
variable {X : Cx}
theorem vals_strs : ∀ {ys : List Str} {us : List Value}, Vals (ys.map V.str) us → StrsAre us ys
  | [], us, r => by rw [List.map_nil] at r; cases r; exact .nil
  | y :: ys, us, r => by
    rw [List.map_cons] at r
    cases r with
    | cons r1 r2 =>
      obtain ⟨t, e⟩ := r1
      subst e
      exact .cons y t (vals_strs r2)
theorem strs_vals : ∀ l : List (Str × Tok), Vals ((l.map (·.1)).map V.str) (strValues l)
  | [] => .nil
  | (x, t) :: r => .cons ⟨t, rfl⟩ (strs_vals r)
theorem mt_join : MtR X "str.join" (fun x xs H Q => ∃ sep a ys, x = .str sep ∧ xs = [.ref a] ∧ SqL X.K H a (ys.map V.str) ∧ (ys.map (·.length)).sum + ys.length * sep.length ≤ 16777216 ∧ Q (.str (Str.join sep ys)) H) := by
  intro pins s σ H x xs v us Q I rx rs h
  obtain ⟨sep, a, ys, rfl, rfl, hq, hz, q⟩ := h
  obtain ⟨t, rfl⟩ := rx
  obtain ⟨u, rfl, ru⟩ := vals1 rs
  cases ru
  obtain ⟨its, rv, p, _⟩ := I.list hq
  refine join_list (items := its.toArray) (ys := ys) p.isList (by simpa using vals_strs rv) hz fun t' k => ⟨.str _, H, I.tok k, ⟨t', rfl⟩, ?_⟩
  have e : Txt.join sep ys = Str.join sep ys := by first | rfl | exact StrLaws.glued_eq_join sep ys
  rw [e]
  exact q
theorem mt_split : MtR X "str.split" (fun x xs H Q => ∃ t y, x = .str t ∧ xs = [.str y] ∧ (y.length == 0) = false ∧ t.length + 2 ≤ sizeLine ∧ ∀ l, H l = none → Q (.ref l) (upd H l (.lst ((Txt.split t y).map V.str)))) := by
  intro pins s σ H x xs v us Q I rx rs h
  obtain ⟨x, y, rfl, rfl, hy, hsz, q⟩ := h
  obtain ⟨t, rfl⟩ := rx
  obtain ⟨u, rfl, ru⟩ := vals1 rs
  obtain ⟨tu, rfl⟩ := ru
  have hn : (Builtin.Str.partsBetween x (Builtin.Str.occurrences x y 0 x.length (x.length + 1)) y.length).length ≤ sizeLine := by
    have e1 := StrLaws.occ_length_le x y 0 x.length (x.length + 1)
    rw [length_partsBetween]; omega
  have fin : ∀ (l : List (Str × Tok)) (k : Nat), l.map (·.1) = Txt.split x y → l.length ≤ sizeLine → EP X pins σ Q (.ref s.heap.objs.size) { s with heap := s.heap.push { cls := .type "list", data := .seq (strValues l).toArray }, toks := k } := fun l k e hl => by
    refine ⟨.ref s.heap.objs.size, upd H s.heap.objs.size (.lst ((Txt.split x y).map V.str)), I.laid (t' := k) (fun b o e => Heap.get?_push_of_some _ e) (Nat.le_refl _) ⟨?_, strValues l, _, ?_, Heap.get?_push_size _ rfl⟩, rfl, q _ (I.hok.fresh (Nat.le_refl _))⟩
    · rw [← e, List.length_map, List.length_map]
      exact hl
    · rw [← e]
      exact strs_vals l
  cases h1 : (decide (x.length < y.length) || decide (Builtin.Str.strKind x < Builtin.Str.strKind y))
  · cases hf : (Builtin.Str.occurrences x y 0 x.length (x.length + 1)).isEmpty
    · refine call_meets F.slot_str_split (typeIs_str _ _ _) F.entry_str_split (F.args_str_split_2 _ _) (meets_str_split_sep x y t tu h1 hy hf (by omega) hn) ?_
      show wants _ _ _ { s with toks := _, heap := s.heap.push { cls := .type "list", data := .seq (strsFrom s.toks (Builtin.Str.partsBetween x (Builtin.Str.occurrences x y 0 x.length (x.length + 1)) y.length)).toArray } }
      rw [strsFrom_eq]
      refine fin (numbered s.toks _) _ ((numbered_texts _ _).trans ((if_neg (ne_true_of_eq_false h1)).trans (if_neg (ne_true_of_eq_false hf))).symm) ?_
      have e := congrArg List.length (numbered_texts s.toks (Builtin.Str.partsBetween x (Builtin.Str.occurrences x y 0 x.length (x.length + 1)) y.length))
      rw [List.length_map] at e
      omega
    · exact call_meets F.slot_str_split (typeIs_str _ _ _) F.entry_str_split (F.args_str_split_2 _ _) (meets_str_split_not_found x y t tu h1 hy hf)
        (fin [(x, t)] s.toks ((if_neg (ne_true_of_eq_false h1)).trans (if_pos hf)).symm (by show 1 ≤ sizeLine; decide))
  · exact call_meets F.slot_str_split (typeIs_str _ _ _) F.entry_str_split (F.args_str_split_2 _ _) (meets_str_split_cannot_occur x y t tu h1)
      (fin [(x, t)] s.toks (if_pos h1).symm (by show 1 ≤ sizeLine; decide))
theorem call_str_str : CallR X (.type "str") (fun xs H Q => ∃ x, xs = [.str x] ∧ Q (.str x) H) := by
  intro pins s σ H xs us Q I r h
  obtain ⟨x, rfl, q⟩ := h
  obtain ⟨u, rfl, t, rfl⟩ := vals1 r
  exact PySem.P.str_of_str ⟨.str x, H, I, ⟨t, rfl⟩, q⟩
theorem call_int_text : CallR X (.type "int") (fun xs H Q => ∃ x n, xs = [.str x] ∧ PySem.intText? x = some n ∧ x.length ≤ 640 ∧ Q (.int n) H) := by
  intro pins s σ H xs us Q I r h
  obtain ⟨x, n, rfl, hn, hl, q⟩ := h
  obtain ⟨u, rfl, t, rfl⟩ := vals1 r
  exact PySem.W.KIN.call_text hn hl ⟨.int n, H, I.tok _, ⟨_, rfl⟩, q⟩
theorem ps_setC {i : Nat} {x : Str} {elt iter tg : Expr} {ifs : List Expr} {sc : Scope} {pos spos pos' : Pos} {own cap : List Str} {js : List Nat} {wi : TI} {g : TG} {tt : TT} {te : TE} (hN : X.N.Nodup) (hix : X.N[i]? = some x) (hx : Loc X.env.scope x)
    (hc : X.calm = true) (S : BlkScope X sc) (cp : Caps X sc cap js) (hi : PI X tg iter wi)
    (hg : ∀ fp s H C, PG (blk X (own ++ cap) sc fp s H C) tg g) (ht : ∀ fp s H C, PTs (blk X (own ++ cap) sc fp s H C) ifs tt) (he : ∀ fp s H C, PE (blk X (own ++ cap) sc fp s H C) elt te)
    (hsw : swapsWith (.ListComp elt [⟨tg, iter, ifs, 0⟩] sc pos) (some (.Name x pos')) spos.line X.env = pure true := by rfl) (hs : ∀ x, foldedSetIterable iter X.env x = pure x := by intro _; rfl)
    (hf : X.fn x = true ∨ X.env.scope.names.lookup x = some .local := by first | exact .inl rfl | exact .inr rfl | assumption) :
    PS X (.Assign [.Name x pos'] (.ListComp elt [⟨tg, iter, ifs, 0⟩] sc pos) spos) (tAsg (tComp wi g tt te own.length js) (gName i)) := by
  intro pins s σ H D I h
  rw [exec_Assign_Name_used _ _ _ _ hsw]
  refine wpAny_bind (wpAny_standAt (wpAny_bind ?_))
  show wpAny _ X.A (do let _ ← comprehension (.ListComp elt [⟨tg, iter, ifs, 0⟩] sc pos) sc X.env _ (newList []) false (eval iter X.env) (some (assign (.Name x pos') X.env))) _ _ s
  refine wpAny_bind (wpAny_mono (wpAny_comprehension_free (use := some (assign (.Name x pos') X.env)) (Q := fun _ s' => SP X pins D .next s') rfl hs (closure_of fun y hy hf => I.ok.has y.1 (S.free y hy hf)) S.kind S.names
    (thn (hi pins s σ H _ I h) fun v s1 h1 => thn h1 fun itv s2 h2 => ?_)) (fun _ s' hq => wpAny_pure (wpAny_pure hq)) fun _ _ e => e)
  obtain ⟨it, fp, tn, J, H2, e, I2, T, st2, f2, W, ⟨m0, w0⟩, turn⟩ := h2
  subst e
  refine blk_run (RR := fun acc C => compPost (model X.prog X.w) X.A X.xe (some (assign (.Name x pos') X.env)) (fun _ s' => SP X pins D .next s') acc C) (Qf := fun ys H => ∀ p, H p = none → D.nx (σ.set i (some (.ref p))) (upd H p (.lst ys))) hc S cp hg ht he I2 T st2 f2 w0 turn ?_
  intro DD C H4 s4 pn ys its nn hD hC hDC I4 n4 o4 hz rv q
  have I5 : Inv X pins σ (upd H4 DD (.lst ys)) s4 := blk_end (h' := s4.heap) I2 I4 f2 hC hD hDC n4 o4 hz rv (Heap.SameBut.refl ..)
  obtain ⟨m, hn, _⟩ := I4.loc
  have hn' : s4.heap.Ns C m := hn
  show wpAny _ X.A (assign (.Name x pos') X.env (.ref DD)) _ _ s4
  refine wpAny_assign_Name (store_ok2 I5 hN hix hx (v := .ref DD) (u := .ref DD) rfl (fun s6 I6 ⟨a, hsb, ha⟩ => ?_) hf)
  have lt2 : X.env.locals < s2.heap.objs.size := I2.lt
  have cellC : ∀ y c, X.env.cells.lookup y = some c → c ≠ C := fun y c e => by
    obtain ⟨v, z⟩ := I2.cell y c e
    exact Nat.ne_of_lt (Nat.lt_of_lt_of_le z.lt hC)
  have aC : C ≠ a := by
    rcases ha with rfl | ha
    · exact Nat.ne_of_gt (Nat.lt_of_lt_of_le lt2 hC)
    · exact Ne.symm (cellC _ _ ha)
  refine ⟨m, hn'.sameBut hsb aC, fun h' hs' => ?_⟩
  have nC : (upd H4 DD (.lst ys)) C = none := by rw [upd_ne (Ne.symm hDC)]; exact I4.free
  have I7 := I6.turned (h' := h') (t' := s6.toks) (it := C) (fun b o hb e => (hs'.2 b hb).trans e) nC (Nat.ne_of_gt (Nat.lt_of_lt_of_le lt2 hC)) (.inr (Nat.le_trans I2.sz hC)) cellC (fun p hp => by
    exact Nat.ne_of_lt (Nat.lt_of_lt_of_le (Heap.lt_size (I2.pin p hp).1) hC))
  exact ⟨_, _, I7, q DD n4⟩
def Itv (K : PySem.W.Frag) (a : Addr) (xs : List V) : It :=
  ⟨fun i H => SqL K H a xs ∧ i < xs.length, fun i H x H' => H' = H ∧ xs[xs.length - 1 - i]? = some x, fun i H => SqL K H a xs ∧ i = xs.length⟩
def iRev (K : PySem.W.Frag) (ta : TA) : TI := fun σ H R => ta σ H fun vs H1 => ∃ a xs, vs = [.ref a] ∧ SqL K H1 a xs ∧ R (Itv K a xs) H1
theorem turn_rev {P : Program} {w : World} {K : PySem.W.Frag} {tg : Expr} (a it : Addr) (xs : List V) : Turn P w K tg (Itv K a xs) [it] it (fun i h => i ≤ xs.length ∧ h.IsRevIter it a ((xs.length : Int) - 1 - (i : Int))) where
  mem := by simp
  obj := fun i h st b hb => by
    have e : b = it := by simpa using hb
    subst e
    obtain ⟨_, o, e, c, d⟩ := st
    exact ⟨o, e, fun v z => by rw [d] at z; cases z⟩
  keep := fun i h h' st k => ⟨st.1, st.2.at fun o e => k it (by simp) o e⟩
  item := by
    intro X hP hw hK hc i pins s σ H E I hf st hg
    subst hP hw hK
    obtain ⟨hq, hlt⟩ := hg
    obtain ⟨f0, f1, f2, f3, f4, f5⟩ := hf it (by simp)
    obtain ⟨its, rv, p, hz⟩ := I.list hq
    have hl := rv.length
    have hx : xs[xs.length - 1 - i]? = some (xs[xs.length - 1 - i]'(by omega)) := List.getElem?_eq_getElem (by omega)
    obtain ⟨u, hu, ru⟩ := rv.get hx
    have hit := st.2
    rw [show (xs.length : Int) - 1 - (i : Int) = ((xs.length - 1 - i : Nat) : Int) by omega] at hit
    refine wpAny_pyNext_rev_item hit p.isList (x := u) (by simpa using hu) fun h' hit' hs' => ?_
    rw [show ((xs.length - 1 - i : Nat) : Int) - 1 = (xs.length : Int) - 1 - ((i + 1 : Nat) : Int) by omega] at hit'
    have I1 : Inv X pins σ H { s with heap := h' } := I.turned (t' := s.toks) (fun b o hb e => (hs'.2 b hb).trans e) f0 f1 f3 f4 f5
    obtain ⟨o, e, c', d⟩ := id hit'
    exact ⟨u, rfl, go_of (s := { s with heap := h' }) e c' d (by decide) ⟨_, H, I1, ru, ⟨rfl, hx⟩, ⟨hlt, hit'⟩, fun b hb => (hf b hb).1⟩⟩
  done := by
    intro X hP hw hK hc i pins s σ H E I hf st hg
    subst hP hw hK
    obtain ⟨hq, e⟩ := hg
    obtain ⟨f0, f1, f2, f3, f4, f5⟩ := hf it (by simp)
    have hit := st.2
    rw [show (xs.length : Int) - 1 - (i : Int) = -1 by omega] at hit
    exact wpAny_pyNext_rev_end (I.ok.hd hc) hit fun h' he' => ⟨rfl, I.turned (t' := s.toks) (fun b o hb e => he' b o hb e) f0 f1 f3 f4 f5⟩
  self := fun _ _ _ _ _ st h => wpAny_pyIter_revIter st.2 h
theorem boot_reversed : bootBuiltins "reversed" = some (.type "reversed") := by decide +kernel
theorem pi_reversed {tg a : Expr} {ta : TA} {p pos : Pos} (hg : Gl X "reversed") (hm : X.mg "reversed" = none) (ha : PA X [a] ta) (hs : starEach [a] X.env = [(false, eval a X.env)] := by rfl) : PI X tg (.Call (.Name "reversed" p) [a] [] pos) (iRev X.K ta) := by
  intro pins s σ H R I h
  refine Call_ (ld_blt I hg hm boot_reversed (PyProof.Rows.callWith_type1 (thn (ha pos pins s σ H _ I h) fun us s1 ⟨vs, H1, I1, r1, q1⟩ => ?_) hs rfl))
  obtain ⟨b, xs, e, hq, q⟩ := q1
  subst e
  obtain ⟨u, rfl, ru⟩ := vals1 r1
  cases ru
  obtain ⟨its, rv, pl, hz⟩ := I1.list hq
  have hl := rv.length
  refine call_reversed_list pl.isList ?_
  have hit : (s1.heap.push (revObj b ((its.toArray.size : Int) - 1))).IsRevIter s1.heap.objs.size b ((xs.length : Int) - 1 - ((0 : Nat) : Int)) := by
    refine ⟨_, Heap.get?_push_size _ rfl, rfl, ?_⟩
    show Data.fields #[.ref b, rawInt _] = Data.fields #[.ref b, rawInt _]
    rw [List.size_toArray, ← hl, show (xs.length : Int) - 1 - ((0 : Nat) : Int) = (xs.length : Int) - 1 by omega]
  refine wpAny_pyIter_revIter (s := { s1 with heap := s1.heap.push (revObj b ((its.toArray.size : Int) - 1)) }) hit ?_
  refine ⟨s1.heap.objs.size, [s1.heap.objs.size], _, _, H1, rfl, I1.kept (t' := s1.toks) fun b o e => Heap.get?_push_of_some _ e, turn_rev b _ xs, ⟨Nat.zero_le _, hit⟩, fun c hc => ?_, q⟩
  have e : c = s1.heap.objs.size := by simpa using hc
  subst e
  exact I1.fpOk (Nat.le_refl _) (I1.hok.fresh (Nat.le_refl _))
end
theorem for_rev {K : PySem.W.Frag} {a : Addr} {xs : List V} {g : TG} {tb : TS} {D : Ends} {σ : St} {H : Hp} (Pv : Nat → St → Hp → Prop) (h0 : Pv 0 σ H) (hl : ∀ i σ H, i ≤ xs.length → Pv i σ H → SqL K H a xs)
    (hs : ∀ i x σ H, i < xs.length → xs[xs.length - 1 - i]? = some x → Pv i σ H → g x σ H fun σ2 H2 => tb { D with nx := Pv (i + 1), ct := Pv (i + 1), bk := D.nx } σ2 H2) (hd : ∀ σ H, Pv xs.length σ H → D.nx σ H) :
    ∃ W : Nat → Nat → St → Hp → Prop, (∃ m, W 0 m σ H) ∧ ∀ i m σ H, W i m σ H →
      ((Itv K a xs).stop i H ∧ D.nx σ H) ∨ ((Itv K a xs).go i H ∧ ∃ N : St → Hp → Prop, (∀ σ' H', N σ' H' → ∃ m', m' < m ∧ W (i + 1) m' σ' H') ∧ ∀ x H', (Itv K a xs).yld i H x H' → g x σ H' fun σ2 H2 => tb { D with nx := N, ct := N, bk := D.nx } σ2 H2) := by
  refine ⟨fun i m σ H => m = xs.length - i ∧ i ≤ xs.length ∧ Pv i σ H, ⟨xs.length, by simp, Nat.zero_le _, h0⟩, ?_⟩
  rintro i m σ H ⟨rfl, hi, p⟩
  have q := hl i σ H hi p
  by_cases hlt : i < xs.length
  · refine .inr ⟨⟨q, hlt⟩, Pv (i + 1), fun σ' H' p' => ⟨xs.length - (i + 1), by omega, rfl, hlt, p'⟩, fun x H' y => ?_⟩
    obtain ⟨e, y⟩ := y
    subst e
    exact hs i x σ _ hlt y p
  · have e : i = xs.length := by omega
    subst e
    exact .inl ⟨⟨q, rfl⟩, hd σ H p⟩
end L2
namespace L2
open PySem PySem.Spec PyProof.Rows
section
variable {X : Cx} {a : Addr} {D : List (Str × KTD.Dat)}
theorem op_notIn_tab (T : KTD.TextTab X.base a D) : OpR X (compareOp .NotIn) (fun x y H Q => ∃ k, x = .str k ∧ y = .ref a ∧ Q (.bl (!KTD.inKeys k D)) H) := by
  intro pins s σ H x y v u Q I rx ry h
  obtain ⟨k, rfl, rfl, q⟩ := h
  obtain ⟨t, rfl⟩ := rx
  cases ry
  exact KTD.notin_text ⟨T, I.bk⟩ ⟨.bl _, H, I.tok _, rfl, q⟩
theorem ix_tab (T : KTD.TextTab X.base a D) : IxR X (fun x y H Q => ∃ k i, x = .ref a ∧ y = .str k ∧ KTD.datumAt k D = some (.flat (.int i)) ∧ Q (.int i) H) := by
  intro value slice pins s σ H x y v u Q I rx ry h hs
  obtain ⟨k, i, rfl, rfl, hd, q⟩ := h
  cases rx
  obtain ⟨tk, rfl⟩ := ry
  have T' : KTD.Here X.base s.heap a D := ⟨T, I.bk⟩
  refine subscriptTail_builtin_flat T'.typeIs slot_dict_getitem.lookup ?_ hs
  unfold getItem
  try with_reducible refine wpAny_holding ?_
  refine wpAny_bind (wpAny_sequenceKey T'.typeIs (by decide) ?_)
  refine wpAny_bind (wpAny_callSpecial?_slot (name := Str.ofString "__getitem__") T'.typeIs slot_dict_getitem
    (wpAny_call_entry slot_dict_getitem T'.typeIs entry_dict_getitem ?_ (args_dict_getitem _ _)))
  show wpAny _ _ (dictGet a (.str k tk) >>= _) _ _ s
  refine wpAny_bind (KTD.dictGet_text T' (fun d v ha hv => ?_) fun hn => ?_)
  · rw [hd] at ha
    cases ha
    have hv' : Reads s.heap v (.int i) [] := hv s.heap
    obtain ⟨t, rfl⟩ : ∃ t, v = Value.int i t := by
      cases hv' with
      | int _ t => exact ⟨t, rfl⟩
    have fin : EP X pins σ Q (.int i t) { s with toks := s.toks + 1 } := ⟨.int i, H, I.tok _, ⟨t, rfl⟩, q⟩
    exact wpAny_pure ⟨Value.int i t, rfl, wpAny_pure ⟨fun b z => (nomatch z), fin⟩⟩
  · rw [hd] at hn
    cases hn
end
end L2
namespace L2
open PySem PySem.Spec PyProof.Rows
section
variable {X : Cx}
@[irreducible] def rStrAny : List V → Hp → VK → Prop := fun xs H Q => (∃ x, xs = [.str x] ∧ Q (.str x) H) ∨ ∃ i : Int, xs = [.int i] ∧ i.natAbs.log2 < 1920 ∧ Q (.str (toString i)) H
theorem call_str_any : CallR X (.type "str") rStrAny := by
  intro pins s σ H xs us Q I r h
  unfold rStrAny at h
  rcases h with h | h
  · exact call_str_str pins s σ H xs us Q I r h
  · exact call_str_int pins s σ H xs us Q I r h
end
end L2
namespace L2
open PySem PySem.Spec PyProof.Rows
section
variable (K : PySem.W.Frag) {X : Cx} {a b o e : Expr} {es : List Expr} {ta tb to te : TE} {t : TA} {name f : Str} {apos cpos pos : Pos} {T id : String} {r : V → List V → Hp → VK → Prop}
theorem ix_tupK (hK : X.K = K := by rfl) : IxR X (rIxT K) := hK ▸ ix_tup
theorem mt_joinK (hK : X.K = K := by rfl) : MtR X "str.join" (fun x xs H Q => ∃ sep a ys, x = .str sep ∧ xs = [.ref a] ∧ SqL K H a (ys.map V.str) ∧ (ys.map (·.length)).sum + ys.length * sep.length ≤ 16777216 ∧ Q (.str (Str.join sep ys)) H) := hK ▸ mt_join
theorem pe_bmK (pa : PlainAttrs T) (slot : Slot T name id) (hty : typeOf (.builtin id) = pure (.type "method_descriptor")) (hm : MtR X id r) (ho : PE X o to) (ha : PA X (e :: es) t)
    (hbase : attributeBase o name X.env (eval o X.env) = eval o X.env := by rfl)
    (hfew : ((backTo cpos (starEach (e :: es) X.env)).all (fun x => !x.1) && (backToKw cpos (keywordEach [] X.env)).all (fun x => x.1.isSome)
      && decide ((e :: es).length + ([] : List Keyword).length + (if ([] : List Keyword).isEmpty then 0 else 1) < 30)) = true := by rfl)
    (hline : (apos.endLine == cpos.line) = true := by rfl) (hs : starEach (e :: es) X.env = (false, eval e X.env) :: starEach es X.env := by rfl) (hplain : (backTo cpos (starEach es X.env)).any (·.1) = false := by rfl) (hK : X.K = K := by rfl) :
    PE X (.Call (.Attribute o name apos) (e :: es) [] cpos) (tBM K T r to t) := hK ▸ pe_bm pa slot hty hm ho ha hbase hfew hline hs hplain
end
end L2
namespace SSet
open PySem PySem.Spec PyProof.Rows
theorem led_or (t : SetTable) (n : Nat) : (t.orStandIn n).led = t.led ∧ (t.plain = false → (t.orStandIn n).plain = false) := by
  unfold SetTable.orStandIn
  split
  · exact ⟨rfl, id⟩
  · exact ⟨rfl, fun _ => rfl⟩
theorem led_new (t : SetTable) (es : Array (Int × Value)) (h : Int) (x : Value) : (layNew t es h x).2.1.led = t.led := by
  unfold layNew
  split
  · exact (led_or _ _).1
  · rfl
theorem led_relay (t : SetTable) (es : Array (Int × Value)) (k : Nat) : (relayAll t es k).2.1.led = t.led ∧ (t.plain = false → (relayAll t es k).2.1.plain = false) := by
  unfold relayAll
  split
  · rename_i u order e
    have q : u.led = t.led ∧ u.plain = t.plain := by
      unfold SetTable.relaid SetTable.laid at e
      simp only [bind, Option.bind, pure] at e
      split at e
      · cases e
      · injection e with e
        injection e with e _
        rw [← e]
        exact ⟨rfl, rfl⟩
    dsimp only
    split
    · exact ⟨q.1, fun z => q.2.trans z⟩
    · exact ⟨rfl, fun _ => rfl⟩
  · exact ⟨rfl, fun _ => rfl⟩
def SS (prog : Program) (w : World) (h : Heap) (a : Addr) (D : List Str) (b : Bool) : Prop :=
  ∃ o es ep t, h.get? a = some o ∧ o.ExactSet ∧ o.data = .set es ep t ∧ ElemsOf (PySem.strKind prog w) es.toList ∧ (es.toList.map fun e => strOf e.2).Perm D ∧ es.size < scanBound ∧ t.fits es.size = true ∧ t.led = b ∧ (es.size = 0 ∨ t.plain = false)
section
variable {prog : Program} {w : World} {A : Around} {E : Value → Shared → Prop} {s : Shared}
theorem SS.keep {h h' : Heap} {a : Addr} {D : List Str} {b : Bool} (x : SS prog w h a D b) (k : ∀ o, h.get? a = some o → h'.get? a = some o) : SS prog w h' a D b := by
  obtain ⟨o, es, ep, t, ho, r⟩ := x
  exact ⟨o, es, ep, t, k _ ho, r⟩
theorem el_str {es : List (Int × Value)} (h : ElemsOf (PySem.strKind prog w) es) {e : Int × Value} (he : e ∈ es) : ∃ x t, e.2 = .str x t ∧ e.1 = (PySem.strKind prog w).hash x := by
  obtain ⟨⟨k, hk, hh⟩, _⟩ := h e he
  obtain ⟨t, et⟩ := Value.isStrOf_shape (x := k) (v := e.2) hk
  exact ⟨k, t, et, hh⟩
theorem mem_iff_idx {es : List (Int × Value)} {D : List Str} {x : Str} (hel : ElemsOf (PySem.strKind prog w) es) (hp : (es.map fun e => strOf e.2).Perm D) :
    x ∈ D ↔ ∃ e ∈ es, (PySem.strKind prog w).is x e.2 = true := by
  rw [← hp.mem_iff, List.mem_map]
  constructor
  · rintro ⟨e, he, rfl⟩
    obtain ⟨y, t, e1, _⟩ := el_str hel he
    refine ⟨e, he, ?_⟩
    rw [e1]
    show Value.isStrOf y (.str y t) = true
    simp [Value.isStrOf]
  · rintro ⟨e, he, hi⟩
    obtain ⟨t, e1⟩ := Value.isStrOf_shape (x := x) (v := e.2) hi
    exact ⟨e, he, by rw [e1]; rfl⟩
theorem tail_str {g : Bool → Sem Unit} (hg : ∀ (b : Bool) (s₁ : Shared) (Q' : Unit → Shared → Prop), Q' () s₁ → wpAny (model prog w) A (g b) Q' E s₁)
    {a : Addr} {o : Obj} {es : Array (Int × Value)} {ep : Nat} {t : SetTable} (ho : s.heap.get? a = some o) (hex : o.ExactSet) (hd : o.data = .set es ep t)
    {fs : Array (Int × Value)} {u : SetTable} {D : List Str} {b : Bool} (hel : ElemsOf (PySem.strKind prog w) fs.toList) (hp : (fs.toList.map fun e => strOf e.2).Perm D) (hb : fs.size < scanBound) (hf : u.fits fs.size = true) (hl : u.led = b) (hpl : u.plain = false)
    {dm : Bool} {R : Option Bool → Shared → Prop} (h : ∀ h', Heap.SameBut a s.heap h' → SS prog w h' a D b → R (some true) { s with heap := h' }) :
    wpAny (model prog w) A (do
        storeSet a fs u
        if (!dm && u.tooFull) = true then do
            g (relayAll u fs (SetTable.grown fs.size)).2.2
            storeSet a (relayAll u fs (SetTable.grown fs.size)).1 (relayAll u fs (SetTable.grown fs.size)).2.1
            pure (some true)
          else pure (some true)) R E s := by
  have lim : ∀ {n : Nat}, n < scanBound → n ≤ sizeLine := fun z => fits_of_scanBound z
  refine wpAny_bind (wpAny_storeSet_of ho hd ?_ (lim hb))
  have k1 : (s.heap.update a (Obj.putSet fs u)).get? a = some { o with data := .set fs (ep + 1) u } := by
    have z := Heap.get?_update_self (Obj.putSet fs u) ho (by rw [putSet_of fs u hd]; rfl)
    rw [putSet_of fs u hd] at z
    exact z
  have b1 := Heap.SameBut.update s.heap a (Obj.putSet fs u)
  split
  · have p2 := relayAll_perm u fs (SetTable.grown fs.size)
    have f2 := relayAll_fits u fs (SetTable.grown fs.size)
    obtain ⟨l2, q2⟩ := led_relay u fs (SetTable.grown fs.size)
    generalize relayAll u fs (SetTable.grown fs.size) = R2 at p2 f2 l2 q2 ⊢
    obtain ⟨fs2, u2, gv⟩ := R2
    dsimp only at p2 f2 l2 q2 ⊢
    have z2 : fs2.size = fs.size := by rw [← Array.length_toList, p2.length_eq, Array.length_toList]
    refine wpAny_bind (hg _ _ _ ?_)
    refine wpAny_bind (wpAny_storeSet_of k1 rfl ?_ (lim (by rw [z2]; exact hb)))
    have k2 : ((s.heap.update a (Obj.putSet fs u)).update a (Obj.putSet fs2 u2)).get? a = some { o with data := .set fs2 (ep + 1 + 1) u2 } := by
      have z := Heap.get?_update_self (Obj.putSet fs2 u2) k1 (by rw [putSet_of fs2 u2 rfl]; rfl)
      rw [putSet_of fs2 u2 rfl] at z
      exact z
    exact wpAny_pure (h _ (b1.trans (Heap.SameBut.update _ a _)) ⟨_, fs2, _, u2, k2, hex, rfl, ElemsOf.perm hel p2, (p2.map _).trans hp, by rw [z2]; exact hb, f2, l2.trans hl, .inr (q2 hpl)⟩)
  · exact wpAny_pure (h _ b1 ⟨_, fs, _, u, k1, hex, rfl, hel, hp, hb, hf, hl, .inr hpl⟩)
theorem add_str {a : Addr} {D : List Str} {b : Bool} {x : Str} {tk : Tok} {Q : Bool → Shared → Prop} (hS : SS prog w s.heap a D b) (hroom : D.length + 1 < scanBound)
    (h : ∀ h' r, Heap.SameBut a s.heap h' → SS prog w h' a (if x ∈ D then D else D ++ [x]) b → Q r { s with heap := h' }) :
    wpAny (model prog w) A (setAddHashed a (.str x tk) ((PySem.strKind prog w).hash x)) Q E s := by
  obtain ⟨o, es, ep, t, ho, hex, hd, hel, hp, hb, hf, hl, hpl⟩ := hS
  have key : (PySem.strKind prog w).is x (.str x tk) = true := by
    show Value.isStrOf x (.str x tk) = true
    simp [Value.isStrOf]
  have hz : es.size = D.length := by rw [← hp.length_eq, List.length_map, Array.length_toList]
  unfold setAddHashed setAddHashedIn
  refine wpAny_holding (wpAny_bind (wpAny_setState_of ho hd hf ?_))
  dsimp only
  rw [byScan_of (x := .str x tk) rfl hb hel]
  simp only [↓reduceIte]
  unfold setAddByScan
  refine wpAny_bind (wpAny_bind (wpAny_rule (wpAny_bind (wpAny_setScan_of key ho hd hf hel ?_))))
  have mi := mem_iff_idx (x := x) hel hp
  cases hr : List.findIdx? (fun e => (PySem.strKind prog w).is x e.2) es.toList with
  | some j =>
    obtain ⟨hj, hpj, _⟩ := List.findIdx?_eq_some_iff_getElem.mp hr
    have hin : x ∈ D := mi.mpr ⟨_, List.getElem_mem hj, hpj⟩
    dsimp only
    refine wpAny_pure (wpAny_pure ?_)
    have z := h s.heap false (Heap.SameBut.refl a s.heap)
    rw [if_pos hin] at z
    exact z ⟨o, es, ep, t, ho, hex, hd, hel, hp, hb, hf, hl, hpl⟩
  | none =>
    have hno : ¬ x ∈ D := fun hin => by
      obtain ⟨e, he, hi⟩ := mi.mp hin
      have z := List.findIdx?_eq_none_iff.mp hr e he
      rw [hi] at z
      cases z
    simp only [if_neg hno] at h
    dsimp only
    have p1 := layNew_perm t es ((PySem.strKind prog w).hash x) (.str x tk)
    have f1 := layNew_fits t es ((PySem.strKind prog w).hash x) (.str x tk)
    have l1 := led_new t es ((PySem.strKind prog w).hash x) (.str x tk)
    generalize layNew t es ((PySem.strKind prog w).hash x) (.str x tk) = L at p1 f1 l1 ⊢
    obtain ⟨fs, u, dm, gave⟩ := L
    dsimp only at p1 f1 l1 ⊢
    rw [Array.toList_push] at p1
    have el1 : ElemsOf (PySem.strKind prog w) fs.toList := (hel.push key rfl).perm p1
    have pp : (fs.toList.map fun e => strOf e.2).Perm (D ++ [x]) := by
      refine (p1.map _).trans ?_
      rw [List.map_append]
      exact List.Perm.append hp (List.Perm.refl _)
    have z1 : fs.size = D.length + 1 := by rw [← Array.length_toList, p1.length_eq, List.length_append, Array.length_toList, hz]; rfl
    have give : ∀ (c : Bool) (s₁ : Shared) (Q' : Unit → Shared → Prop), Q' () s₁ → wpAny (model prog w) A (match c with | true => rule "set.scan.the-table-gave-way" | false => pure ()) Q' E s₁ := fun c s₁ Q' q => by
      cases c
      · exact wpAny_pure q
      · exact wpAny_rule q
    refine wpAny_bind (give _ _ _ ?_)
    split
    · refine wpAny_bind ?_
      rw [hashByValue_scannable 8 (x := .str x tk) rfl]
      refine wpAny_pure ?_
      refine tail_str (b := b) (D := D ++ [x]) give ho hex hd el1 pp (by omega) (SetTable.fits_plain_off f1) (l1.trans hl) rfl ?_
      intro h' sb S'
      exact wpAny_pure (h h' _ sb S')
    · rename_i np
      refine wpAny_bind (wpAny_pure ?_)
      simp only [↓reduceIte]
      refine tail_str (b := b) (D := D ++ [x]) give ho hex hd el1 pp (by omega) f1 (l1.trans hl) (by simpa using np) ?_
      intro h' sb S'
      exact wpAny_pure (h h' _ sb S')
def dd (xs : List Str) : List Str := xs.foldl (fun D x => if x ∈ D then D else D ++ [x]) []
theorem dd_snoc (xs : List Str) (x : Str) : dd (xs ++ [x]) = if x ∈ dd xs then dd xs else dd xs ++ [x] := by
  unfold dd
  rw [List.foldl_append]
  rfl
theorem dd_le : ∀ n (xs : List Str), (dd (xs.take n)).length ≤ n
  | 0, xs => Nat.le_refl 0
  | n + 1, xs => by
    have ih := dd_le n xs
    rw [List.take_add_one]
    cases e : xs[n]? with
    | none =>
      rw [Option.toList_none, List.append_nil]
      omega
    | some x =>
      rw [Option.toList_some, dd_snoc]
      split
      · omega
      · rw [List.length_append, List.length_singleton]
        omega
theorem upd_loop {R : Result → Shared → Prop} {I S : Addr} {fp wr : List Addr} {n : Nat} {P : Nat → Value → Prop} {St : Nat → Heap → Prop} {b : Bool} (W : Walks prog w A.in1 I fp wr n P St) (hSf : S ∉ fp) (xs : List Str)
    (hval : ∀ i v, P i v → ∃ x t, xs[i]? = some x ∧ v = .str x t) (hn : n + 1 < scanBound) :
    ∀ (k i : Nat) (s : Shared), n - i = k → i ≤ n → St i s.heap → SS prog w s.heap S (dd (xs.take i)) b →
      (∀ h' tk, SS prog w h' S (dd (xs.take n)) b → (∀ c o, c ∉ S :: wr → s.heap.get? c = some o → h'.get? c = some o) → R (.ok (.ret .none)) { s with heap := h', toks := tk }) →
      codeAny (model prog w) A (.builtin "set.update.loop" ⟨[.ref S, .ref I], []⟩) R s := by
  have nw : S ∉ wr := fun z => hSf (W.sub _ z)
  intro k
  induction k with
  | zero =>
    intro i s hk hi st hS hR
    obtain rfl : i = n := by omega
    refine codeAny_builtin PyProof.Rows.F.entry_set_update_loop ?_
    rw [Around.under_plainId PyProof.Rows.F.plain_set_update_loop _]
    show wpAny _ A.in1 (pyNext (.ref I) >>= _) _ _ s
    refine wpAny_bind (W.done s _ _ st fun h' tk keep => ?_)
    show wpAny _ A.in1 (ret Value.none) _ _ _
    exact wpAny_pure (hR h' tk (hS.keep fun o e => keep S o nw e) fun c o hc e => keep c o (fun z => hc (List.mem_cons_of_mem _ z)) e)
  | succ k ih =>
    intro i s hk hi st hS hR
    have hlt : i < n := by omega
    refine codeAny_builtin PyProof.Rows.F.entry_set_update_loop ?_
    rw [Around.under_plainId PyProof.Rows.F.plain_set_update_loop _]
    show wpAny _ A.in1 (pyNext (.ref I) >>= _) _ _ s
    refine wpAny_bind (W.item i s _ _ hlt st fun v h1 tk hP st1 keep => ?_)
    obtain ⟨x, t, hx, rfl⟩ := hval i v hP
    have hS1 : SS prog w h1 S (dd (xs.take i)) b := hS.keep fun o e => keep S o nw e
    show wpAny _ A.in1 (holding [Value.str x t] (setAdd S (.str x t)) >>= _) _ _ _
    refine wpAny_bind (wpAny_holding ?_)
    unfold setAdd
    refine wpAny_holding (wpAny_bind ((PySem.strKind prog w).pyHash (k := x) (by show Value.isStrOf x (.str x t) = true; simp [Value.isStrOf]) ?_))
    have hle := dd_le i xs
    refine add_str (b := b) (D := dd (xs.take i)) (s := { s with heap := h1, toks := tk + 1 }) hS1 (by omega) fun h2 r sb S2 => ?_
    have e2 : (if x ∈ dd (xs.take i) then dd (xs.take i) else dd (xs.take i) ++ [x]) = dd (xs.take (i + 1)) := by
      rw [List.take_add_one, hx, Option.toList_some, dd_snoc]
    rw [e2] at S2
    refine wpAny_pure ⟨plainId_quiet PyProof.Rows.F.plain_set_update_loop _, ih (i + 1) _ (by omega) hlt (W.frame _ h1 _ st1 fun c hc o e => ?_) S2 fun h3 tk3 S3 keep3 => ?_⟩
    · rw [sb.2 c (fun z : c = S => hSf (by rw [← z]; exact hc))]
      exact e
    · refine hR h3 tk3 S3 fun c o hc e => keep3 c o hc ?_
      show h2.get? c = some o
      rw [sb.2 c (fun z : c = S => hc (by rw [z]; exact List.mem_cons_self))]
      exact keep c o (fun z => hc (List.mem_cons_of_mem _ z)) e
abbrev empt (w : World) : Obj := { cls := .type "set", dict := none, data := .set #[] 0 (.fresh 0 0 (!w.params.followText "set-order")) }
theorem new_set (v : Value) {Q1 : Value → Shared → Prop} (h : Q1 (.ref s.heap.objs.size) { s with heap := s.heap.push (empt w) }) :
    codeAny (model prog w) A (.call (.builtin "set.__new__") ⟨[.type "set", v], []⟩) (wants Q1 E) s := by
  refine codeAny_of_tree ?_
  have sb := sub_set_self
  show wpAny _ A.in1 (checkBuiltinCall "set.__new__" ⟨[.type "set", v], []⟩ >>= fun _ => again (.builtin "set.__new__" ⟨[.type "set", v], []⟩)) _ _ s
  refine wpAny_bind (wpAny_of_eq (PySem.F.newCall_set_1 v) (wpAny_pure ⟨plainId_quiet PySem.F.plain_set_new _, codeAny_builtin PySem.F.entry_set_new ?_⟩))
  rw [Around.under_plainId PySem.F.plain_set_new _]
  obtain ⟨hp, gn, dr, tk, os⟩ := s
  unfold Builtin.«set.__new__»
  unfold Builtin.Frozenset.newClass
  dsimp only
  wp_walk
  refine wpAny_askSetting (wpAny_pure ?_)
  dsimp only [newObj]
  refine wpAny_bind (wpAny_alloc (wpAny_pure (wpAny_pure ?_)))
  exact h
theorem strs_at : ∀ {us : List Value} {xs : List Str}, StrsAre us xs → ∀ (i : Nat) (v : Value), us[i]? = some v → ∃ x t, xs[i]? = some x ∧ v = .str x t
  | _, _, .nil, i, v, e => by simp at e
  | _, _, .cons x t r, 0, v, e => by
    rw [List.getElem?_cons_zero] at e
    cases e
    exact ⟨x, t, rfl, rfl⟩
  | _, _, .cons x t r, i + 1, v, e => by
    rw [List.getElem?_cons_succ] at e
    obtain ⟨y, u, h1, h2⟩ := strs_at r i v e
    exact ⟨y, u, by rw [List.getElem?_cons_succ]; exact h1, h2⟩
theorem empt_ss (h : Heap) : SS prog w (h.push (empt w)) h.objs.size [] (!w.params.followText "set-order") :=
  ⟨_, #[], 0, _, Heap.get?_push_size _ rfl, ⟨rfl, rfl, rfl⟩, rfl, fun e he => by simp at he, .nil, by decide, by rfl, rfl, .inl rfl⟩
set_option maxHeartbeats 3200000 in
theorem set_list {l : Addr} {its : Array Value} {xs : List Str} {Q : Value → Shared → Prop} (hh : A.handled = none) (hl : s.heap.IsList l its) (hi : StrsAre its.toList xs) (hb : its.size + 1 < scanBound)
    (h : ∀ (h' : Heap) (tk : Nat), SS prog w h' s.heap.objs.size (dd xs) (!w.params.followText "set-order") → (∀ c o, s.heap.get? c = some o → h'.get? c = some o) → Q (.ref s.heap.objs.size) { s with heap := h', toks := tk }) :
    wpAny (model prog w) A (call (.type "set") [.ref l]) Q E s := by
  obtain ⟨cM, tM, mro⟩ := PySem.F.called_set.mro
  have made := PySem.F.called_set.made
  have subs := PySem.F.called_set.sub
  have notT := PySem.F.called_set.notType
  have canC := PySem.F.called_set.canCreate
  have chk := PySem.F.typeCall_set_1 (.ref l)
  refine wpAny_call (codeAny_of_tree ?_)
  show wpAny _ _ (callAny (.type "set") ⟨[.ref l], []⟩) _ _ _
  refine wpAny_pure ⟨Code.quiet_builtin _ (by decide +kernel), codeAny_builtin PySem.F.entry_type_call ?_⟩
  rw [Around.under_plain (weight_type_call_type "set" [Value.ref l] []) rfl]
  repeat (any_goals (first | assumption | wp_step))
  refine codeAny_mono (new_set (.ref l) (E := E) (Q1 := fun ob s1 => ob = .ref s.heap.objs.size ∧ s1 = { s with heap := s.heap.push (empt w) }) ⟨rfl, rfl⟩) fun r s1 hr => ?_
  cases r with
  | error e => exact hr
  | ok fl =>
    cases fl with
    | ret ob =>
      obtain ⟨rfl, rfl⟩ := hr
      have g0 : (s.heap.push (empt w)).get? s.heap.objs.size = some (empt w) := Heap.get?_push_size _ rfl
      have ty0 : Shared.TypeIs { s with heap := s.heap.push (empt w) } (.ref s.heap.objs.size) "set" := ⟨_, g0, rfl⟩
      have lk := PySem.F.called_set.init.lookup
      have bd := PySem.F.called_set.init.bind (.ref s.heap.objs.size)
      repeat (any_goals (first | assumption | wp_step))
      refine codeAny_mono (codeAny_call_builtin (R := wants (fun r s2 => r = .none ∧ ∃ h' tk, s2 = { s with heap := h', toks := tk } ∧ SS prog w h' s.heap.objs.size (dd xs) (!w.params.followText "set-order") ∧
          (∀ c o, s.heap.get? c = some o → h'.get? c = some o)) E) PySem.F.called_set.init.plain PySem.F.entry_set_init (check_set_init_1 ty0 ?_)) fun r2 s2 hr2 => ?_
      · obtain ⟨ol, e1, e2, nl, e3⟩ := hl
        obtain ⟨oc, od, oD, osl⟩ := ol
        dsimp only at e2 e3
        subst e2 e3
        have e1' : (s.heap.push (empt w)).get? l = some { cls := .type "list", dict := od, data := .seq its nl, slots := osl } := Heap.get?_push_of_some _ e1
        have q1 := PySem.F.sub_list_set
        have q2 := PySem.F.sub_list_frozenset
        have q3 : (Value.type "list" == Value.type "dict") = false := by decide
        have L1 : (s.heap.push (empt w)).IsList l its := ⟨_, e1', rfl, nl, rfl⟩
        have lt : l < s.heap.objs.size := Heap.lt_size e1
        unfold Builtin.«set.__init__» noKeywords Builtin.Frozenset.updateFrom
        generalize hPI : pyIter = PI
        wp_walk
        subst hPI
        refine wpAny_pyIter_list L1 (wpAny_bind (wpAny_runValue ?_))
        have ne : l ≠ (s.heap.push (empt w)).objs.size := by
          rw [Heap.size_push]
          exact Nat.ne_of_lt (Nat.lt_succ_of_lt lt)
        have nf : s.heap.objs.size ∉ [(s.heap.push (empt w)).objs.size, l] := by
          rw [Heap.size_push]
          intro z
          rcases List.mem_cons.mp z with z | z
          · exact absurd z (Nat.ne_of_lt (Nat.lt_succ_self _))
          · exact absurd (List.mem_singleton.mp z) (Nat.ne_of_gt lt)
        have hv : ∀ (i : Nat) (v : Value), its[i]? = some v → ∃ x t, xs[i]? = some x ∧ v = .str x t := fun i v e => strs_at hi i v (by rw [Array.getElem?_toList]; exact e)
        have hx : xs.take its.size = xs := List.take_of_length_le (by rw [← Array.length_toList, hi.length]; exact Nat.le_refl _)
        refine upd_loop (b := !w.params.followText "set-order") (Walks.list (by simp [hh]) _ l ne its) nf xs hv hb (its.size - 0) 0 _ (by omega) (Nat.zero_le _) ⟨⟨_, Heap.get?_push_size _ rfl, rfl, rfl⟩, L1.push _⟩ ?S0 ?R0
        case S0 => exact (empt_ss s.heap).keep fun o e => Heap.get?_push_of_some _ e
        case R0 =>
          intro h' tk S' keep
          rw [hx] at S'
          show wpAny _ _ _ _ _ _
          refine wpAny_pure ?_
          show wpAny _ _ (ret Value.none) _ _ _
          refine wpAny_pure ⟨rfl, h', tk, rfl, S', fun c o e => ?_⟩
          have clt := Heap.lt_size e
          refine keep c o ?_ (Heap.get?_push_of_some _ (Heap.get?_push_of_some _ e))
          rw [Heap.size_push]
          intro z
          rcases List.mem_cons.mp z with z | z
          · exact absurd z (Nat.ne_of_lt clt)
          · exact absurd (List.mem_singleton.mp z) (Nat.ne_of_lt (Nat.lt_succ_of_lt clt))
      · cases r2 with
        | error e => exact hr2
        | ok fl2 =>
          cases fl2 with
          | ret r =>
            obtain ⟨rfl, h', tk, rfl, S', keep⟩ := hr2
            repeat (any_goals (first | assumption | wp_step))
            exact h _ _ S' keep
          | next => exact hr2.elim
          | brk => exact hr2.elim
          | cont => exact hr2.elim
    | next => exact hr.elim
    | brk => exact hr.elim
    | cont => exact hr.elim
end
end SSet
namespace SSet
open PySem PySem.Spec PyProof.Rows
def SIter (h : Heap) (it a : Addr) (first : Value) (i n ep : Nat) : Prop := h.get? it = some { cls := .type "set_iterator", dict := none, data := .fields #[first, rawInt i, .ref a, rawInt n, rawInt ep], slots := #[] }
def SObj (h : Heap) (a : Addr) (es : Array (Int × Value)) (ep : Nat) (t : SetTable) : Prop := ∃ o, h.get? a = some o ∧ o.cls = .type "set" ∧ o.data = .set es ep t ∧ t.fits es.size = true
theorem SObj.keep {h h' : Heap} {a : Addr} {es : Array (Int × Value)} {ep : Nat} {t : SetTable} (x : SObj h a es ep t) (k : ∀ o, h.get? a = some o → h'.get? a = some o) : SObj h' a es ep t := by
  obtain ⟨o, ho, r⟩ := x
  exact ⟨o, k _ ho, r⟩
section
variable {prog : Program} {w : World} {A : Around} {E : Value → Shared → Prop} {s : Shared}
theorem SIter.typeIs {it a : Addr} {f : Value} {i n ep : Nat} (h : SIter s.heap it a f i n ep) : s.TypeIs (.ref it) "set_iterator" := ⟨_, h, rfl⟩
end
end SSet
namespace SSet
open PySem PySem.Spec PyProof.Rows
section
variable {prog : Program} {w : World} {A : Around} {E : Value → Shared → Prop} {s : Shared}
end
end SSet
namespace SSet
open PySem PySem.Spec PyProof.Rows
section
variable {prog : Program} {w : World} {A : Around} {E : Value → Shared → Prop} {s : Shared}
end
end SSet
namespace SSet
open PySem PySem.Spec PyProof.Rows PySem.W
section
variable {prog : Program} {w : World} {A : Around} {E : Value → Shared → Prop} {s : Shared}
end
end SSet
namespace L2
open PySem PySem.Spec PyProof.Rows
section
variable {X : Cx}
end
end L2
namespace L2
open PySem PySem.Spec PyProof.Rows
theorem flat_str {x : Str} : ∀ {v : Value}, KTD.flatLooks (.str x) v = true → RelV (.str x) v
  | .str y t, h => ⟨t, by rw [show x = y from beq_iff_eq.mp h]⟩
theorem flats_vals : ∀ {ss : List Str} {vs : List Value}, KTD.flatsLook (ss.map PyData.str) vs = true → Vals (ss.map V.str) vs
  | [], [], _ => .nil
  | x :: ss, v :: vs, h => by
    rw [List.map_cons] at h
    have h' : (KTD.flatLooks (.str x) v && KTD.flatsLook (ss.map PyData.str) vs) = true := h
    rw [Bool.and_eq_true] at h'
    exact .cons (flat_str h'.1) (flats_vals h'.2)
def TupK (K : PySem.W.Frag) (a : Addr) (ss : List Str) : Prop := KTD.datLooks (fun b => K.lookup b) (.tup (ss.map PyData.str)) (.ref a) = true
theorem TupK.sq {K : PySem.W.Frag} {a : Addr} {ss : List Str} (h : TupK K a ss) (hz : ss.length ≤ 1000) (H : Hp) : SqT K H a (ss.map V.str) := by
  unfold TupK KTD.datLooks at h
  simp only at h
  split at h
  · rename_i o ho
    rw [Bool.and_eq_true] at h
    obtain ⟨e1, e2⟩ := h
    split at e2
    · rename_i vs n hd
      have V := flats_vals e2
      have hl := V.length
      refine .inr ⟨o, vs, n, ho, beq_iff_eq.mp e1, hd, ?_, V⟩
      rw [List.length_map] at hl
      have : vs.size = ss.length := by simpa using hl.symm
      rw [this]
      exact Nat.le_trans hz (by decide)
    · cases e2
  · cases h
section
variable {X : Cx} {a : Addr} {D : List (Str × KTD.Dat)}
end
structure Isi (K : PySem.W.Frag) (C : Addr) : Prop where
  ha : PySem.W.findIn K (.ref C) "__class__" = some (some (.builtin "object.__class__"))
  hn : PySem.W.specialIn K (.builtin "object.__class__") "__get__" = some (some (.builtin "getset_descriptor.__get__"))
  ht : PySem.W.takesIn K (.builtin "object.__class__") = some true
  hm : PySem.W.mroIn K C (.type "object") = some true
  oStr : PySem.W.kitOne K (.ref C) (.type "str") = some false
  oInt : PySem.W.kitOne K (.ref C) (.type "int") = some false
  oTup : PySem.W.kitOne K (.ref C) (.type "tuple") = some false
  oLst : PySem.W.kitOne K (.ref C) (.type "list") = some false
  sO : PySem.W.kitOne K (.type "str") (.ref C) = some false
  iO : PySem.W.kitOne K (.type "int") (.ref C) = some false
theorem Isi.self {K : PySem.W.Frag} {C : Addr} (h : Isi K C) : PySem.W.kitOne K (.ref C) (.ref C) = some true := by
  unfold PySem.W.kitOne
  rw [if_pos (by simp)]
theorem Isi.ty {K : PySem.W.Frag} {C a dx : Addr} {fs : List (Str × V)} {H : Hp} (h : Isi K C) (cl : Cls K C) (e : H a = some (.ins C dx fs)) : TyOf K H (.ref a) (.ref C) := .ins e cl h.ha h.hn h.ht h.hm
end L2
namespace L2
open PySem PySem.Spec PyProof.Rows
section
variable {X : Cx}
end
end L2
namespace TSort
open PySem PyProof.Rows
abbrev IL := List Int
section keys
variable (k : Value → IL)
def ka (xs : Array Keyed) (i : Nat) : IL := ((xs[i]?).map fun p => k p.1).getD []
def Up (xs : Array Keyed) (n : Nat) : Prop := ∀ i j, i < j → j < n → ka k xs i < ka k xs j
def Dn (xs : Array Keyed) (n : Nat) : Prop := ∀ i j, i < j → j < n → ka k xs j < ka k xs i
variable {k}
theorem ka_of {xs ys : Array Keyed} {i j : Nat} (e : xs[i]? = ys[j]?) : ka k xs i = ka k ys j := by
  unfold ka
  rw [e]
theorem Up.more {xs : Array Keyed} {n : Nat} (h : Up k xs n) (h1 : 1 ≤ n) (e : ka k xs (n - 1) < ka k xs n) : Up k xs (n + 1) := by
  intro i j a b
  rcases Nat.lt_or_ge j n with c | c
  · exact h i j a c
  · obtain rfl : j = n := by omega
    rcases Nat.lt_or_ge i (j - 1) with d | d
    · exact List.lt_trans (h i (j - 1) d (by omega)) e
    · obtain rfl : i = j - 1 := by omega
      exact e
theorem Dn.more {xs : Array Keyed} {n : Nat} (h : Dn k xs n) (h1 : 1 ≤ n) (e : ka k xs n < ka k xs (n - 1)) : Dn k xs (n + 1) := by
  intro i j a b
  rcases Nat.lt_or_ge j n with c | c
  · exact h i j a c
  · obtain rfl : j = n := by omega
    rcases Nat.lt_or_ge i (j - 1) with d | d
    · exact List.lt_trans e (h i (j - 1) d (by omega))
    · obtain rfl : i = j - 1 := by omega
      exact e
theorem Dn.turn {xs : Array Keyed} {n : Nat} (h : Dn k xs n) (hn : n ≤ xs.size) : Up k (mirror xs 0 n ((n - 0) / 2)) n := by
  intro i j a b
  have e : ∀ m, m < n → ka k (mirror xs 0 n ((n - 0) / 2)) m = ka k xs (0 + n - 1 - m) := fun m hm => by
    have z := getElem?_mirror_all (i := 0) hn m
    rw [if_pos ⟨Nat.zero_le _, hm⟩] at z
    exact ka_of z
  rw [e i (by omega), e j b]
  exact h _ _ (by omega) (by omega)
end keys
structure Ok (a0 : Array Keyed) (kd : SortKind) (st : SortSt) : Prop where
  perm : (arrOf st).Perm a0
  kind : kindOf st = kd
  none : failedOf st = none
  pend : pendingOf st = #[]
theorem Ok.size {a0 : Array Keyed} {kd : SortKind} {st : SortSt} (h : Ok a0 kd st) : (arrOf st).size = a0.size := h.perm.size_eq
theorem Ok.put {a0 : Array Keyed} {kd : SortKind} {st : SortSt} (h : Ok a0 kd st) {xs : Array Keyed} (p : xs.Perm (arrOf st)) : Ok a0 kd (setArr st xs) := ⟨p.trans h.perm, h.kind, h.none, h.pend⟩
section
variable {pr : Program} {wo : World} {Ar : Around} {Ex : Value → Shared → Prop} {sh : Shared} {k : Value → IL} {a0 : Array Keyed} {kd : SortKind}
structure Cmp (pr : Program) (wo : World) (Ar : Around) (Ex : Value → Shared → Prop) (sh : Shared) (k : Value → IL) (a0 : Array Keyed) (kd : SortKind) : Prop where
  lt : ∀ (x y : Keyed) (st : SortSt) (R : Option Bool → SortSt → Prop), kindOf st = kd → x ∈ a0.toList → y ∈ a0.toList → k x.1 ≠ k y.1 → R (some (decide (k x.1 < k y.1))) st → wpS (model pr wo) Ar Ex sh (lt' x y) R st
  un : (a0.toList.map fun p => k p.1).Nodup
theorem Cmp.apart (C : Cmp pr wo Ar Ex sh k a0 kd) {st : SortSt} (G : Ok a0 kd st) {i j : Nat} (hi : i < a0.size) (hj : j < a0.size) (n : i ≠ j) : ka k (arrOf st) i ≠ ka k (arrOf st) j := by
  have p := (Array.perm_iff_toList_perm.mp G.perm).map fun q : Keyed => k q.1
  have u : ((arrOf st).toList.map fun q : Keyed => k q.1).Nodup := p.symm.nodup C.un
  have zi : i < (arrOf st).size := by rw [G.size]; exact hi
  have zj : j < (arrOf st).size := by rw [G.size]; exact hj
  have g := List.pairwise_iff_getElem.mp u
  have ei : ka k (arrOf st) i = k (arrOf st)[i].1 := by unfold ka; rw [Array.getElem?_eq_getElem zi]; rfl
  have ej : ka k (arrOf st) j = k (arrOf st)[j].1 := by unfold ka; rw [Array.getElem?_eq_getElem zj]; rfl
  rw [ei, ej]
  rcases Nat.lt_or_gt_of_ne n with c | c
  · have z := g i j (by simpa using zi) (by simpa using zj) c
    rw [List.getElem_map, List.getElem_map] at z
    exact z
  · have z := g j i (by simpa using zj) (by simpa using zi) c
    rw [List.getElem_map, List.getElem_map] at z
    exact fun e => z e.symm
theorem Cmp.at (C : Cmp pr wo Ar Ex sh k a0 kd) {st : SortSt} (G : Ok a0 kd st) {i j : Nat} (hi : i < a0.size) (hj : j < a0.size) (n : i ≠ j) {R : Option Bool → SortSt → Prop}
    (h : R (some (decide (ka k (arrOf st) i < ka k (arrOf st) j))) st) : wpS (model pr wo) Ar Ex sh (ltAt' i j) R st := by
  have ap := C.apart G hi hj n
  have zi : i < (arrOf st).size := by rw [G.size]; exact hi
  have zj : j < (arrOf st).size := by rw [G.size]; exact hj
  have ei : (arrOf st)[i]? = some (arrOf st)[i] := Array.getElem?_eq_getElem zi
  have ej : (arrOf st)[j]? = some (arrOf st)[j] := Array.getElem?_eq_getElem zj
  have m : ∀ q : Keyed, q ∈ (arrOf st).toList → q ∈ a0.toList := fun q hq => (Array.perm_iff_toList_perm.mp G.perm).mem_iff.mp hq
  rw [ltAt'_eq]
  refine wpS_bind (wpS_get ?_)
  show wpS (model pr wo) Ar Ex sh (elem' (arrOf st) i >>= fun x => elem' (arrOf st) j >>= fun y => lt' x y) R st
  rw [elem'_eq, elem'_eq, ei, ej]
  refine wpS_bind (wpS_pure (wpS_bind (wpS_pure ?_)))
  have ki : ka k (arrOf st) i = k (arrOf st)[i].1 := by unfold ka; rw [ei]; rfl
  have kj : ka k (arrOf st) j = k (arrOf st)[j].1 := by unfold ka; rw [ej]; rfl
  rw [ki, kj] at h ap
  exact C.lt _ _ st R G.kind (m _ (by simp)) (m _ (by simp)) ap h
theorem not_lt {a b : IL} (n : a ≠ b) (h : ¬ a < b) : b < a := by
  rcases Decidable.em (b < a) with c | c
  · exact c
  · exact absurd (List.le_antisymm (List.not_lt.mp c) (List.not_lt.mp h)) n
theorem Cmp.asc (C : Cmp pr wo Ar Ex sh k a0 kd) {st : SortSt} (G : Ok a0 kd st) {a m : Nat} (hm : m ≤ a0.size) (h1 : 1 ≤ a) (h2 : a ≤ m) (u : Up k (arrOf st) a) {R : AscSt → SortSt → Prop}
    (q : ∀ n, a ≤ n → n ≤ m → Up k (arrOf st) n → (n = m ∨ ka k (arrOf st) n < ka k (arrOf st) (n - 1)) → R (none, n) st) : wpS (model pr wo) Ar Ex sh (ascLoop a m) R st := by
  unfold ascLoop
  refine wpS_forRange (I := fun x c z => z = st ∧ c = (none, x) ∧ Up k (arrOf st) x) (fun x c z ax xm I => ?_) (fun c z I => ?_) ⟨rfl, rfl, u⟩
  · obtain ⟨rfl, rfl, v⟩ := I
    dsimp only
    refine wpS_bind (C.at G (by omega) (by omega) (by omega) ?_)
    have ap := C.apart G (i := x) (j := x - 1) (by omega) (by omega) (by omega)
    by_cases c : ka k (arrOf z) x < ka k (arrOf z) (x - 1)
    · rw [decide_eq_true c]
      exact wpS_pure (q x ax (by omega) v (.inr c))
    · rw [decide_eq_false c]
      exact wpS_pure ⟨rfl, rfl, v.more (by omega) (not_lt ap c)⟩
  · obtain ⟨rfl, rfl, v⟩ := I
    rw [show max a m = m by omega] at v ⊢
    exact q m h2 (Nat.le_refl _) v (.inl rfl)
theorem Cmp.last (C : Cmp pr wo Ar Ex sh k a0 kd) {st : SortSt} (G : Ok a0 kd st) {n m : Nat} (hm : m ≤ a0.size) (h1 : 1 ≤ n) (h2 : n ≤ m) (d : Dn k (arrOf st) n) {R : Option Nat → SortSt → Prop}
    (q : ∀ l z, Ok a0 kd z → 1 ≤ l → l ≤ m → Up k (arrOf z) l → R (some l) z) : wpS (model pr wo) Ar Ex sh (tail3 n m) R st := by
  unfold tail3
  refine wpS_bind (wpS_reverse ?_)
  have G' : Ok a0 kd (setArr st (mirror (arrOf st) 0 n ((n - 0) / 2))) := G.put (mirror_perm _ _ _ _)
  exact wpS_bind (C.asc G' hm h1 h2 (d.turn (by rw [G.size]; omega)) fun l a b c _ => wpS_pure (q l _ G' (by omega) b c))
theorem Cmp.desc (C : Cmp pr wo Ar Ex sh k a0 kd) {st : SortSt} (G : Ok a0 kd st) {n m : Nat} (hm : m ≤ a0.size) (h1 : 1 ≤ n) (h2 : n ≤ m) (d : Dn k (arrOf st) n) {R : DescSt → SortSt → Prop}
    (q : ∀ l, n ≤ l → l ≤ m → Dn k (arrOf st) l → R (none, l, 0) st) : wpS (model pr wo) Ar Ex sh (descLoop n m) R st := by
  unfold descLoop
  refine wpS_forRange (I := fun x c z => z = st ∧ c = (none, x, 0) ∧ Dn k (arrOf st) x) (fun x c z ax xm I => ?_) (fun c z I => ?_) ⟨rfl, rfl, d⟩
  · obtain ⟨rfl, rfl, v⟩ := I
    dsimp only
    refine wpS_bind (C.at G (by omega) (by omega) (by omega) ?_)
    have ap := C.apart G (i := x) (j := x - 1) (by omega) (by omega) (by omega)
    by_cases c : ka k (arrOf z) x < ka k (arrOf z) (x - 1)
    · rw [decide_eq_true c]
      exact wpS_pure ⟨rfl, rfl, v.more (by omega) c⟩
    · rw [decide_eq_false c]
      refine wpS_bind (C.at G (by omega) (by omega) (by omega) ?_)
      rw [decide_eq_true (not_lt ap c)]
      exact wpS_pure (q x ax (by omega) v)
  · obtain ⟨rfl, rfl, v⟩ := I
    rw [show max n m = m by omega] at v ⊢
    exact q m h2 (Nat.le_refl _) v
theorem Cmp.part (C : Cmp pr wo Ar Ex sh k a0 kd) {st : SortSt} (G : Ok a0 kd st) {n m : Nat} (hm : m ≤ a0.size) (h2 : n + 1 ≤ m) (d : Dn k (arrOf st) (n + 1)) {R : Option Nat → SortSt → Prop}
    (q : ∀ l z, Ok a0 kd z → 1 ≤ l → l ≤ m → Up k (arrOf z) l → R (some l) z) : wpS (model pr wo) Ar Ex sh (descPart n m) R st := by
  unfold descPart
  refine wpS_bind (wpS_lift (wpAny_rule ⟨rfl, ?_⟩))
  refine wpS_bind (C.desc G hm (by omega) h2 d fun l a b c => ?_)
  exact C.last G hm (by omega) b c q
theorem Cmp.run (C : Cmp pr wo Ar Ex sh k a0 kd) {st : SortSt} (G : Ok a0 kd st) {m : Nat} (hm : m ≤ a0.size) (h1 : 1 ≤ m) {R : Option Nat → SortSt → Prop}
    (q : ∀ l z, Ok a0 kd z → 1 ≤ l → l ≤ m → Up k (arrOf z) l → R (some l) z) : wpS (model pr wo) Ar Ex sh (countRun' 0 m) R st := by
  rw [countRun0_eq]
  refine wpS_bind (C.asc G hm (Nat.le_refl 1) h1 (fun i j a b => by omega) fun n a b c d => ?_)
  dsimp only
  by_cases e : n = m
  · rw [if_pos (by simpa using e)]
    exact wpS_pure (q n st G a b c)
  · rw [if_neg (by simpa using e)]
    have lt := d.resolve_left e
    by_cases g : n > 1
    · rw [if_pos g]
      refine wpS_bind (C.at G (by omega) (by omega) (by omega) ?_)
      rw [decide_eq_true (c 0 (n - 1) (by omega) (by omega))]
      exact wpS_pure (q n st G a b c)
    · rw [if_neg g]
      obtain rfl : n = 1 := by omega
      refine C.part G hm (by omega) (fun i j x y => ?_) q
      obtain rfl : i = 0 := by omega
      obtain rfl : j = 1 := by omega
      exact lt
end
end TSort
namespace TSort
open PySem PyProof.Rows
theorem ka_bubble {k : Value → IL} {xs : Array Keyed} {c l : Nat} (hc : c < xs.size) (hl : l ≤ c) (m : Nat) :
    ka k (bubble xs c (c - l)) m = if m = l then ka k xs c else if l < m ∧ m ≤ c then ka k xs (m - 1) else ka k xs m := by
  have z := getElem?_bubble hc (c - l) (by omega) m
  rw [show c - (c - l) = l by omega] at z
  by_cases a : m = l
  · rw [if_pos a] at z ⊢
    exact ka_of z
  · rw [if_neg a] at z ⊢
    by_cases b : l < m ∧ m ≤ c
    · rw [if_pos b] at z ⊢
      exact ka_of z
    · rw [if_neg b] at z ⊢
      exact ka_of z
theorem Up.put {k : Value → IL} {xs : Array Keyed} {c l : Nat} (h : Up k xs c) (hc : c < xs.size) (hl : l ≤ c) (lo : ∀ i, i < l → ka k xs i < ka k xs c) (hi : ∀ i, l ≤ i → i < c → ka k xs c < ka k xs i) : Up k (bubble xs c (c - l)) (c + 1) := by
  intro i j a b
  rw [ka_bubble hc hl, ka_bubble hc hl]
  by_cases i1 : i = l
  · rw [if_pos i1, if_neg (by omega), if_pos (by omega)]
    exact hi _ (by omega) (by omega)
  · rw [if_neg i1]
    by_cases j1 : j = l
    · rw [if_pos j1, if_neg (by omega)]
      exact lo i (by omega)
    · rw [if_neg j1]
      by_cases i2 : l < i ∧ i ≤ c
      · rw [if_pos i2, if_pos (by omega)]
        exact h _ _ (by omega) (by omega)
      · rw [if_neg i2]
        by_cases j2 : l < j ∧ j ≤ c
        · rw [if_pos j2]
          exact h _ _ (by omega) (by omega)
        · rw [if_neg j2]
          exact h _ _ a (by omega)
section
variable {pr : Program} {wo : World} {Ar : Around} {Ex : Value → Shared → Prop} {sh : Shared} {k : Value → IL} {a0 : Array Keyed} {kd : SortKind}
theorem Cmp.ins (C : Cmp pr wo Ar Ex sh k a0 kd) {st : SortSt} (G : Ok a0 kd st) {n m : Nat} (hn : n ≤ a0.size) (hm : m ≤ n) (u : Up k (arrOf st) m) {R : Bool → SortSt → Prop}
    (q : ∀ z, Ok a0 kd z → Up k (arrOf z) n → R true z) : wpS (model pr wo) Ar Ex sh (binarySort' 0 n m) R st := by
  rw [binarySort'_eq]
  simp only [Nat.zero_add]
  refine wpS_bind (wpS_mono (wpS_forRange (I := fun c o z => o = (none, ()) ∧ Ok a0 kd z ∧ Up k (arrOf z) (min c n)) (Q := fun o z => o = (none, ()) ∧ Ok a0 kd z ∧ Up k (arrOf z) n) (fun c o z mc cn I => ?_) (fun o z I => ?_) ⟨rfl, G, fun i j a b => ?_⟩) fun o z I => ?_)
  · obtain ⟨rfl, G', v⟩ := I
    rw [show min c n = c by omega] at v
    have sz : c < (arrOf z).size := by rw [G'.size]; omega
    refine wpS_bind (wpS_mono (wpS_forRange (I := fun x o y => y = z ∧ ∃ l r, o = (none, l, r) ∧ l ≤ r ∧ r ≤ c ∧ r - l ≤ c - x ∧ (∀ i, i < l → ka k (arrOf z) i < ka k (arrOf z) c) ∧ ∀ i, r ≤ i → i < c → ka k (arrOf z) c < ka k (arrOf z) i)
      (Q := fun o y => y = z ∧ ∃ l r, o = (none, l, r) ∧ l ≤ c ∧ (∀ i, i < l → ka k (arrOf z) i < ka k (arrOf z) c) ∧ ∀ i, l ≤ i → i < c → ka k (arrOf z) c < ka k (arrOf z) i) (fun x o y _ xc J => ?_) (fun o y J => ?_) ⟨rfl, 0, c, rfl, by omega, by omega, by omega, fun i h => by omega, fun i h1 h2 => by omega⟩) fun o y J => ?_)
    · obtain ⟨rfl, l, r, rfl, lr, rc, w, lo, hi⟩ := J
      dsimp only
      by_cases g : l ≥ r
      · rw [if_pos g]
        obtain rfl : l = r := by omega
        exact wpS_pure ⟨rfl, l, l, rfl, rc, lo, hi⟩
      · rw [if_neg g]
        refine wpS_bind (C.at G' (by omega) (by omega) (by omega) ?_)
        have ap := C.apart G' (i := c) (j := (l + r) / 2) (by omega) (by omega) (by omega)
        by_cases d : ka k (arrOf y) c < ka k (arrOf y) ((l + r) / 2)
        · rw [decide_eq_true d]
          refine wpS_pure ⟨rfl, l, (l + r) / 2, rfl, by omega, by omega, by omega, lo, fun i h1 h2 => ?_⟩
          rcases Nat.lt_or_ge ((l + r) / 2) i with e | e
          · exact List.lt_trans d (v _ _ e h2)
          · obtain rfl : i = (l + r) / 2 := by omega
            exact d
        · rw [decide_eq_false d]
          have d' := not_lt ap d
          refine wpS_pure ⟨rfl, (l + r) / 2 + 1, r, rfl, by omega, by omega, by omega, fun i h1 => ?_, hi⟩
          rcases Nat.lt_or_ge i ((l + r) / 2) with e | e
          · exact List.lt_trans (v _ _ e (by omega)) d'
          · obtain rfl : i = (l + r) / 2 := by omega
            exact d'
    · obtain ⟨rfl, l, r, rfl, lr, rc, w, lo, hi⟩ := J
      obtain rfl : l = r := by omega
      exact ⟨rfl, l, l, rfl, rc, lo, hi⟩
    · obtain ⟨rfl, l, r, rfl, lc, lo, hi⟩ := J
      refine wpS_bind (m := moveDown' c l) ?_
      rw [moveDown'_eq]
      refine wpS_modify (wpS_pure ⟨rfl, G'.put (bubble_perm _ _ _), ?_⟩)
      rw [show min (c + 1) n = c + 1 by omega]
      exact v.put sz lc lo hi
  · obtain ⟨rfl, G', v⟩ := I
    rw [show min (max (max m 1) n) n = n by omega] at v
    exact ⟨rfl, G', v⟩
  · exact u i j a (by omega)
  · obtain ⟨rfl, G', v⟩ := I
    exact wpS_pure (q z G' v)
structure Fin (k : Value → IL) (a0 : Array Keyed) (st : SortSt) : Prop where
  perm : (arrOf st).Perm a0
  none : failedOf st = none
  pend : pendingOf st = #[(0, a0.size, 0)]
  up : Up k (arrOf st) a0.size
theorem Ok.fin {st : SortSt} (G : Ok a0 kd st) (u : Up k (arrOf st) a0.size) : Fin k a0 (setPending st ((pendingOf st).push (0, a0.size, 0))) :=
  ⟨G.perm, G.none, by show (pendingOf st).push (0, a0.size, 0) = #[(0, a0.size, 0)]; rw [G.pend]; rfl, u⟩
theorem Cmp.all (C : Cmp pr wo Ar Ex sh k a0 kd) {st : SortSt} (G : Ok a0 kd st) (h2 : 2 ≤ a0.size) (h64 : a0.size < 64) {R : Unit → SortSt → Prop}
    (q : ∀ z, (arrOf z).Perm a0 → failedOf z = none → Up k (arrOf z) a0.size → R () z) : wpS (model pr wo) Ar Ex sh sortRuns' R st := by
  rw [sortRuns'_eq]
  refine wpS_bind (wpS_get ?_)
  dsimp only
  have mr : minRun' a0.size a0.size 0 = a0.size := by
    obtain ⟨f, hf⟩ : ∃ f, a0.size = f + 1 := ⟨a0.size - 1, by omega⟩
    have z : minRun' (f + 1) a0.size 0 = a0.size := by
      rw [minRun'_succ, if_pos h64, Nat.add_zero]
    rw [← hf] at z
    exact z
  simp only [G.size, mr]
  refine wpS_bind (wpS_mono (wpS_forRange (I := fun x o z => (x = 0 ∧ o = (none, 0) ∧ Ok a0 kd z) ∨ (1 ≤ x ∧ o = (none, a0.size) ∧ Fin k a0 z)) (Q := fun o z => o = (none, a0.size) ∧ Fin k a0 z) (fun x o z _ hx I => ?_) (fun o z I => ?_) (.inl ⟨rfl, rfl, G⟩)) fun o z I => ?_)
  · rcases I with ⟨rfl, rfl, G'⟩ | ⟨x1, rfl, D⟩
    · dsimp only
      rw [if_neg (by omega)]
      simp only [Nat.sub_zero, Nat.min_self, Nat.zero_add]
      refine wpS_bind (C.run G' (Nat.le_refl _) (by omega) fun l y Gy l1 l2 uy => ?_)
      dsimp only
      by_cases lt : l < a0.size
      · rw [if_pos lt]
        refine wpS_bind (wpS_lift (wpAny_rule ⟨rfl, ?_⟩))
        refine wpS_bind (C.ins Gy (Nat.le_refl _) l2 uy fun v Gv uv => ?_)
        simp only [Bool.not_true, Bool.false_eq_true, if_false]
        refine wpS_bind (wpS_get ?_)
        rw [show (pendingOf v).back? = none by rw [Gv.pend]; rfl]
        exact wpS_bind (wpS_modify (wpS_pure (.inr ⟨by omega, rfl, Gv.fin uv⟩)))
      · rw [if_neg lt]
        obtain rfl : l = a0.size := by omega
        refine wpS_bind (wpS_get ?_)
        rw [show (pendingOf y).back? = none by rw [Gy.pend]; rfl]
        exact wpS_bind (wpS_modify (wpS_pure (.inr ⟨by omega, rfl, Gy.fin uy⟩)))
    · dsimp only
      rw [if_pos (Nat.le_refl _)]
      exact wpS_pure ⟨rfl, D⟩
  · rcases I with ⟨hx, _, _⟩ | ⟨_, ho, D⟩
    · omega
    · exact ⟨ho, D⟩
  · obtain ⟨rfl, D⟩ := I
    dsimp only
    refine wpS_bind (wpS_mono (wpS_forRange (I := fun _ o y => y = z ∧ o = (none, ())) (Q := fun o y => y = z ∧ o = (none, ())) (fun x o y _ _ J => ?_) (fun _ _ J => J) ⟨rfl, rfl⟩) fun o y J => ?_)
    · obtain ⟨rfl, rfl⟩ := J
      refine wpS_bind (wpS_get ?_)
      rw [if_pos (by rw [D.pend]; exact Nat.le_refl 1)]
      exact wpS_pure ⟨rfl, rfl⟩
    · obtain ⟨rfl, rfl⟩ := J
      exact wpS_pure (q _ D.perm D.none D.up)
end
end TSort
namespace TSort
open PySem PyProof.Rows
def TupI (h : Heap) (a : Addr) (ks : IL) : Prop := ∃ (o : Obj) (its : Array Value) (n : Nat) (us rest : List Value), h.get? a = some o ∧ o.cls = .type "tuple" ∧ o.data = .seq its n ∧ its.toList = us ++ rest ∧ IntsAre us ks
theorem TupI.keep {h h' : Heap} {a : Addr} {ks : IL} (t : TupI h a ks) (e : ∀ o, h.get? a = some o → h'.get? a = some o) : TupI h' a ks := by
  obtain ⟨o, its, n, us, rest, h1, h2⟩ := t
  exact ⟨o, its, n, us, rest, e _ h1, h2⟩
def kf (f : Addr → IL) : Value → IL
  | .ref a => f a
  | _ => []
section
variable {pr : Program} {wo : World} {Ar : Around} {Ex : Value → Shared → Prop} {sh : Shared}
end
end TSort
namespace TSort
open PySem PyProof.Rows
section
variable {pr : Program} {wo : World} {Ar : Around} {Ex : Value → Shared → Prop} {sh : Shared}
end
end TSort
namespace L2
open PySem PyProof.Rows
section
variable {X : Cx}
end
end L2
namespace L2
open PySem PyProof.Rows
section
variable {pr : Program} {wo : World} {Ar : Around} {Ex : Value → Shared → Prop}
end
section
variable {X : Cx}
end
end L2
namespace L2
open PySem PyProof.Rows
section
variable {X : Cx}
inductive TyB (K : PySem.W.Frag) (H : Hp) : V → Value → Prop where
  | non : TyB K H .non (.type "NoneType")
  | bl (x : Bool) : TyB K H (.bl x) (.type "bool")
  | int (i : Int) : TyB K H (.int i) (.type "int")
  | str (x : Str) : TyB K H (.str x) (.type "str")
  | lst {a : Addr} {xs : List V} (e : SqL K H a xs) : TyB K H (.ref a) (.type "list")
  | tup {a : Addr} {xs : List V} (e : SqT K H a xs) : TyB K H (.ref a) (.type "tuple")
end
end L2
namespace L2
open PySem PySem.Spec PyProof.Rows
section
variable {κ : Type} [DecidableEq κ]
def valV (kvs : List (κ × V)) (k : κ) : Option V := (kvs.find? fun kv => decide (kv.1 = k)).map (·.2)
def putK (kvs : List (κ × V)) (k : κ) (v : V) : List (κ × V) :=
  if (kvs.any fun kv => decide (kv.1 = k)) = true then kvs.map (fun kv => if kv.1 = k then (kv.1, v) else kv) else kvs ++ [(k, v)]
def dropK (kvs : List (κ × V)) (k : κ) : List (κ × V) := kvs.filter fun kv => decide (kv.1 ≠ k)
theorem valV_pos {p : κ × V} {r : List (κ × V)} {k : κ} (e : p.1 = k) : valV (p :: r) k = some p.2 := by simp [valV, List.find?_cons, e]
theorem valV_neg {p : κ × V} {r : List (κ × V)} {k : κ} (e : ¬ p.1 = k) : valV (p :: r) k = valV r k := by simp [valV, List.find?_cons, e]
theorem valV_any (k : κ) : ∀ kvs : List (κ × V), (kvs.any fun kv => decide (kv.1 = k)) = (valV kvs k).isSome
  | [] => rfl
  | p :: r => by
    rw [List.any_cons]
    by_cases e : p.1 = k
    · simp only [valV_pos e, decide_eq_true e, Bool.true_or, Option.isSome_some]
    · rw [valV_neg e, decide_eq_false e, Bool.false_or]; exact valV_any k r
theorem RelO.isSome_eq {o : Option V} {u : Option Value} (r : RelO o u) : o.isSome = u.isSome := by
  cases o with
  | none => cases u with
    | none => rfl
    | some _ => exact (show False from r).elim
  | some _ => cases u with
    | none => exact (show False from r).elim
    | some _ => rfl
theorem RelO.getD {o : Option V} {u : Option Value} {d : V} {d' : Value} (r : RelO o u) (rd : RelV d d') : RelV (o.getD d) (u.getD d') := by
  cases o with
  | none => cases u with
    | none => exact rd
    | some _ => exact (show False from r).elim
  | some _ => cases u with
    | none => exact (show False from r).elim
    | some _ => exact r
theorem KV.val {kvs : List (κ × V)} {vs : List (κ × Value)} (r : KV kvs vs) (k : κ) : RelO (valV kvs k) (valueAt vs k) := by
  unfold KV at r
  induction r with
  | nil => exact True.intro
  | @cons p q ps qs h t ih =>
    obtain ⟨h1, h2⟩ := h
    by_cases e : p.1 = k
    · have e' : q.1 = k := h1.symm.trans e
      have b : valueAt (q :: qs) k = some q.2 := by simp [valueAt, List.find?_cons, e']
      rw [valV_pos e, b]; exact h2
    · have e' : ¬ q.1 = k := fun z => e (h1.trans z)
      have b : valueAt (q :: qs) k = valueAt qs k := by simp [valueAt, List.find?_cons, e']
      rw [valV_neg e, b]; exact ih
theorem KV.any {kvs : List (κ × V)} {vs : List (κ × Value)} (r : KV kvs vs) (k : κ) : (kvs.any fun kv => decide (kv.1 = k)) = vs.any fun kv => decide (kv.1 = k) := by
  unfold KV at r
  induction r with
  | nil => rfl
  | cons h t ih => rw [List.any_cons, List.any_cons, ih, h.1]
theorem KV.repl {kvs : List (κ × V)} {vs : List (κ × Value)} (r : KV kvs vs) (k : κ) {y : V} {u : Value} (ry : RelV y u) :
    KV (kvs.map fun kv => if kv.1 = k then (kv.1, y) else kv) (vs.map fun kv => if kv.1 = k then (kv.1, u) else kv) := by
  unfold KV at r ⊢
  induction r with
  | nil => exact .nil
  | @cons p q ps qs h t ih =>
    rw [List.map_cons, List.map_cons]
    refine .cons ?_ ih
    obtain ⟨h1, h2⟩ := h
    by_cases e : p.1 = k
    · rw [if_pos e, if_pos (h1.symm.trans e)]; exact ⟨h1, ry⟩
    · rw [if_neg e, if_neg (fun z => e (h1.trans z))]; exact ⟨h1, h2⟩
theorem KV.put {kvs : List (κ × V)} {vs : List (κ × Value)} (r : KV kvs vs) (k : κ) {y : V} {u : Value} (ry : RelV y u) : KV (putK kvs k y) (stored vs k u) := by
  unfold putK stored
  rw [r.any k]
  by_cases e : (vs.any fun kv => decide (kv.1 = k)) = true
  · rw [if_pos e, if_pos e]; exact r.repl k ry
  · rw [if_neg e, if_neg e]; exact Paired.snoc r ⟨rfl, ry⟩
theorem KV.drop {kvs : List (κ × V)} {vs : List (κ × Value)} (r : KV kvs vs) (k : κ) : KV (dropK kvs k) (without vs k) := by
  unfold KV at r ⊢
  unfold dropK without
  induction r with
  | nil => exact .nil
  | @cons p q ps qs h t ih =>
    obtain ⟨h1, h2⟩ := h
    rw [List.filter_cons, List.filter_cons]
    by_cases e : p.1 = k
    · have a : ¬ decide (p.1 ≠ k) = true := by simp [e]
      have b : ¬ decide (q.1 ≠ k) = true := by simp [h1.symm.trans e]
      rw [if_neg a, if_neg b]; exact ih
    · have e' : ¬ q.1 = k := fun z => e (h1.trans z)
      have a : decide (p.1 ≠ k) = true := by simp [e]
      have b : decide (q.1 ≠ k) = true := by simp [e']
      rw [if_pos a, if_pos b]; exact .cons ⟨h1, h2⟩ ih
theorem KV.keys {kvs : List (κ × V)} {vs : List (κ × Value)} (r : KV kvs vs) : kvs.map (·.1) = vs.map (·.1) := by
  unfold KV at r
  induction r with
  | nil => rfl
  | cons h t ih => rw [List.map_cons, List.map_cons, ih, h.1]
theorem KV.length {kvs : List (κ × V)} {vs : List (κ × Value)} (r : KV kvs vs) : kvs.length = vs.length := Paired.length r
end
abbrev KT (H : Hp) : List (List Key × V) → List (List Key × Addr × Value) → Prop := Paired fun p q => p.1 = q.1 ∧ H q.2.1 = some (.tup (p.1.map kV)) ∧ RelV p.2 q.2.2
theorem KT.val {H : Hp} {kvs : List (List Key × V)} {xs : List (List Key × Addr × Value)} (r : KT H kvs xs) (k : List Key) : RelO (valV kvs k) ((atKey xs k).map (·.2)) := by
  induction r with
  | nil => exact True.intro
  | @cons p q ps qs h t ih =>
    obtain ⟨h1, _, h2⟩ := h
    by_cases e : p.1 = k
    · have e' : q.1 = k := h1.symm.trans e
      have b : atKey (q :: qs) k = some q.2 := by simp [atKey, List.find?_cons, e']
      rw [valV_pos e, b]; exact h2
    · have e' : ¬ q.1 = k := fun z => e (h1.trans z)
      have b : atKey (q :: qs) k = atKey qs k := by simp [atKey, List.find?_cons, e']
      rw [valV_neg e, b]; exact ih
theorem KT.repl {H : Hp} {kvs : List (List Key × V)} {xs : List (List Key × Addr × Value)} (r : KT H kvs xs) (k : List Key) {y : V} {u : Value} (ry : RelV y u) :
    KT H (kvs.map fun kv => if kv.1 = k then (kv.1, y) else kv) (xs.map (putAt k u)) := by
  induction r with
  | nil => exact .nil
  | @cons p q ps qs h t ih =>
    rw [List.map_cons, List.map_cons]
    refine .cons ?_ ih
    obtain ⟨h1, h2, h3⟩ := h
    unfold putAt
    by_cases e : p.1 = k
    · rw [if_pos e, if_pos (h1.symm.trans e)]; exact ⟨h1, h2, ry⟩
    · rw [if_neg e, if_neg (fun z => e (h1.trans z))]; exact ⟨h1, h2, h3⟩
theorem KT.put {H : Hp} {kvs : List (List Key × V)} {xs : List (List Key × Addr × Value)} (r : KT H kvs xs) (k : List Key) {b : Addr} {y : V} {u : Value} (hb : H b = some (.tup (k.map kV))) (ry : RelV y u) :
    KT H (putK kvs k y) (storedH xs k b u) := by
  have e : (kvs.any fun kv => decide (kv.1 = k)) = (atKey xs k).isSome := by
    rw [valV_any, (r.val k).isSome_eq, Option.isSome_map]
  unfold putK storedH
  rw [e]
  by_cases q : (atKey xs k).isSome = true
  · rw [if_pos q, if_pos q]; exact r.repl k ry
  · rw [if_neg q, if_neg q]; exact Paired.snoc r ⟨rfl, hb, ry⟩
theorem KT.keeps {H H' : Hp} {kvs : List (List Key × V)} {xs : List (List Key × Addr × Value)} (r : KT H kvs xs) (ht : ∀ b ys, H b = some (.tup ys) → H' b = some (.tup ys)) : KT H' kvs xs :=
  Paired.mapP r fun _ _ z => ⟨z.1, ht _ _ z.2.1, z.2.2⟩
section
variable {P : Program} {w : World} {H : Hp} {h : Heap} {a : Addr}
end
def DGet (H : Hp) (a : Addr) (y : V) (r : Option V) : Prop :=
  (∃ kvs k, Rd H a (.dK kvs) ∧ y = kV k ∧ r = valV kvs k) ∨ ∃ kvs k b, Rd H a (.dT kvs) ∧ y = .ref b ∧ H b = some (.tup (k.map kV)) ∧ r = valV kvs k
def DPut (H : Hp) (a : Addr) (y v : V) (H' : Hp) : Prop :=
  (∃ kvs k, H a = some (.dK kvs) ∧ y = kV k ∧ kvs.length < sizeLine ∧ H' = upd H a (.dK (putK kvs k v))) ∨
  ∃ kvs k b, H a = some (.dT kvs) ∧ y = .ref b ∧ H b = some (.tup (k.map kV)) ∧ kvs.length < sizeLine ∧ H' = upd H a (.dT (putK kvs k v))
theorem DGet.k {H : Hp} {a : Addr} {kvs : List (Key × V)} {k : Key} (e : H a = some (.dK kvs)) : DGet H a (kV k) (valV kvs k) := .inl ⟨kvs, k, .inl e, rfl, rfl⟩
theorem DGet.t {H : Hp} {a b : Addr} {kvs : List (List Key × V)} {k : List Key} (e : H a = some (.dT kvs)) (eb : H b = some (.tup (k.map kV))) : DGet H a (.ref b) (valV kvs k) := .inr ⟨kvs, k, b, .inl e, rfl, eb, rfl⟩
theorem DPut.k {H : Hp} {a : Addr} {kvs : List (Key × V)} {k : Key} {v : V} (e : H a = some (.dK kvs)) (hl : kvs.length < sizeLine) : DPut H a (kV k) v (upd H a (.dK (putK kvs k v))) := .inl ⟨kvs, k, e, rfl, hl, rfl⟩
theorem DPut.t {H : Hp} {a b : Addr} {kvs : List (List Key × V)} {k : List Key} {v : V} (e : H a = some (.dT kvs)) (eb : H b = some (.tup (k.map kV))) (hl : kvs.length < sizeLine) :
    DPut H a (.ref b) v (upd H a (.dT (putK kvs k v))) := .inr ⟨kvs, k, b, e, rfl, eb, hl, rfl⟩
section
variable {X : Cx} {pins : List (Addr × Obj)} {σ : St} {H : Hp} {s : Shared} {a : Addr} {y v : V} {u r : Value} {o : Option V} {A : Around} {E : Value → Shared → Prop}
theorem Inv.big (I : Inv X pins σ H s) : sysModules < s.heap.objs.size := by
  have h : mainGlobals < s.heap.objs.size := (I.mod.glob.keeps I.bk).lt
  exact Nat.lt_trans (by decide) h
end
section
variable {X : Cx} {pins : List (Addr × Obj)} {σ : St} {H : Hp} {s : Shared} {a : Addr} {kvs : List (Key × V)} {k : Key} {u : Value} {A : Around} {E : Value → Shared → Prop}
end
section
variable {X : Cx} {o i e value : Expr} {pos pos' tpos : Pos} {td ty tv : TE}
end
section
variable {X : Cx} {pos : Pos}
end
structure M1 (X : Cx) (o : Expr) (m : Str) (apos : Pos) (e : Expr) (cpos : Pos) : Prop where
  base : attributeBase o m X.env (eval o X.env) = eval o X.env
  few : ((backTo cpos (starEach [e] X.env)).all (fun x => !x.1) && (backToKw cpos (keywordEach [] X.env)).all (fun x => x.1.isSome)
    && decide (([e] : List Expr).length + ([] : List Keyword).length + (if ([] : List Keyword).isEmpty then 0 else 1) < 30)) = true
  line : (apos.endLine == cpos.line) = true
  trees : backTo cpos (starEach [e] X.env) = [(false, eval e X.env)]
structure M2 (X : Cx) (o : Expr) (m : Str) (apos : Pos) (e f : Expr) (cpos : Pos) : Prop where
  base : attributeBase o m X.env (eval o X.env) = eval o X.env
  few : ((backTo cpos (starEach [e, f] X.env)).all (fun x => !x.1) && (backToKw cpos (keywordEach [] X.env)).all (fun x => x.1.isSome)
    && decide (([e, f] : List Expr).length + ([] : List Keyword).length + (if ([] : List Keyword).isEmpty then 0 else 1) < 30)) = true
  line : (apos.endLine == cpos.line) = true
  trees : backTo cpos (starEach [e, f] X.env) = [(false, eval e X.env), (false, eval f X.env)]
section
variable {X : Cx} {pins : List (Addr × Obj)} {σ : St} {H : Hp} {s : Shared} {a : Addr} {y d : V} {u r : Value} {o : Option V} {A : Around} {E : Value → Shared → Prop}
end
section
variable {X : Cx} {o e f : Expr} {apos cpos : Pos} {td ty tx : TE}
end
section
variable {X : Cx} {pins : List (Addr × Obj)} {σ : St} {H : Hp} {s : Shared} {a : Addr} {kvs : List (Key × V)} {A : Around} {E : Value → Shared → Prop}
end
section
variable {X : Cx} {pins : List (Addr × Obj)} {σ : St} {H : Hp} {s : Shared} {a : Addr} {y : V} {u : Value} {A : Around} {E : Value → Shared → Prop}
end
end L2
namespace L2
open PySem PyProof.Rows
section
variable {pr : Program} {wo : World} {Ar : Around} {Ex : Value → Shared → Prop} {sh : Shared}
end
section
variable {X : Cx} {pins : List (Addr × Obj)} {σ : St} {H : Hp} {s : Shared} {h' : Heap}
end
section
variable {X : Cx}
end
end L2
namespace L2
open PySem PyProof.Rows
section
variable {X : Cx} {e st : Expr} {te ts : TE} {p2 pos : Pos}
end
end L2
namespace Wm
open PySem
theorem cut_inj {c : Nat} : ∀ {x y a b : List Nat}, c ∉ x → c ∉ y → x ++ c :: a = y ++ c :: b → x = y ∧ a = b
  | [], [], a, b, _, _, h => ⟨rfl, by simpa using h⟩
  | [], y :: ys, a, b, _, hy, h => by
    exfalso
    simp only [List.nil_append, List.cons_append, List.cons.injEq] at h
    exact hy (by rw [← h.1]; exact List.mem_cons_self)
  | x :: xs, [], a, b, hx, _, h => by
    exfalso
    simp only [List.nil_append, List.cons_append, List.cons.injEq] at h
    exact hx (by rw [h.1]; exact List.mem_cons_self)
  | x :: xs, y :: ys, a, b, hx, hy, h => by
    simp only [List.cons_append, List.cons.injEq] at h
    obtain ⟨h1, h2⟩ := h
    obtain ⟨e1, e2⟩ := cut_inj (fun z => hx (List.mem_cons_of_mem _ z)) (fun z => hy (List.mem_cons_of_mem _ z)) h2
    exact ⟨by rw [h1, e1], e2⟩
def jl (c : Nat) : List (List Nat) → List Nat
  | [] => []
  | [x] => x
  | x :: y :: r => x ++ c :: jl c (y :: r)
theorem jl_inj {c : Nat} : ∀ {xs ys : List (List Nat)}, xs ≠ [] → ys ≠ [] → (∀ x ∈ xs, c ∉ x) → (∀ y ∈ ys, c ∉ y) → jl c xs = jl c ys → xs = ys
  | [], _, h, _, _, _, _ => absurd rfl h
  | _, [], _, h, _, _, _ => absurd rfl h
  | [x], [y], _, _, _, _, h => by
    have h' : x = y := h
    rw [h']
  | [x], y :: z :: r, _, _, hx, _, h => by
    exfalso
    have h' : x = y ++ c :: jl c (z :: r) := h
    exact hx x List.mem_cons_self (by rw [h']; simp)
  | x :: z :: r, [y], _, _, _, hy, h => by
    exfalso
    have h' : x ++ c :: jl c (z :: r) = y := h
    exact hy y List.mem_cons_self (by rw [← h']; simp)
  | x :: z :: r, y :: z' :: r', _, _, hx, hy, h => by
    have h' : x ++ c :: jl c (z :: r) = y ++ c :: jl c (z' :: r') := h
    obtain ⟨e1, e2⟩ := cut_inj (hx x List.mem_cons_self) (hy y List.mem_cons_self) h'
    rw [e1, jl_inj (by simp) (by simp) (fun q hq => hx q (List.mem_cons_of_mem _ hq)) (fun q hq => hy q (List.mem_cons_of_mem _ hq)) e2]
theorem join_toList (c : Nat) : ∀ ws : List Str, (Str.join ⟨#[c]⟩ ws).cps.toList = jl c (ws.map fun w => w.cps.toList)
  | [] => rfl
  | [x] => rfl
  | x :: y :: r => by
    have ih := join_toList c (y :: r)
    show (x ++ (⟨#[c]⟩ : Str) ++ Str.join ⟨#[c]⟩ (y :: r)).cps.toList = x.cps.toList ++ c :: jl c ((y :: r).map fun w => w.cps.toList)
    rw [← ih]
    show ((x.cps ++ #[c]) ++ (Str.join ⟨#[c]⟩ (y :: r)).cps).toList = _
    simp
theorem toList_inj {xs ys : List Str} (h : (xs.map fun w => w.cps.toList) = (ys.map fun w => w.cps.toList)) : xs = ys := by
  induction xs generalizing ys with
  | nil => cases ys with
    | nil => rfl
    | cons y r => simp at h
  | cons x r ih => cases ys with
    | nil => simp at h
    | cons y s =>
      simp only [List.map_cons, List.cons.injEq] at h
      have e : x = y := by
        obtain ⟨a⟩ := x
        obtain ⟨b⟩ := y
        have h1 : a.toList = b.toList := h.1
        rw [Array.toList_inj.mp h1]
      rw [e, ih h.2]
theorem split_ne (x y : Str) : Txt.split x y ≠ [] := by
  unfold Txt.split
  split
  · simp
  · split
    · simp
    · unfold Builtin.Str.partsBetween
      cases Builtin.Str.occurrences x y 0 x.length (x.length + 1) <;> simp
theorem split_join {c : Nat} {ws : List Str} (hne : ws ≠ []) (hf : ∀ w ∈ ws, c ∉ w.cps.toList) : Txt.split (Str.join ⟨#[c]⟩ ws) ⟨#[c]⟩ = ws := by
  refine toList_inj (jl_inj (c := c) (by simpa using split_ne _ _) (by simpa using hne) (fun x hx => ?_) (fun x hx => ?_) ?_)
  · obtain ⟨w, hw, rfl⟩ := List.mem_map.mp hx
    exact StrLaws.split_free _ c w hw
  · obtain ⟨w, hw, rfl⟩ := List.mem_map.mp hx
    exact hf w hw
  · rw [← join_toList, ← join_toList, StrLaws.join_split]
theorem join_len (s : Str) : ∀ ws : List Str, (Str.join s ws).length ≤ (ws.map (·.length)).sum + ws.length * s.length
  | [] => Nat.zero_le _
  | [x] => by
    show x.length ≤ _
    simp only [List.map_cons, List.map_nil, List.sum_cons, List.sum_nil, List.length_singleton]
    omega
  | x :: y :: r => by
    have ih := join_len s (y :: r)
    show (x ++ s ++ Str.join s (y :: r)).length ≤ _
    rw [Str.length_append, Str.length_append]
    simp only [List.map_cons, List.sum_cons, List.length_cons, Nat.add_mul, Nat.one_mul] at ih ⊢
    omega
theorem join_cons (s x : Str) {r : List Str} (h : r ≠ []) : Str.join s (x :: r) = x ++ s ++ Str.join s r := by
  cases r with
  | nil => exact absurd rfl h
  | cons y r => rfl
theorem join_app (s : Str) : ∀ {xs ys : List Str}, xs ≠ [] → ys ≠ [] → Str.join s (xs ++ ys) = Str.join s xs ++ s ++ Str.join s ys
  | [], _, h, _ => absurd rfl h
  | [x], ys, _, h => by rw [List.singleton_append, join_cons s x h]; rfl
  | x :: y :: r, ys, _, h => by
    have ih := join_app s (xs := y :: r) (by simp) h
    rw [List.cons_append, join_cons s x (by simp), ih, join_cons s x (by simp)]
    simp only [Str.append_assoc]
theorem join_flat (s : Str) : ∀ {xss : List (List Str)}, (∀ xs ∈ xss, xs ≠ []) → Str.join s (xss.map (Str.join s)) = Str.join s xss.flatten
  | [], _ => rfl
  | [xs], _ => by simp [Str.join]
  | xs :: ys :: r, h => by
    have ih := join_flat s (xss := ys :: r) (fun q hq => h q (List.mem_cons_of_mem _ hq))
    have hx := h xs List.mem_cons_self
    have hy := h ys (List.mem_cons_of_mem _ List.mem_cons_self)
    have ne : (ys :: r).flatten ≠ [] := by
      rw [List.flatten_cons]
      intro z
      exact hy (List.append_eq_nil_iff.mp z).1
    rw [List.map_cons, join_cons s _ (by simp), ih, List.flatten_cons (l := xs), join_app s hx ne]
inductive Wh where
  | all | self | mine | mark (n : Str) | force (i : Nat) | not (a : Wh) | both (a b : Wh) | any (a b : Wh)
def Wh.word : Wh → Str
  | .all => "all"
  | .self => "self"
  | .mine => "mine"
  | .mark _ => "mark"
  | .force _ => "force"
  | .not _ => "not"
  | .both _ _ => "both"
  | .any _ _ => "any"
inductive Wv where
  | non | name (n : Str) | num (i : Nat)
def Wh.val : Wh → Wv
  | .mark n => .name n
  | .force i => .num i
  | _ => .non
def Wh.parts : Wh → List Wh
  | .not a => [a]
  | .both a b => [a, b]
  | .any a b => [a, b]
  | _ => []
def Wv.words : Wv → List Str
  | .non => []
  | .name n => [n]
  | .num i => [toString (i : Int)]
def Wh.words : Wh → List Str
  | .all => ["all"]
  | .self => ["self"]
  | .mine => ["mine"]
  | .mark n => ["mark", n]
  | .force i => ["force", toString (i : Int)]
  | .not a => "not" :: a.words
  | .both a b => "both" :: (a.words ++ b.words)
  | .any a b => "any" :: (a.words ++ b.words)
def Wh.size : Wh → Nat
  | .not a => a.size + 1
  | .both a b => a.size + b.size + 1
  | .any a b => a.size + b.size + 1
  | _ => 1
theorem Wh.words_eq (w : Wh) : w.words = w.word :: (w.val.words ++ (w.parts.map Wh.words).flatten) := by
  cases w <;> simp [Wh.words, Wh.word, Wh.val, Wv.words, Wh.parts]
theorem Wh.words_ne (w : Wh) : w.words ≠ [] := by
  rw [w.words_eq]
  simp
theorem Wh.size_eq (w : Wh) : w.size = 1 + (w.parts.map Wh.size).sum := by
  cases w <;> simp [Wh.size, Wh.parts] <;> omega
theorem Wh.size_pos (w : Wh) : 0 < w.size := by
  rw [w.size_eq]
  omega
def Wh.flat : Wh → List (Str × Wv)
  | .not a => ("not", .non) :: a.flat
  | .both a b => ("both", .non) :: (a.flat ++ b.flat)
  | .any a b => ("any", .non) :: (a.flat ++ b.flat)
  | w => [(w.word, w.val)]
theorem Wh.flat_eq (w : Wh) : w.flat = (w.word, w.val) :: (w.parts.map Wh.flat).flatten := by
  cases w <;> simp [Wh.flat, Wh.word, Wh.val, Wh.parts]
theorem Wh.flat_len (w : Wh) : w.flat.length = w.size := by
  induction w <;> simp [Wh.flat, Wh.size, *]
def flatF (ws : List Wh) : List (Str × Wv) := (ws.map Wh.flat).flatten
def wordsF (ws : List Wh) : List Str := (ws.map Wh.words).flatten
def sizeF (ws : List Wh) : Nat := (ws.map Wh.size).sum
theorem flatF_cons (w : Wh) (ws : List Wh) : flatF (w :: ws) = (w.word, w.val) :: flatF (w.parts ++ ws) := by
  unfold flatF
  rw [List.map_cons, List.flatten_cons, w.flat_eq, List.map_append, List.flatten_append]
  rfl
theorem wordsF_cons (w : Wh) (ws : List Wh) : wordsF (w :: ws) = w.word :: (w.val.words ++ wordsF (w.parts ++ ws)) := by
  unfold wordsF
  rw [List.map_cons, List.flatten_cons, w.words_eq, List.map_append, List.flatten_append]
  simp
theorem sizeF_cons (w : Wh) (ws : List Wh) : sizeF (w :: ws) = 1 + sizeF (w.parts ++ ws) := by
  unfold sizeF
  rw [List.map_cons, List.sum_cons, w.size_eq, List.map_append, List.sum_append]
  omega
theorem sizeF_pos {ws : List Wh} (h : ws ≠ []) : 0 < sizeF ws := by
  cases ws with
  | nil => exact absurd rfl h
  | cons w r => rw [sizeF_cons]; omega
def NameOk (n : Str) : Prop := 1 ≤ n.length ∧ n.length ≤ 8 ∧ ∀ c ∈ n.cps.toList, 97 ≤ c ∧ c ≤ 122
def Wh.ok : Wh → Prop
  | .mark n => NameOk n
  | .force i => i < 1000
  | .not a => a.ok
  | .both a b => a.ok ∧ b.ok
  | .any a b => a.ok ∧ b.ok
  | _ => True
theorem Wh.ok_parts {w : Wh} (h : w.ok) : ∀ p ∈ w.parts, p.ok := by
  cases w with
  | not a =>
    intro p hp
    have e : p = a := by simpa [Wh.parts] using hp
    rw [e]; exact h
  | both a b =>
    intro p hp
    have e : p = a ∨ p = b := by simpa [Wh.parts] using hp
    rcases e with e | e <;> rw [e]
    · exact h.1
    · exact h.2
  | any a b =>
    intro p hp
    have e : p = a ∨ p = b := by simpa [Wh.parts] using hp
    rcases e with e | e <;> rw [e]
    · exact h.1
    · exact h.2
  | _ => intro p hp; simp [Wh.parts] at hp
theorem num_plain : ∀ i : Nat, i < 1000 → ∀ c ∈ (toString (i : Int) : Str).cps.toList, 48 ≤ c ∧ c ≤ 57 := by decide +kernel
theorem num_len : ∀ i : Nat, i < 1000 → 1 ≤ (toString (i : Int) : Str).length ∧ (toString (i : Int) : Str).length ≤ 3 := by decide +kernel
def WordOk (u : Str) : Prop := 32 ∉ u.cps.toList ∧ 1 ≤ u.length ∧ u.length ≤ 8
theorem name_word {n : Str} (h : NameOk n) : WordOk n := ⟨fun z => absurd (h.2.2 32 z).1 (by decide), h.1, h.2.1⟩
theorem num_word {i : Nat} (h : i < 1000) : WordOk (toString (i : Int) : Str) := by
  have q := num_len i h
  exact ⟨fun z => absurd (num_plain i h 32 z).1 (by decide), q.1, by omega⟩
theorem Wh.word_ok (w : Wh) : WordOk w.word := by
  have h : ∀ u ∈ (["all", "self", "mine", "mark", "force", "not", "both", "any"] : List Str), 32 ∉ u.cps.toList ∧ 1 ≤ u.length ∧ u.length ≤ 8 := by decide +kernel
  refine h _ ?_
  cases w <;> simp [Wh.word]
theorem Wh.words_ok {w : Wh} (h : w.ok) : ∀ u ∈ w.words, WordOk u := by
  induction w with
  | not a ih =>
    intro u hu
    rcases List.mem_cons.mp hu with e | e
    · rw [e]; exact Wh.word_ok (.not a)
    · exact ih h u e
  | both a b iha ihb =>
    intro u hu
    rcases List.mem_cons.mp hu with e | e
    · rw [e]; exact Wh.word_ok (.both a b)
    · rcases List.mem_append.mp e with e | e
      · exact iha h.1 u e
      · exact ihb h.2 u e
  | any a b iha ihb =>
    intro u hu
    rcases List.mem_cons.mp hu with e | e
    · rw [e]; exact Wh.word_ok (.any a b)
    · rcases List.mem_append.mp e with e | e
      · exact iha h.1 u e
      · exact ihb h.2 u e
  | mark n =>
    intro u hu
    have e : u = "mark" ∨ u = n := by simpa [Wh.words] using hu
    rcases e with e | e <;> rw [e]
    · exact Wh.word_ok (.mark n)
    · exact name_word h
  | force i =>
    intro u hu
    have e : u = "force" ∨ u = toString (i : Int) := by simpa [Wh.words] using hu
    rcases e with e | e <;> rw [e]
    · exact Wh.word_ok (.force i)
    · exact num_word h
  | all => intro u hu; have e : u = "all" := by simpa [Wh.words] using hu
           rw [e]; exact Wh.word_ok .all
  | self => intro u hu; have e : u = "self" := by simpa [Wh.words] using hu
            rw [e]; exact Wh.word_ok .self
  | mine => intro u hu; have e : u = "mine" := by simpa [Wh.words] using hu
            rw [e]; exact Wh.word_ok .mine
theorem Wh.words_len (w : Wh) : w.words.length ≤ 2 * w.size := by
  induction w <;> simp [Wh.words, Wh.size] <;> omega
theorem sum_le {l : List Nat} {k : Nat} (h : ∀ x ∈ l, x ≤ k) : l.sum ≤ l.length * k := by
  induction l with
  | nil => simp
  | cons x r ih =>
    have a := h x List.mem_cons_self
    have b := ih fun y hy => h y (List.mem_cons_of_mem _ hy)
    rw [List.sum_cons, List.length_cons, Nat.add_mul, Nat.one_mul]
    omega
def step : List Wh → List Wh
  | [] => []
  | h :: t => h.parts ++ t
def pend (w : Wh) : Nat → List Wh
  | 0 => [w]
  | j + 1 => step (pend w j)
theorem flatF_one (w : Wh) : flatF [w] = w.flat := by simp [flatF]
theorem wordsF_one (w : Wh) : wordsF [w] = w.words := by simp [wordsF]
theorem pend_flat (w : Wh) : ∀ j, flatF (pend w j) = w.flat.drop j
  | 0 => by rw [List.drop_zero]; exact flatF_one w
  | j + 1 => by
    have ih := pend_flat w j
    show flatF (step (pend w j)) = _
    cases e : pend w j with
    | nil =>
      rw [e] at ih
      have z : w.flat.drop j = [] := ih.symm
      rw [← List.drop_drop (i := 1), z]
      rfl
    | cons h t =>
      rw [e, flatF_cons] at ih
      show flatF (h.parts ++ t) = _
      have z := congrArg (List.drop 1) ih
      rw [List.drop_drop] at z
      simpa using z
theorem pend_size (w : Wh) (j : Nat) : sizeF (pend w j) = w.size - j := by
  have a : ∀ ws : List Wh, (flatF ws).length = sizeF ws := by
    intro ws
    induction ws with
    | nil => rfl
    | cons x r ih =>
      have e1 : flatF (x :: r) = x.flat ++ flatF r := by simp [flatF]
      have e2 : sizeF (x :: r) = x.size + sizeF r := by simp [sizeF]
      rw [e1, e2, List.length_append, x.flat_len, ih]
  rw [← a, pend_flat, List.length_drop, w.flat_len]
theorem pend_ne {w : Wh} {j : Nat} (h : j < w.size) : ∃ x t, pend w j = x :: t := by
  cases e : pend w j with
  | nil =>
    have z := pend_size w j
    rw [e] at z
    have z' : 0 = w.size - j := z
    omega
  | cons x t => exact ⟨x, t, rfl⟩
theorem pend_end (w : Wh) : pend w w.size = [] := by
  cases e : pend w w.size with
  | nil => rfl
  | cons x t =>
    have z := pend_size w w.size
    rw [e] at z
    have p := sizeF_pos (ws := x :: t) (by simp)
    omega
theorem pend_at {w x : Wh} {t : List Wh} {j : Nat} (e : pend w j = x :: t) : w.flat[j]? = some (x.word, x.val) := by
  have z := pend_flat w j
  rw [e, flatF_cons] at z
  have q : (w.flat.drop j)[0]? = some (x.word, x.val) := by rw [← z]; rfl
  rw [List.getElem?_drop] at q
  simpa using q
theorem pend_ok {w : Wh} (h : w.ok) : ∀ j, ∀ x ∈ pend w j, x.ok
  | 0 => fun x hx => by
    have e : x = w := by simpa [pend] using hx
    rw [e]; exact h
  | j + 1 => fun x hx => by
    have ih := pend_ok h j
    cases e : pend w j with
    | nil =>
      have hx' : x ∈ step (pend w j) := hx
      rw [e] at hx'
      simp [step] at hx'
    | cons y t =>
      have hx' : x ∈ step (pend w j) := hx
      rw [e] at hx' ih
      rcases List.mem_append.mp hx' with q | q
      · exact Wh.ok_parts (ih y List.mem_cons_self) x q
      · exact ih x (List.mem_cons_of_mem _ q)
def Wh.depth : Wh → Nat
  | .not a => a.depth + 1
  | .both a b => max a.depth b.depth + 1
  | .any a b => max a.depth b.depth + 1
  | _ => 1
theorem Wh.depth_le (w : Wh) : w.depth ≤ w.size := by
  induction w <;> simp [Wh.depth, Wh.size] <;> omega
theorem Wh.depth_parts (w : Wh) : ∀ p ∈ w.parts, p.depth + 1 ≤ w.depth := by
  cases w <;> simp [Wh.parts, Wh.depth] <;> omega
theorem flat_one {α : Type} (l : List α) : (l.map fun x => [x]).flatten = l := by
  induction l with
  | nil => rfl
  | cons x r ih => rw [List.map_cons, List.flatten_cons, ih]; rfl
theorem told_eq (w : Wh) : Str.join " " (w.word :: (w.val.words ++ w.parts.map fun p => Str.join " " p.words)) = Str.join " " w.words := by
  have e : (w.word :: (w.val.words ++ w.parts.map fun p => Str.join " " p.words)) = ((w.word :: w.val.words).map fun x => [x]).map (Str.join " ") ++ (w.parts.map Wh.words).map (Str.join " ") := by
    rw [List.map_map, List.map_map]
    have e1 : ((w.word :: w.val.words).map (Str.join " " ∘ fun x => [x])) = w.word :: w.val.words := by
      have : (Str.join " " ∘ fun x => [x]) = id := by funext x; rfl
      rw [this, List.map_id]
    rw [e1]
    rfl
  rw [e, ← List.map_append, join_flat]
  · rw [List.flatten_append, w.words_eq, flat_one]
    rfl
  · intro xs hx
    rcases List.mem_append.mp hx with q | q
    · obtain ⟨x, _, rfl⟩ := List.mem_map.mp q
      simp
    · obtain ⟨x, _, rfl⟩ := List.mem_map.mp q
      exact x.words_ne
end Wm
namespace Wm
open PySem
def plain (w : Wh) : Prop := w.ok ∧ w.size ≤ 9
structure Deed where
  each : Str
  kind : Str
  amt : Wv
  whom : Wh
def eaches : List Str := ["each", "one"]
def deedKinds : List Str := ["leave", "hurt", "gain", "lack", "lose", "score", "draw"]
def whenKinds : List Str := ["come", "leave", "hurt", "gain", "lack", "lose", "score", "draw"]
def playerKinds : List Str := ["lose", "score", "draw"]
def changes : List Str := ["mute", "steal", "gain", "lack", "be", "more", "less", "per"]
inductive AmtOk : Str → Wv → Prop
  | leave : AmtOk "leave" .non
  | gain {n : Str} : NameOk n → AmtOk "gain" (.name n)
  | lack {n : Str} : NameOk n → AmtOk "lack" (.name n)
  | hurt {i : Nat} : i < 1000 → AmtOk "hurt" (.num i)
  | lose {i : Nat} : i < 1000 → AmtOk "lose" (.num i)
  | score {i : Nat} : i < 1000 → AmtOk "score" (.num i)
  | draw {i : Nat} : i < 1000 → AmtOk "draw" (.num i)
structure Deed.ok (d : Deed) : Prop where
  each : d.each ∈ eaches
  amt : AmtOk d.kind d.amt
  whom : plain d.whom
def Deed.words (d : Deed) : List Str := d.each :: d.kind :: (d.amt.words ++ d.whom.words)
inductive Hv where
  | v (x : Wv) | w (y : Wh)
def Hv.words : Hv → List Str
  | .v x => x.words
  | .w y => y.words
inductive HoldOk : Str → Hv → Prop
  | mute : HoldOk "mute" (.v .non)
  | steal : HoldOk "steal" (.v .non)
  | gain {n : Str} : NameOk n → HoldOk "gain" (.v (.name n))
  | lack {n : Str} : NameOk n → HoldOk "lack" (.v (.name n))
  | be {i : Nat} : i < 1000 → HoldOk "be" (.v (.num i))
  | more {i : Nat} : i < 1000 → HoldOk "more" (.v (.num i))
  | less {i : Nat} : i < 1000 → HoldOk "less" (.v (.num i))
  | per {y : Wh} : plain y → HoldOk "per" (.w y)
inductive TurnOk : Str → Wv → Prop
  | none : TurnOk "none" .non
  | here : TurnOk "here" .non
  | less {i : Nat} : i < 1000 → TurnOk "less" (.num i)
  | more {i : Nat} : i < 1000 → TurnOk "more" (.num i)
  | as {n : Str} : n ∈ playerKinds → TurnOk "as" (.name n)
def turns : Str → List Str := fun k =>
  if k = "leave" then ["none", "here"] else if k = "hurt" then ["none", "here", "less", "more"] else if k = "gain" then ["none", "here"] else if k = "lack" then ["none", "here"]
  else ["none", "less", "more", "as"]
inductive Rule where
  | hold (word : Str) (val : Hv) (whom : Wh)
  | wen (kind : Str) (whom : Wh) (deed : Deed)
  | instead (kind : Str) (whom : Wh) (word : Str) (val : Wv)
  | may (cost : Nat) (deed : Deed)
def Rule.ok : Rule → Prop
  | .hold w v y => HoldOk w v ∧ plain y
  | .wen k y d => k ∈ whenKinds ∧ plain y ∧ d.ok
  | .instead k y w v => k ∈ deedKinds ∧ plain y ∧ w ∈ turns k ∧ TurnOk w v
  | .may c d => c < 1000 ∧ d.ok
def Rule.words : Rule → List Str
  | .hold w v y => "hold" :: w :: (v.words ++ y.words)
  | .wen k y d => "when" :: k :: (y.words ++ ("do" : Str) :: d.words)
  | .instead k y w v => "instead" :: k :: (y.words ++ ("do" : Str) :: w :: v.words)
  | .may c d => "may" :: toString (c : Int) :: "do" :: d.words
theorem AmtOk.kind {k : Str} {v : Wv} (h : AmtOk k v) : k ∈ deedKinds := by cases h <;> decide
theorem HoldOk.word {k : Str} {v : Hv} (h : HoldOk k v) : k ∈ changes := by cases h <;> decide
theorem Rule.words_ne (r : Rule) : r.words ≠ [] := by cases r <;> exact List.cons_ne_nil _ _
def WordS (u : Str) : Prop := WordOk u ∧ 47 ∉ u.cps.toList
theorem name_S {n : Str} (h : NameOk n) : WordS n := ⟨name_word h, fun z => absurd (h.2.2 47 z).1 (by decide)⟩
theorem num_S {i : Nat} (h : i < 1000) : WordS (toString (i : Int) : Str) := ⟨num_word h, fun z => absurd (num_plain i h 47 z).1 (by decide)⟩
def goodW (u : Str) : Bool := !u.cps.toList.contains 32 && !u.cps.toList.contains 47 && decide (1 ≤ u.length) && decide (u.length ≤ 8)
theorem good_S {u : Str} (h : goodW u = true) : WordS u := by
  unfold goodW at h
  rw [Bool.and_eq_true, Bool.and_eq_true, Bool.and_eq_true] at h
  obtain ⟨⟨⟨a, b⟩, c⟩, d⟩ := h
  refine ⟨⟨fun z => ?_, of_decide_eq_true c, of_decide_eq_true d⟩, fun z => ?_⟩
  · rw [List.contains_iff_mem.mpr z] at a; cases a
  · rw [List.contains_iff_mem.mpr z] at b; cases b
theorem goods {l : List Str} (h : l.all goodW = true) {u : Str} (hu : u ∈ l) : WordS u := good_S (List.all_eq_true.mp h u hu)
theorem Wh.words_S {w : Wh} (h : w.ok) : ∀ u ∈ w.words, WordS u := by
  induction w with
  | all => intro u hu; exact goods (l := ["all"]) (by decide +kernel) hu
  | self => intro u hu; exact goods (l := ["self"]) (by decide +kernel) hu
  | mine => intro u hu; exact goods (l := ["mine"]) (by decide +kernel) hu
  | mark n =>
    intro u hu
    rcases List.mem_cons.mp hu with rfl | hu
    · exact good_S (by decide +kernel)
    · rw [List.mem_singleton.mp hu]; exact name_S h
  | force i =>
    intro u hu
    rcases List.mem_cons.mp hu with rfl | hu
    · exact good_S (by decide +kernel)
    · rw [List.mem_singleton.mp hu]; exact num_S h
  | not a ih =>
    intro u hu
    rcases List.mem_cons.mp hu with rfl | hu
    · exact good_S (by decide +kernel)
    · exact ih h u hu
  | both a b ia ib =>
    intro u hu
    rcases List.mem_cons.mp hu with rfl | hu
    · exact good_S (by decide +kernel)
    · rcases List.mem_append.mp hu with hu | hu
      · exact ia h.1 u hu
      · exact ib h.2 u hu
  | any a b ia ib =>
    intro u hu
    rcases List.mem_cons.mp hu with rfl | hu
    · exact good_S (by decide +kernel)
    · rcases List.mem_append.mp hu with hu | hu
      · exact ia h.1 u hu
      · exact ib h.2 u hu
theorem AmtOk.words {k : Str} {v : Wv} (h : AmtOk k v) : ∀ u ∈ v.words, WordS u := by
  intro u hu
  cases h with
  | leave => cases hu
  | gain h => rw [List.mem_singleton.mp hu]; exact name_S h
  | lack h => rw [List.mem_singleton.mp hu]; exact name_S h
  | hurt h => rw [List.mem_singleton.mp hu]; exact num_S h
  | lose h => rw [List.mem_singleton.mp hu]; exact num_S h
  | score h => rw [List.mem_singleton.mp hu]; exact num_S h
  | draw h => rw [List.mem_singleton.mp hu]; exact num_S h
theorem TurnOk.words {k : Str} {v : Wv} (h : TurnOk k v) : ∀ u ∈ v.words, WordS u := by
  intro u hu
  cases h with
  | none => cases hu
  | here => cases hu
  | less h => rw [List.mem_singleton.mp hu]; exact num_S h
  | more h => rw [List.mem_singleton.mp hu]; exact num_S h
  | as h => rw [List.mem_singleton.mp hu]; exact goods (l := playerKinds) (by decide +kernel) h
theorem TurnOk.word {k : Str} {v : Wv} (h : TurnOk k v) : WordS k := by cases h <;> exact good_S (by decide +kernel)
theorem HoldOk.words {k : Str} {v : Hv} (h : HoldOk k v) : ∀ u ∈ v.words, WordS u := by
  intro u hu
  cases h with
  | mute => cases hu
  | steal => cases hu
  | gain h => rw [List.mem_singleton.mp hu]; exact name_S h
  | lack h => rw [List.mem_singleton.mp hu]; exact name_S h
  | be h => rw [List.mem_singleton.mp hu]; exact num_S h
  | more h => rw [List.mem_singleton.mp hu]; exact num_S h
  | less h => rw [List.mem_singleton.mp hu]; exact num_S h
  | per h => exact Wh.words_S h.1 u hu
theorem Deed.words_S {d : Deed} (h : d.ok) : ∀ u ∈ d.words, WordS u := by
  intro u hu
  rcases List.mem_cons.mp hu with rfl | hu
  · exact goods (l := eaches) (by decide +kernel) h.each
  rcases List.mem_cons.mp hu with rfl | hu
  · exact goods (l := deedKinds) (by decide +kernel) h.amt.kind
  rcases List.mem_append.mp hu with hu | hu
  · exact h.amt.words u hu
  · exact Wh.words_S h.whom.1 u hu
theorem Rule.words_S {r : Rule} (h : r.ok) : ∀ u ∈ r.words, WordS u := by
  intro u hu
  cases r with
  | hold w v y =>
    rcases List.mem_cons.mp hu with rfl | hu
    · exact good_S (by decide +kernel)
    rcases List.mem_cons.mp hu with rfl | hu
    · exact goods (l := changes) (by decide +kernel) h.1.word
    rcases List.mem_append.mp hu with hu | hu
    · exact h.1.words u hu
    · exact Wh.words_S h.2.1 u hu
  | wen k y d =>
    rcases List.mem_cons.mp hu with rfl | hu
    · exact good_S (by decide +kernel)
    rcases List.mem_cons.mp hu with rfl | hu
    · exact goods (l := whenKinds) (by decide +kernel) h.1
    rcases List.mem_append.mp hu with hu | hu
    · exact Wh.words_S h.2.1.1 u hu
    rcases List.mem_cons.mp hu with rfl | hu
    · exact good_S (by decide +kernel)
    · exact Deed.words_S h.2.2 u hu
  | instead k y w v =>
    rcases List.mem_cons.mp hu with rfl | hu
    · exact good_S (by decide +kernel)
    rcases List.mem_cons.mp hu with rfl | hu
    · exact goods (l := deedKinds) (by decide +kernel) h.1
    rcases List.mem_append.mp hu with hu | hu
    · exact Wh.words_S h.2.1.1 u hu
    rcases List.mem_cons.mp hu with rfl | hu
    · exact good_S (by decide +kernel)
    rcases List.mem_cons.mp hu with rfl | hu
    · exact h.2.2.2.word
    · exact h.2.2.2.words u hu
  | may c d =>
    rcases List.mem_cons.mp hu with rfl | hu
    · exact good_S (by decide +kernel)
    rcases List.mem_cons.mp hu with rfl | hu
    · exact num_S h.1
    rcases List.mem_cons.mp hu with rfl | hu
    · exact good_S (by decide +kernel)
    · exact Deed.words_S h.2 u hu
end Wm
namespace Wm
open PySem PySem.StrLaws PySem.Builtin.Str
def SL : Str := ⟨#[32, 47, 32]⟩
theorem chain_uniq {s sub : Str} {hi : Nat} : ∀ {cuts cuts' : List Nat} {a f f' : Nat}, ChainG s sub hi a cuts f → (∀ k, f ≤ k → ¬ At s sub hi k) → ChainG s sub hi a cuts' f' → (∀ k, f' ≤ k → ¬ At s sub hi k) → cuts = cuts'
  | [], [], _, _, _, _, _, _, _ => rfl
  | [], c :: r, a, f, f', h, n, h', n' => by
    have e : f = a := h
    subst e
    exact absurd h'.2.1 (n c h'.1)
  | c :: r, [], a, f, f', h, n, h', n' => by
    have e : f' = a := h'
    subst e
    exact absurd h.2.1 (n' c h.1)
  | c :: r, c' :: r', a, f, f', h, n, h', n' => by
    rcases Nat.lt_trichotomy c c' with z | z | z
    · exact absurd h.2.1 (h'.2.2.1 c h.1 z)
    · subst z
      rw [chain_uniq h.2.2.2 n h'.2.2.2 n']
    · exact absurd h'.2.1 (h.2.2.1 c' h'.1 z)
theorem ext_list (x : Str) (a b : Nat) : (x.cps.extract a b).toList = (x.cps.toList.drop a).take (b - a) := by
  rw [Array.toList_extract, List.extract_eq_take_drop]
theorem at_mid {x : Str} {hi k : Nat} (h : At x SL hi k) : x.cps.toList[k + 1]? = some 47 := by
  have e : x.cps.extract k (k + 3) = #[32, 47, 32] := by
    have := h.2
    unfold subAt at this
    exact beq_iff_eq.mp this
  have q := congrArg (fun z => z.toList[1]?) e
  simp only [ext_list] at q
  rw [List.getElem?_take_of_lt (by omega), List.getElem?_drop] at q
  exact q
theorem at_of {x : Str} {pre r : List Nat} (e : x.cps.toList = pre ++ 32 :: 47 :: 32 :: r) : At x SL x.length pre.length := by
  have hl := congrArg List.length e
  rw [List.length_append] at hl
  simp only [List.length_cons, Array.length_toList] at hl
  refine ⟨?_, ?_⟩
  · show pre.length + 3 ≤ x.cps.size
    omega
  · unfold subAt
    rw [beq_iff_eq]
    apply Array.toList_inj.mp
    rw [ext_list, e, List.drop_left]
    show ((32 :: 47 :: 32 :: r : List Nat).take (pre.length + 3 - pre.length)) = [32, 47, 32]
    rw [Nat.add_sub_cancel_left]
    rfl
def jl3 : List (List Nat) → List Nat
  | [] => []
  | [p] => p
  | p :: q :: r => p ++ 32 :: 47 :: 32 :: jl3 (q :: r)
def cutsOf : Nat → List (List Nat) → List Nat
  | a, p :: q :: r => (a + p.length) :: cutsOf (a + p.length + 3) (q :: r)
  | _, _ => []
def lastOf : Nat → List (List Nat) → Nat
  | a, p :: q :: r => lastOf (a + p.length + 3) (q :: r)
  | a, _ => a
theorem join3 : ∀ ws : List Str, (Str.join SL ws).cps.toList = jl3 (ws.map fun w => w.cps.toList)
  | [] => rfl
  | [x] => rfl
  | x :: y :: r => by
    have e : Str.join SL (x :: y :: r) = x ++ SL ++ Str.join SL (y :: r) := rfl
    rw [e]
    show ((x.cps ++ SL.cps) ++ (Str.join SL (y :: r)).cps).toList = _
    rw [Array.toList_append, Array.toList_append, join3 (y :: r), List.append_assoc]
    rfl
theorem sub_is {x : Str} {pre p r : List Nat} {b : Nat} (e : x.cps.toList = pre ++ (p ++ r)) (hb : b = pre.length + p.length) (q : Str) (hq : q.cps.toList = p) : strSub x pre.length b = q := by
  obtain ⟨c⟩ := q
  have z : x.cps.extract pre.length b = c := by
    apply Array.toList_inj.mp
    rw [ext_list, e, List.drop_left, hb, Nat.add_sub_cancel_left, List.take_left]
    exact hq.symm
  show (⟨x.cps.extract pre.length b⟩ : Str) = ⟨c⟩
  rw [z]
theorem cuts_all {x : Str} : ∀ {ps : List Str} {pre : List Nat}, ps ≠ [] → (∀ p ∈ ps, 47 ∉ p.cps.toList) → x.cps.toList = pre ++ jl3 (ps.map fun w => w.cps.toList) →
    ChainG x SL x.length pre.length (cutsOf pre.length (ps.map fun w => w.cps.toList)) (lastOf pre.length (ps.map fun w => w.cps.toList)) ∧ (∀ k, lastOf pre.length (ps.map fun w => w.cps.toList) ≤ k → ¬ At x SL x.length k) ∧ partsFrom x 3 pre.length (cutsOf pre.length (ps.map fun w => w.cps.toList)) = ps
  | [], _, h, _, _ => absurd rfl h
  | [p], pre, _, hf, e => by
    have e' : x.cps.toList = pre ++ p.cps.toList := e
    refine ⟨rfl, fun k hk hA => ?_, ?_⟩
    · have hk' : pre.length ≤ k := hk
      have m := at_mid hA
      rw [e', List.getElem?_append_right (by omega)] at m
      exact hf p (List.mem_singleton.mpr rfl) (List.mem_of_getElem? m)
    · show [strSub x pre.length x.length] = [p]
      rw [sub_is (r := []) (by rw [List.append_nil]; exact e') ?_ p rfl]
      have hl := congrArg List.length e'
      rw [List.length_append, Array.length_toList] at hl
      exact hl
  | p :: q :: r, pre, _, hf, e => by
    have e' : x.cps.toList = pre ++ (p.cps.toList ++ 32 :: 47 :: 32 :: jl3 ((q :: r).map fun w => w.cps.toList)) := e
    have e1 : x.cps.toList = (pre ++ p.cps.toList) ++ 32 :: 47 :: 32 :: jl3 ((q :: r).map fun w => w.cps.toList) := by rw [e', List.append_assoc]
    have e2 : x.cps.toList = (pre ++ p.cps.toList ++ [32, 47, 32]) ++ jl3 ((q :: r).map fun w => w.cps.toList) := by rw [e1, List.append_assoc (pre ++ p.cps.toList)]; rfl
    obtain ⟨c1, c2, c3⟩ := cuts_all (ps := q :: r) (pre := pre ++ p.cps.toList ++ [32, 47, 32]) (List.cons_ne_nil _ _) (fun y hy => hf y (List.mem_cons_of_mem _ hy)) e2
    have el : (pre ++ p.cps.toList ++ [32, 47, 32]).length = pre.length + p.cps.toList.length + 3 := by
      rw [List.length_append, List.length_append]
      rfl
    rw [el] at c1 c2 c3
    have eA := at_of e1
    rw [List.length_append] at eA
    refine ⟨⟨Nat.le_add_right _ _, eA, fun k h1 h2 hA => ?_, c1⟩, c2, ?_⟩
    · have m := at_mid hA
      rcases Nat.lt_or_ge (k + 1) (pre.length + p.cps.toList.length) with z | z
      · rw [e', List.getElem?_append_right (by omega), List.getElem?_append_left (by omega)] at m
        exact hf p List.mem_cons_self (List.mem_of_getElem? m)
      · have h2' : k < pre.length + p.cps.toList.length := h2
        have ek : k + 1 = (pre ++ p.cps.toList).length := by rw [List.length_append]; omega
        rw [e1, ek, List.getElem?_append_right (Nat.le_refl _), Nat.sub_self] at m
        exact absurd m (by simp)
    · show strSub x pre.length (pre.length + p.cps.toList.length) :: partsFrom x 3 (pre.length + p.cps.toList.length + 3) (cutsOf (pre.length + p.cps.toList.length + 3) ((q :: r).map fun w => w.cps.toList)) = p :: q :: r
      rw [c3, sub_is e' rfl p rfl]
theorem split3 {ps : List Str} (hne : ps ≠ []) (hf : ∀ p ∈ ps, 47 ∉ p.cps.toList) : Txt.split (Str.join SL ps) SL = ps := by
  obtain ⟨f, hG, hn⟩ := occ_tight (Str.join SL ps) SL (by decide)
  obtain ⟨c1, c2, c3⟩ := cuts_all (x := Str.join SL ps) (ps := ps) (pre := []) hne hf (join3 ps)
  have u := chain_uniq hG hn c1 c2
  unfold Txt.split
  rw [u]
  have one : cutsOf ([] : List Nat).length (ps.map fun w => w.cps.toList) = [] → [Str.join SL ps] = ps := fun z => by
    cases ps with
    | nil => exact absurd rfl hne
    | cons p r =>
      cases r with
      | nil => rfl
      | cons q r => cases z
  split
  · rename_i hc
    rw [Bool.or_eq_true, decide_eq_true_eq, decide_eq_true_eq] at hc
    apply one
    rcases hc with h | h
    · cases hcut : cutsOf ([] : List Nat).length (ps.map fun w => w.cps.toList) with
      | nil => rfl
      | cons c r =>
        rw [hcut] at c1
        have := c1.2.1.1
        omega
    · exfalso
      have ek : Builtin.Str.strKind SL = 1 := by decide +kernel
      rw [ek] at h
      unfold Builtin.Str.strKind at h
      split at h
      · omega
      · split at h
        · omega
        · omega
  · split
    · rename_i he
      exact one (List.isEmpty_iff.mp he)
    · rw [partsBetween_eq]
      exact c3
end Wm
namespace Wm
open PySem PySem.Spec PyProof.Rows
def leS (a b : Str) : Prop := a.cps.toList ≤ b.cps.toList
theorem leS_of {a b : Str} (h : ltCps b.cps.toList a.cps.toList = false) : leS a b := by
  rw [ltCps_eq] at h
  exact List.not_lt.mp (of_decide_eq_false h)
theorem leS_trans {a b c : Str} (h : leS a b) (g : leS b c) : leS a c := List.le_trans h g
theorem leS_anti {a b : Str} (h : leS a b) (g : leS b a) : a = b := by
  have e := List.le_antisymm h g
  obtain ⟨x⟩ := a
  obtain ⟨y⟩ := b
  rw [show x = y from Array.toList_inj.mp e]
theorem rising_pw : ∀ (p : Str) (l : List Str), risingS p l = true → (p :: l).Pairwise leS
  | p, [], _ => List.pairwise_singleton _ _
  | p, x :: r, h => by
    have h' : (!ltCps x.cps.toList p.cps.toList && risingS x r) = true := h
    rw [Bool.and_eq_true] at h'
    have h1 : leS p x := leS_of (by have := h'.1; revert this; cases ltCps x.cps.toList p.cps.toList <;> simp)
    have h2 := rising_pw x r h'.2
    rw [List.pairwise_cons]
    refine ⟨fun b hb => ?_, h2⟩
    rcases List.mem_cons.mp hb with rfl | hb
    · exact h1
    · exact leS_trans h1 ((List.pairwise_cons.mp h2).1 b hb)
theorem sorted_pw : ∀ {l : List Str}, sortedS l = true → l.Pairwise leS
  | [], _ => .nil
  | x :: r, h => rising_pw x r h
theorem sorted_uniq {xs ys : List Str} (hp : xs.Perm ys) (hx : sortedS xs = true) (hy : sortedS ys = true) : xs = ys :=
  List.Perm.eq_of_pairwise (le := leS) (fun _ _ _ _ h g => leS_anti h g) (sorted_pw hx) (sorted_pw hy) hp
theorem dd_nodup {xs : List Str} (h : xs.Nodup) : SSet.dd xs = xs := by
  have key : ∀ n, n ≤ xs.length → SSet.dd (xs.take n) = xs.take n := by
    intro n
    induction n with
    | zero => intro _; rfl
    | succ n ih =>
      intro hn
      have hlt : n < xs.length := hn
      rw [List.take_add_one, List.getElem?_eq_getElem hlt]
      show SSet.dd (xs.take n ++ [xs[n]]) = xs.take n ++ [xs[n]]
      rw [SSet.dd_snoc, ih (by omega), if_neg]
      intro hm
      obtain ⟨i, hi, e⟩ := List.getElem_of_mem hm
      rw [List.length_take] at hi
      rw [List.getElem_take] at e
      exact (List.pairwise_iff_getElem.mp h) i n (by omega) hlt (by omega) e
  have := key xs.length (Nat.le_refl _)
  rwa [List.take_length] at this
structure Marks (ms : List Str) : Prop where
  ok : ∀ m ∈ ms, NameOk m
  nd : ms.Nodup
  so : sortedS ms = true
  le : ms.length ≤ 20
theorem Marks.same {ms ys : List Str} (h : Marks ms) (hp : ys.Perm (SSet.dd ms)) (hs : sortedS ys = true) : ys = ms := by
  rw [dd_nodup h.nd] at hp
  exact sorted_uniq hp hs h.so
def CM : Str := ⟨#[44]⟩
def marksT : List Str → Str
  | [] => "-"
  | m :: r => Str.join CM (m :: r)
theorem join_chars {c : Nat} : ∀ {ws : List Str} {d : Nat}, d ∈ (Str.join ⟨#[c]⟩ ws).cps.toList → d = c ∨ ∃ w ∈ ws, d ∈ w.cps.toList
  | [], d, h => by cases h
  | [x], d, h => .inr ⟨x, List.mem_singleton.mpr rfl, h⟩
  | x :: y :: r, d, h => by
    have e : Str.join ⟨#[c]⟩ (x :: y :: r) = x ++ ⟨#[c]⟩ ++ Str.join ⟨#[c]⟩ (y :: r) := rfl
    rw [e] at h
    have h' : d ∈ ((x.cps ++ #[c]) ++ (Str.join ⟨#[c]⟩ (y :: r)).cps).toList := h
    rw [Array.toList_append, Array.toList_append] at h'
    rcases List.mem_append.mp h' with h' | h'
    · rcases List.mem_append.mp h' with h' | h'
      · exact .inr ⟨x, List.mem_cons_self, h'⟩
      · exact .inl (List.mem_singleton.mp h')
    · rcases join_chars h' with z | ⟨w, hw, z⟩
      · exact .inl z
      · exact .inr ⟨w, List.mem_cons_of_mem _ hw, z⟩
theorem marksT_chars {ms : List Str} (h : Marks ms) (hne : ms ≠ []) : ∀ d ∈ (marksT ms).cps.toList, d = 44 ∨ (97 ≤ d ∧ d ≤ 122) := by
  cases ms with
  | nil => exact absurd rfl hne
  | cons m r =>
    intro d hd
    rcases join_chars (c := 44) hd with z | ⟨w, hw, z⟩
    · exact .inl z
    · exact .inr ((h.ok w hw).2.2 d z)
structure Crd where
  name : Str
  cost : Nat
  force : Nat
  marks : List Str
  rules : List Rule
structure Crd.ok (c : Crd) : Prop where
  name : NameOk c.name
  cost : c.cost < 1000
  force : c.force < 1000
  marks : Marks c.marks
  rules : ∀ r ∈ c.rules, r.ok
  few : c.rules.length ≤ 3
def Crd.head (c : Crd) : List Str := [c.name, toString (c.cost : Int), toString (c.force : Int), marksT c.marks]
def ruleT (r : Rule) : Str := Str.join " " r.words
def Crd.text (c : Crd) : Str := Str.join SL (Str.join " " c.head :: c.rules.map ruleT)
theorem free_join {c d : Nat} {ws : List Str} (h : ∀ w ∈ ws, d ∉ w.cps.toList) (n : d ≠ c) : d ∉ (Str.join ⟨#[c]⟩ ws).cps.toList := fun z => by
  rcases join_chars z with e | ⟨w, hw, z⟩
  · exact n e
  · exact h w hw z
theorem marksT_free {ms : List Str} (h : Marks ms) : 32 ∉ (marksT ms).cps.toList ∧ 47 ∉ (marksT ms).cps.toList := by
  by_cases e : ms = []
  · subst e
    exact ⟨by decide, by decide⟩
  · exact ⟨fun z => by have := marksT_chars h e 32 z; omega, fun z => by have := marksT_chars h e 47 z; omega⟩
theorem Crd.head_free {c : Crd} (h : c.ok) : ∀ u ∈ c.head, 32 ∉ u.cps.toList ∧ 47 ∉ u.cps.toList := by
  intro u hu
  simp only [Crd.head, List.mem_cons, List.not_mem_nil, or_false] at hu
  rcases hu with rfl | rfl | rfl | rfl
  · exact ⟨(name_S h.name).1.1, (name_S h.name).2⟩
  · exact ⟨(num_S h.cost).1.1, (num_S h.cost).2⟩
  · exact ⟨(num_S h.force).1.1, (num_S h.force).2⟩
  · exact marksT_free h.marks
theorem Crd.split {c : Crd} (h : c.ok) : Txt.split c.text SL = Str.join " " c.head :: c.rules.map ruleT := by
  refine split3 (List.cons_ne_nil _ _) fun p hp => ?_
  rcases List.mem_cons.mp hp with rfl | hp
  · exact free_join (fun u hu => (Crd.head_free h u hu).2) (by decide)
  · obtain ⟨r, hr, rfl⟩ := List.mem_map.mp hp
    exact free_join (fun u hu => (Rule.words_S (h.rules r hr) u hu).2) (by decide)
end Wm
namespace K02
open PySem L2 PyProof.Rows Wm
def top (i : Nat) : Stmt := PySem.Challenge.pw_turnstack_k02_whoms_told_again.main.body.getD i (.Pass ⟨0, 0, 0, 0⟩)
abbrev s_is_name : Stmt := top 9
abbrev N_is_name : List Str := ["word"]
abbrev P_is_name : List Str := ["word"]
theorem sc_is_name : FnScope N_is_name P_is_name (defScope s_is_name) := ⟨rfl, rfl, rfl, by decide +kernel, rfl, by decide +kernel, by decide +kernel⟩
abbrev s_is_number : Stmt := top 10
abbrev N_is_number : List Str := ["word"]
abbrev P_is_number : List Str := ["word"]
theorem sc_is_number : FnScope N_is_number P_is_number (defScope s_is_number) := ⟨rfl, rfl, rfl, by decide +kernel, rfl, by decide +kernel, by decide +kernel⟩
abbrev s_is_whole : Stmt := top 11
abbrev N_is_whole : List Str := ["word", "most"]
abbrev P_is_whole : List Str := ["word", "most"]
theorem sc_is_whole : FnScope N_is_whole P_is_whole (defScope s_is_whole) := ⟨rfl, rfl, rfl, by decide +kernel, rfl, by decide +kernel, by decide +kernel⟩
abbrev s_Words___init__ : Stmt := inClass (top 12) 0
abbrev N_Words___init__ : List Str := ["self", "text"]
abbrev P_Words___init__ : List Str := ["self", "text"]
theorem sc_Words___init__ : FnScope N_Words___init__ P_Words___init__ (defScope s_Words___init__) := ⟨rfl, rfl, rfl, by decide +kernel, rfl, by decide +kernel, by decide +kernel⟩
abbrev s_Words_take : Stmt := inClass (top 12) 1
abbrev N_Words_take : List Str := ["self"]
abbrev P_Words_take : List Str := ["self"]
theorem sc_Words_take : FnScope N_Words_take P_Words_take (defScope s_Words_take) := ⟨rfl, rfl, rfl, by decide +kernel, rfl, by decide +kernel, by decide +kernel⟩
abbrev s_Words_take_name : Stmt := inClass (top 12) 3
abbrev N_Words_take_name : List Str := ["self", "word"]
abbrev P_Words_take_name : List Str := ["self"]
theorem sc_Words_take_name : FnScope N_Words_take_name P_Words_take_name (defScope s_Words_take_name) := ⟨rfl, rfl, rfl, by decide +kernel, rfl, by decide +kernel, by decide +kernel⟩
abbrev s_Words_take_number : Stmt := inClass (top 12) 4
abbrev N_Words_take_number : List Str := ["self", "word"]
abbrev P_Words_take_number : List Str := ["self"]
theorem sc_Words_take_number : FnScope N_Words_take_number P_Words_take_number (defScope s_Words_take_number) := ⟨rfl, rfl, rfl, by decide +kernel, rfl, by decide +kernel, by decide +kernel⟩
abbrev s_Words_finish : Stmt := inClass (top 12) 5
abbrev N_Words_finish : List Str := ["self"]
abbrev P_Words_finish : List Str := ["self"]
theorem sc_Words_finish : FnScope N_Words_finish P_Words_finish (defScope s_Words_finish) := ⟨rfl, rfl, rfl, by decide +kernel, rfl, by decide +kernel, by decide +kernel⟩
abbrev s_Whom___init__ : Stmt := inClass (top 13) 0
abbrev N_Whom___init__ : List Str := ["self", "word", "value", "parts"]
abbrev P_Whom___init__ : List Str := ["self", "word", "value", "parts"]
theorem sc_Whom___init__ : FnScope N_Whom___init__ P_Whom___init__ (defScope s_Whom___init__) := ⟨rfl, rfl, rfl, by decide +kernel, rfl, by decide +kernel, by decide +kernel⟩
abbrev s_Whom_told : Stmt := inClass (top 13) 1
abbrev N_Whom_told : List Str := ["self", "words"]
abbrev P_Whom_told : List Str := ["self"]
theorem sc_Whom_told : FnScope N_Whom_told P_Whom_told (defScope s_Whom_told) := ⟨rfl, rfl, rfl, by decide +kernel, rfl, by decide +kernel, by decide +kernel⟩
abbrev s_read_whom : Stmt := top 14
abbrev N_read_whom : List Str := ["text", "words", "whom"]
abbrev P_read_whom : List Str := ["text"]
theorem sc_read_whom : FnScope N_read_whom P_read_whom (defScope s_read_whom) := ⟨rfl, rfl, rfl, by decide +kernel, rfl, by decide +kernel, by decide +kernel⟩
abbrev s_take_whom : Stmt := top 15
abbrev N_take_whom : List Str := ["words", "taken", "missing", "word"]
abbrev P_take_whom : List Str := ["words"]
theorem sc_take_whom : FnScope N_take_whom P_take_whom (defScope s_take_whom) := ⟨rfl, rfl, rfl, by decide +kernel, rfl, by decide +kernel, by decide +kernel⟩
abbrev s_take_value : Stmt := top 16
abbrev N_take_value : List Str := ["words", "word"]
abbrev P_take_value : List Str := ["words", "word"]
theorem sc_take_value : FnScope N_take_value P_take_value (defScope s_take_value) := ⟨rfl, rfl, rfl, by decide +kernel, rfl, by decide +kernel, by decide +kernel⟩
abbrev s_built : Stmt := top 17
abbrev N_built : List Str := ["taken", "whoms", "word", "value", "many"]
abbrev P_built : List Str := ["taken"]
theorem sc_built : FnScope N_built P_built (defScope s_built) := ⟨rfl, rfl, rfl, by decide +kernel, rfl, by decide +kernel, by decide +kernel⟩
abbrev s__law_take : Stmt := top 19
abbrev N__law_take : List Str := ["_law_state", "_law_most", "_law_script", "_law_at", "_law_cell"]
abbrev P__law_take : List Str := ["_law_state", "_law_most"]
theorem sc__law_take : FnScope N__law_take P__law_take (defScope s__law_take) := ⟨rfl, rfl, rfl, by decide +kernel, rfl, by decide +kernel, by decide +kernel⟩
abbrev s__law_names : Stmt := top 20
abbrev N__law_names : List Str := ["_law_state", "_law_many", "_law_letters", "_law_size", "_law_at", "_law_base", "_law_turn", "_law_names_here", "_law_k", "_law_sign"]
abbrev P__law_names : List Str := ["_law_state", "_law_many"]
theorem sc__law_names : FnScope N__law_names P__law_names (defScope s__law_names) := ⟨rfl, rfl, rfl, by decide +kernel, rfl, by decide +kernel, by decide +kernel⟩
abbrev s__law_leaf : Stmt := top 21
abbrev N__law_leaf : List Str := ["_law_state", "_law_names_here", "_law_way"]
abbrev P__law_leaf : List Str := ["_law_state", "_law_names_here"]
theorem sc__law_leaf : FnScope N__law_leaf P__law_leaf (defScope s__law_leaf) := ⟨rfl, rfl, rfl, by decide +kernel, rfl, by decide +kernel, by decide +kernel⟩
abbrev s__law_whom : Stmt := top 22
abbrev N__law_whom : List Str := ["_law_state", "_law_names_here", "_law_left", "_law_way", "_law_words", "_law_used", "_law_more", "_law_again"]
abbrev P__law_whom : List Str := ["_law_state", "_law_names_here", "_law_left"]
theorem sc__law_whom : FnScope N__law_whom P__law_whom (defScope s__law_whom) := ⟨rfl, rfl, rfl, by decide +kernel, rfl, by decide +kernel, by decide +kernel⟩
abbrev s_law : Stmt := top 23
abbrev N_law : List Str := ["_law_script", "_law_state", "_law_names_here", "_law_texts", "_law_one", "_law_first", "_law_other"]
abbrev P_law : List Str := ["_law_script"]
theorem sc_law : FnScope N_law P_law (defScope s_law) := ⟨rfl, rfl, rfl, by decide +kernel, rfl, by decide +kernel, by decide +kernel⟩
abbrev V_LETTERS : Str := "abcdefghijklmnopqrstuvwxyz"
abbrev V_FIGURES : Str := "0123456789"
abbrev D_PARTS : List (Str × KTD.Dat) := [("all", .flat (.int 0)), ("self", .flat (.int 0)), ("mine", .flat (.int 0)), ("mark", .flat (.int 0)), ("force", .flat (.int 0)), ("not", .flat (.int 1)), ("both", .flat (.int 2)), ("any", .flat (.int 2))]
set_option genInjectivity false in
structure Tx (K : PySem.W.Frag) (mg : Str → Option Value) where
  f_is_name : Addr
  d_is_name : FuncData
  F_is_name : Fun K "is_name" "is_name" s_is_name f_is_name d_is_name
  m_is_name : mg "is_name" = some (.ref f_is_name)
  f_is_number : Addr
  d_is_number : FuncData
  F_is_number : Fun K "is_number" "is_number" s_is_number f_is_number d_is_number
  m_is_number : mg "is_number" = some (.ref f_is_number)
  f_is_whole : Addr
  d_is_whole : FuncData
  F_is_whole : Fun K "is_whole" "is_whole" s_is_whole f_is_whole d_is_whole
  m_is_whole : mg "is_whole" = some (.ref f_is_whole)
  f_Words___init__ : Addr
  d_Words___init__ : FuncData
  F_Words___init__ : Fun K "__init__" "Words.__init__" s_Words___init__ f_Words___init__ d_Words___init__
  f_Words_take : Addr
  d_Words_take : FuncData
  F_Words_take : Fun K "take" "Words.take" s_Words_take f_Words_take d_Words_take
  f_Words_take_name : Addr
  d_Words_take_name : FuncData
  F_Words_take_name : Fun K "take_name" "Words.take_name" s_Words_take_name f_Words_take_name d_Words_take_name
  f_Words_take_number : Addr
  d_Words_take_number : FuncData
  F_Words_take_number : Fun K "take_number" "Words.take_number" s_Words_take_number f_Words_take_number d_Words_take_number
  f_Words_finish : Addr
  d_Words_finish : FuncData
  F_Words_finish : Fun K "finish" "Words.finish" s_Words_finish f_Words_finish d_Words_finish
  f_Whom___init__ : Addr
  d_Whom___init__ : FuncData
  F_Whom___init__ : Fun K "__init__" "Whom.__init__" s_Whom___init__ f_Whom___init__ d_Whom___init__
  f_Whom_told : Addr
  d_Whom_told : FuncData
  F_Whom_told : Fun K "told" "Whom.told" s_Whom_told f_Whom_told d_Whom_told
  f_read_whom : Addr
  d_read_whom : FuncData
  F_read_whom : Fun K "read_whom" "read_whom" s_read_whom f_read_whom d_read_whom
  m_read_whom : mg "read_whom" = some (.ref f_read_whom)
  f_take_whom : Addr
  d_take_whom : FuncData
  F_take_whom : Fun K "take_whom" "take_whom" s_take_whom f_take_whom d_take_whom
  m_take_whom : mg "take_whom" = some (.ref f_take_whom)
  f_take_value : Addr
  d_take_value : FuncData
  F_take_value : Fun K "take_value" "take_value" s_take_value f_take_value d_take_value
  m_take_value : mg "take_value" = some (.ref f_take_value)
  f_built : Addr
  d_built : FuncData
  F_built : Fun K "built" "built" s_built f_built d_built
  m_built : mg "built" = some (.ref f_built)
  f__law_take : Addr
  d__law_take : FuncData
  F__law_take : Fun K "_law_take" "_law_take" s__law_take f__law_take d__law_take
  m__law_take : mg "_law_take" = some (.ref f__law_take)
  f__law_names : Addr
  d__law_names : FuncData
  F__law_names : Fun K "_law_names" "_law_names" s__law_names f__law_names d__law_names
  m__law_names : mg "_law_names" = some (.ref f__law_names)
  f__law_leaf : Addr
  d__law_leaf : FuncData
  F__law_leaf : Fun K "_law_leaf" "_law_leaf" s__law_leaf f__law_leaf d__law_leaf
  m__law_leaf : mg "_law_leaf" = some (.ref f__law_leaf)
  f__law_whom : Addr
  d__law_whom : FuncData
  F__law_whom : Fun K "_law_whom" "_law_whom" s__law_whom f__law_whom d__law_whom
  m__law_whom : mg "_law_whom" = some (.ref f__law_whom)
  f_law : Addr
  d_law : FuncData
  F_law : Fun K "law" "law" s_law f_law d_law
  m_law : mg "law" = some (.ref f_law)
  c_Words : Addr
  cl_Words : Cls K c_Words
  m_Words : mg "Words" = some (.ref c_Words)
  Mk_Words : Mk K c_Words f_Words___init__
  M_Words_take : Meth K c_Words "take" f_Words_take
  M_Words_take_name : Meth K c_Words "take_name" f_Words_take_name
  M_Words_take_number : Meth K c_Words "take_number" f_Words_take_number
  M_Words_finish : Meth K c_Words "finish" f_Words_finish
  n_Words_words : NoAttr K c_Words "words"
  n_Words_place : NoAttr K c_Words "place"
  c_Whom : Addr
  cl_Whom : Cls K c_Whom
  m_Whom : mg "Whom" = some (.ref c_Whom)
  Mk_Whom : Mk K c_Whom f_Whom___init__
  M_Whom_told : Meth K c_Whom "told" f_Whom_told
  n_Whom_word : NoAttr K c_Whom "word"
  n_Whom_value : NoAttr K c_Whom "value"
  n_Whom_parts : NoAttr K c_Whom "parts"
  z_all : mg "all" = none
  z_int : mg "int" = none
  z_isinstance : mg "isinstance" = none
  z_len : mg "len" = none
  z_range : mg "range" = none
  z_reversed : mg "reversed" = none
  z_str : mg "str" = none
  z_tuple : mg "tuple" = none
  k_LETTERS : Tok
  g_LETTERS : mg "LETTERS" = some (.str V_LETTERS k_LETTERS)
  k_FIGURES : Tok
  g_FIGURES : mg "FIGURES" = some (.str V_FIGURES k_FIGURES)
  k_MOST_WORDS : Tok
  g_MOST_WORDS : mg "MOST_WORDS" = some (.int 9 k_MOST_WORDS)
  a_PARTS : Addr
  g_PARTS : mg "PARTS" = some (.ref a_PARTS)
  l_PARTS : KTD.tabLook (KTD.datLooks fun b => K.lookup b) (fun b => K.lookup b) a_PARTS D_PARTS = true
section
variable {K : PySem.W.Frag} {mg : Str → Option Value} {base : Heap}
theorem b_is_name (T : Tx K mg) : Binds K T.d_is_name P_is_name [] := T.F_is_name.binds fun _ _ _ _ _ _ us hl => match us, hl with | [_], _ => rfl
theorem b_is_number (T : Tx K mg) : Binds K T.d_is_number P_is_number [] := T.F_is_number.binds fun _ _ _ _ _ _ us hl => match us, hl with | [_], _ => rfl
theorem b_is_whole (T : Tx K mg) : Binds K T.d_is_whole P_is_whole [] := T.F_is_whole.binds fun _ _ _ _ _ _ us hl => match us, hl with | [_, _], _ => rfl
theorem b_Words___init__ (T : Tx K mg) : Binds K T.d_Words___init__ P_Words___init__ [] := T.F_Words___init__.binds fun _ _ _ _ _ _ us hl => match us, hl with | [_, _], _ => rfl
theorem b_Words_take (T : Tx K mg) : Binds K T.d_Words_take P_Words_take [] := T.F_Words_take.binds fun _ _ _ _ _ _ us hl => match us, hl with | [_], _ => rfl
theorem b_Words_take_name (T : Tx K mg) : Binds K T.d_Words_take_name P_Words_take_name [] := T.F_Words_take_name.binds fun _ _ _ _ _ _ us hl => match us, hl with | [_], _ => rfl
theorem b_Words_take_number (T : Tx K mg) : Binds K T.d_Words_take_number P_Words_take_number [] := T.F_Words_take_number.binds fun _ _ _ _ _ _ us hl => match us, hl with | [_], _ => rfl
theorem b_Words_finish (T : Tx K mg) : Binds K T.d_Words_finish P_Words_finish [] := T.F_Words_finish.binds fun _ _ _ _ _ _ us hl => match us, hl with | [_], _ => rfl
theorem b_Whom___init__ (T : Tx K mg) : Binds K T.d_Whom___init__ P_Whom___init__ [] := T.F_Whom___init__.binds fun _ _ _ _ _ _ us hl => match us, hl with | [_, _, _, _], _ => rfl
theorem b_Whom_told (T : Tx K mg) : Binds K T.d_Whom_told P_Whom_told [] := T.F_Whom_told.binds fun _ _ _ _ _ _ us hl => match us, hl with | [_], _ => rfl
theorem b_read_whom (T : Tx K mg) : Binds K T.d_read_whom P_read_whom [] := T.F_read_whom.binds fun _ _ _ _ _ _ us hl => match us, hl with | [_], _ => rfl
theorem b_take_whom (T : Tx K mg) : Binds K T.d_take_whom P_take_whom [] := T.F_take_whom.binds fun _ _ _ _ _ _ us hl => match us, hl with | [_], _ => rfl
theorem b_take_value (T : Tx K mg) : Binds K T.d_take_value P_take_value [] := T.F_take_value.binds fun _ _ _ _ _ _ us hl => match us, hl with | [_, _], _ => rfl
theorem b_built (T : Tx K mg) : Binds K T.d_built P_built [] := T.F_built.binds fun _ _ _ _ _ _ us hl => match us, hl with | [_], _ => rfl
theorem b__law_take (T : Tx K mg) : Binds K T.d__law_take P__law_take [] := T.F__law_take.binds fun _ _ _ _ _ _ us hl => match us, hl with | [_, _], _ => rfl
theorem b__law_names (T : Tx K mg) : Binds K T.d__law_names P__law_names [] := T.F__law_names.binds fun _ _ _ _ _ _ us hl => match us, hl with | [_, _], _ => rfl
theorem b__law_leaf (T : Tx K mg) : Binds K T.d__law_leaf P__law_leaf [] := T.F__law_leaf.binds fun _ _ _ _ _ _ us hl => match us, hl with | [_, _], _ => rfl
theorem b__law_whom (T : Tx K mg) : Binds K T.d__law_whom P__law_whom [] := T.F__law_whom.binds fun _ _ _ _ _ _ us hl => match us, hl with | [_, _, _], _ => rfl
theorem tab_PARTS (T : Tx K mg) (kb : K.In base) : KTD.TextTab base T.a_PARTS D_PARTS := KTD.text_of_look (fun b o q => kb b o q) T.l_PARTS
end
abbrev LL : Str := "abcdefghijklmnopqrstuvwxyz"
abbrev FF : Str := "0123456789"
def inS (c : Nat) (u : Str) : Bool := !(Builtin.Str.occurrences u ⟨#[c]⟩ 0 u.length 1).isEmpty
def allIn (t u : Str) : Bool := (t.cps.toList.map fun c => inS c u).all id
def noZero (t : Str) : Bool := decide (V.str t = V.str "0") || (!decide (V.str ⟨#[t.cps.getD 0 0]⟩ = V.str "0"))
def short (t : Str) (n : Int) : Bool := decide ((1 : Int) ≤ ((t.length : Nat) : Int)) && decide (((t.length : Nat) : Int) ≤ n)
def isName (t : Str) : Bool := short t 8 && allIn t LL
def isWhole (t : Str) (n : Int) : Bool := short t n && (allIn t FF && noZero t)
def isNumber (t : Str) : Bool := isWhole t 3
theorem small {n : Nat} (h : n ≤ 1000) : n ≤ sizeLine := Nat.le_of_lt (small1000 h)
theorem first_sign {t : Str} (h : (1 : Int) ≤ ((t.length : Nat) : Int)) : atI t.cps.toList 0 = some (t.cps.getD 0 0) := by
  have hl : 0 < t.cps.size := by
    have e : t.length = t.cps.size := rfl
    omega
  have e : t.cps.toList[0]? = some (t.cps.getD 0 0) := by
    rw [Array.getElem?_toList, Array.getD_eq_getD_getElem?, Array.getElem?_eq_getElem hl]
    rfl
  exact atI_nat (j := 0) e
theorem at_get {α : Type} {xs : List α} {i : Int} (h0 : 0 ≤ i) (h : i < (xs.length : Int)) : ∃ v, atI xs i = some v ∧ v ∈ xs := by
  have hk : i.toNat < xs.length := by omega
  have e : xs[i.toNat]? = some xs[i.toNat] := List.getElem?_eq_getElem hk
  have q := atI_nat e
  rw [show ((i.toNat : Nat) : Int) = i by omega] at q
  exact ⟨_, q, List.mem_of_getElem? e⟩
theorem at_ints {ns : List Int} {i : Int} (h0 : 0 ≤ i) (h : i < (ns.length : Int)) : ∃ z, atI (ns.map V.int) i = some (.int z) := by
  obtain ⟨v, hv, hm⟩ := at_get (xs := ns.map V.int) h0 (by rw [List.length_map]; exact h)
  obtain ⟨z, _, rfl⟩ := List.mem_map.mp hm
  exact ⟨z, hv⟩
theorem len_app (a b : Str) : (a ++ b).length = a.length + b.length := by
  show (a.cps ++ b.cps).size = a.cps.size + b.cps.size
  rw [Array.size_append]
def But (p : Addr) (H H' : Hp) : Prop := ∀ b o, b ≠ p → H b = some o → H' b = some o
theorem But.refl (p : Addr) (H : Hp) : But p H H := fun _ _ _ h => h
theorem But.trans {p : Addr} {H H1 H2 : Hp} (a : But p H H1) (b : But p H1 H2) : But p H H2 := fun c o n h => b c o n (a c o n h)
theorem But.laid {p q : Addr} {H : Hp} {o : HO} (h : H q = none) : But p H (upd H q o) := fun b u n e => by rw [upd_ne (ne_of_none e h)]; exact e
theorem But.put {p : Addr} {H : Hp} {o : HO} : But p H (upd H p o) := fun b u n e => by rw [upd_ne n]; exact e
theorem But.same {p : Addr} {H H' : Hp} (h : Same H H') : But p H H' := fun b o _ e => h b o e
theorem same_new {H : Hp} {p : Addr} (h : H p = none) (o : HO) : Same H (upd H p o) := fun b u q => by rw [upd_ne (ne_of_none q h)]; exact q
def SqF (K : PySem.W.Frag) (H : Hp) (a : Addr) (xs : List V) : Prop :=
  (∃ o, H a = some (.frz o (.lst xs))) ∨ ∃ (o : Obj) (its : Array Value) (n : Nat), K.lookup a = some o ∧ o.cls = .type "list" ∧ o.dict = none ∧ o.data = .seq its n ∧ its.size ≤ sizeLine ∧ Vals xs its.toList
theorem SqF.sq {K : PySem.W.Frag} {H : Hp} {a : Addr} {xs : List V} (h : SqF K H a xs) : SqL K H a xs := by
  rcases h with ⟨o, h⟩ | h
  · exact .inl (.inr ⟨o, h⟩)
  · exact .inr h
theorem SqF.of {K : PySem.W.Frag} {H : Hp} {a : Addr} {xs : List V} (O : Only H) (h : SqL K H a xs) : SqF K H a xs := by
  rcases h with (h | ⟨o, h⟩) | h
  · rcases O a with z | ⟨o, ys, z⟩
    · rw [z] at h; cases h
    · rw [z] at h; cases h
  · exact .inl ⟨o, h⟩
  · exact .inr h
theorem SqF.keep {K : PySem.W.Frag} {H H' : Hp} {a : Addr} {xs : List V} (h : SqF K H a xs) (k : ∀ o u, H a = some (.frz o u) → H' a = some (.frz o u)) : SqF K H' a xs := by
  rcases h with ⟨o, h⟩ | h
  · exact .inl ⟨o, k _ _ h⟩
  · exact .inr h
structure Tk (K : PySem.W.Frag) (H : Hp) (p : Addr) (k : Int) : Prop where
  ex : ∃ (a : Addr) (ns : List Int), H p = some (.lst [.ref a, .int k]) ∧ SqF K H a (ns.map V.int) ∧ ns.length ≤ 63
  lo : 0 ≤ k
theorem Tk.go {K : PySem.W.Frag} {H H' : Hp} {p : Addr} {k : Int} (T : Tk K H p k) (h : But p H H') (e : H' p = H p) : Tk K H' p k := by
  obtain ⟨⟨a, ns, h1, h2, h3⟩, lo⟩ := T
  exact ⟨⟨a, ns, e.trans h1, h2.keep fun o u z => h a _ (ne_of z h1 (by intro y; cases y)) z, h3⟩, lo⟩
theorem Tk.ne {K : PySem.W.Frag} {H : Hp} {p q : Addr} {k : Int} (T : Tk K H p k) (h : H q = none) : p ≠ q := by
  obtain ⟨⟨a, ns, h1, _⟩, _⟩ := T
  exact ne_of_none h1 h
theorem Tk.laid {K : PySem.W.Frag} {H : Hp} {p q : Addr} {k : Int} {o : HO} (T : Tk K H p k) (h : H q = none) : Tk K (upd H q o) p k := T.go (But.laid h) (upd_ne (T.ne h))
theorem Tk.same {K : PySem.W.Frag} {H H' : Hp} {p : Addr} {k : Int} (T : Tk K H p k) (h : Same H H') : Tk K H' p k := by
  obtain ⟨⟨a, ns, h1, h2, h3⟩, lo⟩ := T
  exact ⟨⟨a, ns, h p _ h1, h2.keep fun o u z => h _ _ z, h3⟩, lo⟩
theorem Tk.begin {K : PySem.W.Frag} {H : Hp} {p a : Addr} {ns : List Int} (hp : H p = none) (hS : SqF K H a (ns.map V.int)) (h63 : ns.length ≤ 63) : Tk K (upd H p (.lst [.ref a, .int 0])) p 0 :=
  ⟨⟨a, ns, upd_same, hS.keep fun o u z => by rw [upd_ne (ne_of_none z hp)]; exact z, h63⟩, Int.le_refl 0⟩
def spTake (K : PySem.W.Frag) : Sp := fun vs H Q _ => ∃ (p : Addr) (k m : Int), vs = [.ref p, .int m] ∧ Tk K H p k ∧ k ≤ 1000000 ∧ 0 < m ∧ ∀ (r : Int) (H' : Hp), 0 ≤ r → r < m → But p H H' → Tk K H' p (k + 1) → Q (.int r) H'
def spName : Sp := fun vs H Q _ => ∃ t : Str, vs = [.str t] ∧ t.length ≤ 1000 ∧ ∀ H', Same H H' → Q (.bl (isName t)) H'
def spNumber : Sp := fun vs H Q _ => ∃ t : Str, vs = [.str t] ∧ t.length ≤ 1000 ∧ ∀ H', Same H H' → Q (.bl (isNumber t)) H'
def spWhole : Sp := fun vs H Q _ => ∃ (t : Str) (n : Int), vs = [.str t, .int n] ∧ t.length ≤ 1000 ∧ ∀ H', Same H H' → Q (.bl (isWhole t n)) H'
def spLaw (K : PySem.W.Frag) : Sp := fun vs H Q _ => ∃ (a : Addr) (ns : List Int), vs = [.ref a] ∧ SqF K H a (ns.map V.int) ∧ ns.length ≤ 63 ∧ ∀ H', Q (.bl true) H'
abbrev rInStr : R2 := fun x y H Q => ∃ i j, x = .str i ∧ y = .str j ∧ Q (.bl (!(Builtin.Str.occurrences j i 0 j.length 1).isEmpty)) H
theorem comp_signs {t L : Str} {σ : L2.St} {H : Hp} {Q : VK} (hz : t.length ≤ sizeLine) (q : ∀ p, H p = none → Q (.ref p) (upd H p (.lst ((t.cps.toList.map fun c => inS c L).map V.bl)))) :
    CompW (Its t) H (gName 0) tTrue (tOp rInStr (tVar 0) (tC (.str L))) 1 [] σ Q := by
  refine comp_str (fun i ys H' => H' = H ∧ i ≤ t.cps.size ∧ ys = ((t.cps.toList.take i).map fun c => inS c L).map V.bl) ⟨rfl, Nat.zero_le _, rfl⟩ ?_ ?_ ?_
  · rintro i ys H' ⟨_, hi, rfl⟩
    rw [List.length_map, List.length_map, List.length_take]
    have e : t.length = t.cps.toList.length := by simp [Str.length]
    omega
  · rintro i c ys H' hc ⟨rfl, hi, rfl⟩
    refine ⟨rfl, _, rfl, _, _, rfl, rfl, rfl, ?_, ?_⟩
    · have hlt : i < t.cps.size := (Array.getElem?_eq_some_iff.mp hc).1
      exact hlt
    · have e : t.cps.toList[i]? = some c := by simpa using hc
      rw [List.take_add_one, e, List.map_append, List.map_append]
      rfl
  · rintro ys H' ⟨rfl, _, rfl⟩ p hp
    have q' := q p hp
    rw [List.take_of_length_le (by simp)]
    exact q'
section
variable {P : Program} {w : World} {K : PySem.W.Frag} {mg : Str → Option Value} {base : Heap} {f : Addr} {fd : FuncData}
theorem ok_is_name (T : Tx K mg) : FnOk P w K mg base CX0 2 T.f_is_name T.d_is_name P_is_name spName := by
  refine T.F_is_name.ok sc_is_name (fun vs H Q E h => ?_) (fun cdv A outer s H vs Q E hr h => ?_)
  · obtain ⟨t, rfl, _⟩ := h
    rfl
  obtain ⟨t, rfl, hz, q⟩ := h
  have hz' := small hz
  refine ⟨_,   (pss_one (ps_ret (pe_and (pe_chain op_le op_le pe_int (pe_callB call_len_str rfl T.z_len PySem.boot_len (pa_cons (pv 0) pa_nil)) pe_int) (pe_one (pe_callB (call_all rfl) rfl T.z_all boot_all (pa_cons (pe_comp (own := ["sign"]) (cap := []) rfl (BlkScope.chk rfl rfl) .nil (pi_str (pv 0)) (fun _ _ _ _ => (pg_name (i := 0) (show List.Nodup (["sign"] : List Str) by decide +kernel) rfl (Or.inl rfl))) (fun _ _ _ _ => pts_nil) (fun _ _ _ _ => by exact (pe_cmpR op_in_str (pv 0) (pe_glob (v := .str V_LETTERS) rfl T.g_LETTERS ⟨_, rfl⟩) rfl))) pa_nil)))))), ?_⟩
  refine ⟨_, rfl, t, rfl, hz', _, _, rfl, rfl, _, rfl, ?_⟩
  refine ite2 (fun c1 => ?_) (fun c1 => ?_)
  · refine ⟨_, _, rfl, rfl, _, rfl, ?_⟩
    refine ite2 (fun c2 => ?_) (fun c2 => ?_)
    · refine ⟨_, rfl, t, rfl, ?_⟩
      refine comp_signs hz' fun p hp => ?_
      refine ⟨p, _, rfl, SqL.of upd_same, ?_⟩
      have q' := q (upd H p (.lst ((t.cps.toList.map fun c => inS c LL).map V.bl))) (same_new hp _)
      have e : isName t = allIn t LL := by
        unfold isName short
        rw [c1, c2, Bool.true_and, Bool.true_and]
      rw [e] at q'
      exact q'
    · have q' := q H (Same.refl H)
      have e : isName t = false := by
        unfold isName short
        rw [Bool.eq_false_iff.mpr c2, Bool.and_false, Bool.false_and]
      rw [e] at q'
      exact q'
  · refine ⟨_, rfl, iteF ?_⟩
    have q' := q H (Same.refl H)
    have e : isName t = false := by
      unfold isName short
      rw [Bool.eq_false_iff.mpr c1, Bool.false_and, Bool.false_and]
    rw [e] at q'
    exact q'
theorem ok_is_whole (T : Tx K mg) : FnOk P w K mg base CX0 1 T.f_is_whole T.d_is_whole P_is_whole spWhole := by
  refine T.F_is_whole.ok sc_is_whole (fun vs H Q E h => ?_) (fun cdv A outer s H vs Q E hr h => ?_)
  · obtain ⟨t, n, rfl, _⟩ := h
    rfl
  obtain ⟨t, n, rfl, hz, q⟩ := h
  have hz' := small hz
  refine ⟨_,   (pss_cons (ps_if (PW.pt (pw_or (pt_not (pt_chain op_le op_le pe_int (pe_callB call_len_str rfl T.z_len PySem.boot_len (pa_cons (pv 0) pa_nil)) (pv 1))) (pw_or1 (pt_not (pt_val (pe_callB (call_all rfl) rfl T.z_all boot_all (pa_cons (pe_comp (own := ["sign"]) (cap := []) rfl (BlkScope.chk rfl rfl) .nil (pi_str (pv 0)) (fun _ _ _ _ => (pg_name (i := 0) (show List.Nodup (["sign"] : List Str) by decide +kernel) rfl (Or.inl rfl))) (fun _ _ _ _ => pts_nil) (fun _ _ _ _ => by exact (pe_cmpR op_in_str (pv 0) (pe_glob (v := .str V_FIGURES) rfl T.g_FIGURES ⟨_, rfl⟩) rfl))) pa_nil)))))))
      (pss_one (ps_ret pe_bl))
      pss_nil)
    (pss_one (ps_ret (pe_or (pe_cmpR op_eq (pv 0) pe_str (nomark _)) (pe_one (pe_cmpR op_ne (pe_ix ix_str (pv 0) pe_int (fun _ _ => rfl)) pe_str (nomark _))))))), ?_⟩
  refine ⟨_, rfl, t, rfl, hz', _, _, rfl, rfl, _, rfl, ?_⟩
  refine ite2 (fun c1 => ?_) (fun c1 => ?_)
  · refine ⟨_, rfl, _, _, rfl, rfl, _, rfl, ?_⟩
    refine ite2 (fun c2 => ?_) (fun c2 => ?_)
    · refine iteT ?_
      have q' := q H (Same.refl H)
      have c2' : decide (((t.length : Nat) : Int) ≤ n) = false := by simpa using c2
      have e : isWhole t n = false := by
        unfold isWhole short
        rw [c2', Bool.and_false, Bool.false_and]
      rw [e] at q'
      exact q'
    · have c2' : decide (((t.length : Nat) : Int) ≤ n) = true := by simpa using c2
      refine ⟨_, rfl, t, rfl, ?_⟩
      refine comp_signs hz' fun p hp => ?_
      refine ⟨p, _, rfl, SqL.of upd_same, _, rfl, ?_⟩
      have S1 := same_new hp (.lst ((t.cps.toList.map fun c => inS c FF).map V.bl))
      have q' := q _ S1
      have e0 : isWhole t n = (allIn t FF && noZero t) := by
        unfold isWhole short
        rw [c1, c2', Bool.true_and, Bool.true_and]
      rw [e0] at q'
      refine ite2 (fun c3 => ?_) (fun c3 => ?_)
      · have c3' : allIn t FF = false := by simpa [allIn] using c3
        rw [c3', Bool.false_and] at q'
        exact q'
      · have c3' : allIn t FF = true := by simpa [allIn] using c3
        rw [c3', Bool.true_and] at q'
        refine ⟨_, rfl, rfl, _, rfl, ?_⟩
        refine ite2 (fun c4 => ?_) (fun c4 => ?_)
        · have e : noZero t = true := by
            unfold noZero
            rw [c4, Bool.true_or]
          rw [e] at q'
          exact q'
        · refine ⟨_, rfl, t, _, _, rfl, rfl, hz', first_sign (of_decide_eq_true c1), rfl, ?_⟩
          have e : noZero t = (!decide (V.str ⟨#[t.cps.getD 0 0]⟩ = V.str "0")) := by
            unfold noZero
            rw [Bool.eq_false_iff.mpr c4, Bool.false_or]
          rw [e] at q'
          exact q'
  · refine ⟨_, rfl, iteT (iteT ?_)⟩
    have q' := q H (Same.refl H)
    have e : isWhole t n = false := by
      unfold isWhole short
      rw [Bool.eq_false_iff.mpr c1, Bool.false_and, Bool.false_and]
    rw [e] at q'
    exact q'
theorem ok_is_number (T : Tx K mg) : FnOk P w K mg base CX0 2 T.f_is_number T.d_is_number P_is_number spNumber := by
  have G_is_whole := ok_is_whole (P := P) (w := w) (base := base) T
  refine T.F_is_number.ok sc_is_number (fun vs H Q E h => ?_) (fun cdv A outer s H vs Q E hr h => ?_)
  · obtain ⟨t, rfl, _⟩ := h
    rfl
  obtain ⟨t, rfl, hz, q⟩ := h
  refine ⟨_,   (pss_one (ps_ret (pe_call G_is_whole hr rfl T.m_is_whole T.F_is_whole.kp (b_is_whole T) .nil pass0 (pa_cons (pv 0) (pa_cons pe_int pa_nil))))), ?_⟩
  exact ⟨_, rfl, t, 3, rfl, hz, q⟩
end
section
variable {P : Program} {w : World} {K : PySem.W.Frag} {mg : Str → Option Value} {base : Heap} {f : Addr} {fd : FuncData}
theorem ok__law_take (T : Tx K mg) : FnOk P w K mg base CX0 2 T.f__law_take T.d__law_take P__law_take (spTake K) := by
  refine T.F__law_take.ok sc__law_take (fun vs H Q E h => ?_) (fun cdv A outer s H vs Q E hr h => ?_)
  · obtain ⟨p, k, m, rfl, _⟩ := h
    rfl
  obtain ⟨p, k, m, rfl, TT, hk, hm, q⟩ := h
  refine ⟨_,   (pss_cons (ps_set (i := 2) sc__law_take.nd rfl (Or.inl rfl) (pe_ix ix_list (pv 0) pe_int (fun _ _ => rfl)))
    (pss_cons (ps_set (i := 3) sc__law_take.nd rfl (Or.inl rfl) (pe_ix ix_list (pv 0) pe_int (fun _ _ => rfl)))
    (pss_cons (ps_asg (pe_op op_add (pv 3) pe_int) (pg_sub (pv 0) pe_int set_list))
    (pss_cons (ps_set (i := 4) sc__law_take.nd rfl (Or.inl rfl) (pe_op op_mul (pe_op op_mul (pv 3) (pv 3)) pe_int))
    (pss_cons (ps_if (pt_cmpR op_gt (pe_callB call_len_seq rfl T.z_len PySem.boot_len (pa_cons (pv 2) pa_nil)) pe_int (nomark _))
      (pss_one (ps_set (i := 4) sc__law_take.nd rfl (Or.inl rfl) (pe_op op_add (pe_op op_add (pv 4) (pe_op op_mod (pe_ix ix_list (pv 2) (pe_op op_mod (pv 3) (pe_callB call_len_seq rfl T.z_len PySem.boot_len (pa_cons (pv 2) pa_nil))) (fun _ _ => rfl)) pe_int)) (pe_op op_mul (pe_op op_fdiv (pv 3) (pe_callB call_len_seq rfl T.z_len PySem.boot_len (pa_cons (pv 2) pa_nil))) pe_int))))
      pss_nil)
    (pss_one (ps_ret (pe_op op_mod (pe_op op_fdiv (pe_op op_mod (pe_op op_mul (pe_op op_add (pv 4) pe_int) pe_int) pe_int) pe_int) (pv 1))))))))), ?_⟩
  obtain ⟨⟨a, ns, h1, h2, h3⟩, lo⟩ := TT
  refine ⟨_, rfl, p, _, _, _, rfl, rfl, SqL.of h1, rfl, ?_⟩
  refine ⟨_, rfl, p, _, _, _, rfl, rfl, SqL.of h1, rfl, ?_⟩
  refine ⟨_, rfl, _, _, rfl, rfl, _, rfl, p, _, _, _, rfl, rfl, h1, rfl, ?_⟩
  have B : But p H (upd H p (.lst [.ref a, .int (k + 1)])) := But.put
  have T1 : Tk K (upd H p (.lst [.ref a, .int (k + 1)])) p (k + 1) := ⟨⟨a, ns, upd_same, h2.keep fun o u z => by rw [upd_ne (ne_of z h1 (by intro y; cases y))]; exact z, h3⟩, by omega⟩
  have S1 : SqL K (upd H p (.lst [.ref a, .int (k + 1)])) a (ns.map V.int) := (h2.keep fun o u z => by rw [upd_ne (ne_of z h1 (by intro y; cases y))]; exact z).sq
  have hl : (ns.map V.int).length = ns.length := List.length_map _
  have big : ∀ c : Int, 0 ≤ c % m ∧ c % m < m := fun c => ⟨Int.emod_nonneg c (by omega), Int.emod_lt_of_pos c hm⟩
  refine ⟨_, rfl, _, rfl, _, _, rfl, rfl, .inl ⟨by omega, by omega⟩, _, _, rfl, rfl, .inr ⟨by decide, by decide⟩, ?_⟩
  refine ⟨_, rfl, a, _, rfl, .inl S1, _, _, rfl, rfl, _, rfl, ?_⟩
  refine ite2 (fun c => ?_) (fun c => ?_)
  · have c' : (0 : Int) < (((ns.map V.int).length : Nat) : Int) := of_decide_eq_true c
    have n0 : 0 ≤ k % (((ns.map V.int).length : Nat) : Int) := Int.emod_nonneg k (by omega)
    have n1 : k % (((ns.map V.int).length : Nat) : Int) < (((ns.map V.int).length : Nat) : Int) := Int.emod_lt_of_pos k c'
    obtain ⟨z, hz⟩ := at_ints (ns := ns) n0 (by omega)
    refine ⟨_, rfl, _, rfl, _, rfl, _, rfl, a, _, rfl, .inl S1, _, _, rfl, rfl, c', a, _, _, _, rfl, rfl, S1, hz, _, _, rfl, rfl, (by show (0 : Int) < 2147483647; decide), _, _, rfl, rfl, ?_⟩
    refine ⟨_, rfl, _, rfl, a, _, rfl, .inl S1, _, _, rfl, rfl, ⟨c', by omega⟩, _, _, rfl, rfl, .inr ⟨by decide, by decide⟩, _, _, rfl, rfl, ?_⟩
    refine ⟨_, rfl, _, _, rfl, rfl, _, _, rfl, rfl, .inr ⟨by decide, by decide⟩, _, _, rfl, rfl, (by show (0 : Int) < 2147483629; decide), _, _, rfl, rfl, ⟨by decide, by decide⟩, _, rfl, _, _, rfl, rfl, hm, ?_⟩
    exact q _ _ (big _).1 (big _).2 B T1
  · refine ⟨_, rfl, _, _, rfl, rfl, _, _, rfl, rfl, .inr ⟨by decide, by decide⟩, _, _, rfl, rfl, (by show (0 : Int) < 2147483629; decide), _, _, rfl, rfl, ⟨by decide, by decide⟩, _, rfl, _, _, rfl, rfl, hm, ?_⟩
    exact q _ _ (big _).1 (big _).2 B T1
end
theorem inS_LL : ∀ c : Nat, c < 123 → 97 ≤ c → inS c LL = true := by decide +kernel
theorem name_isName {n : Str} (h : NameOk n) : isName n = true := by
  unfold isName short allIn
  obtain ⟨h1, h2, h3⟩ := h
  rw [decide_eq_true (by omega), decide_eq_true (by omega), Bool.true_and, Bool.true_and, List.all_eq_true]
  intro b hb
  obtain ⟨c, hc, rfl⟩ := List.mem_map.mp hb
  exact inS_LL c (by have := h3 c hc; omega) (h3 c hc).1
theorem num_isNumber : ∀ i : Nat, i < 1000 → isNumber (toString (i : Int) : Str) = true := by decide +kernel
theorem num_int : ∀ i : Nat, i < 1000 → PySem.intText? (toString (i : Int) : Str) = some (i : Int) := by decide +kernel
theorem look_hit {f : Str} {v : V} {r : List (Str × V)} : List.lookup f ((f, v) :: r) = some v := by rw [List.lookup_cons, beq_self_eq_true]
theorem look_miss {f g : Str} {v : V} {r : List (Str × V)} (h : ¬ f = g) : List.lookup f ((g, v) :: r) = List.lookup f r := by
  have e : (f == g) = false := by simpa using h
  rw [List.lookup_cons, e]
theorem put_nil {f : Str} {v : V} : putF f v [] = [(f, v)] := rfl
theorem put_hit {f : Str} {v u : V} {r : List (Str × V)} : putF f v ((f, u) :: r) = (f, v) :: r := by
  show (if f = f then (f, v) :: r else (f, u) :: putF f v r) = _
  rw [if_pos rfl]
theorem put_miss {f g : Str} {v u : V} {r : List (Str × V)} (h : ¬ g = f) : putF f v ((g, u) :: r) = (g, u) :: putF f v r := by
  show (if g = f then (g, v) :: r else (g, u) :: putF f v r) = _
  rw [if_neg h]
def wfs (l : Addr) (k : Int) : List (Str × V) := [("words", .ref l), ("place", .int k)]
theorem ne_wp : ¬ (("words" : Str) = "place") := by decide +kernel
theorem ne_pw : ¬ (("place" : Str) = "words") := by decide +kernel
theorem wfs_words (l : Addr) (k : Int) : (wfs l k).lookup ("words" : Str) = some (.ref l) := look_hit
theorem wfs_place (l : Addr) (k : Int) : (wfs l k).lookup ("place" : Str) = some (.int k) := (look_miss ne_pw).trans look_hit
theorem wfs_put (l : Addr) (k j : Int) : putF "place" (.int j) (wfs l k) = wfs l j := (put_miss ne_wp).trans (congrArg _ put_hit)
theorem wfs_init (l : Addr) (j : Int) : putF "place" (.int j) (putF "words" (.ref l) []) = wfs l j := (put_miss ne_wp).trans rfl
theorem wfs_no (l : Addr) (k : Int) {m : Str} (h1 : ¬ m = "words") (h2 : ¬ m = "place") : (wfs l k).lookup m = none := (look_miss h1).trans ((look_miss h2).trans rfl)
def WAt (C : Addr) (H : Hp) (p : Addr) (ws : List Str) (k : Nat) : Prop := ∃ dx l, H p = some (.ins C dx (wfs l (k : Int))) ∧ H l = some (.lst (ws.map V.str))
theorem WAt.at {C : Addr} {H H' : Hp} {p : Addr} {ws : List Str} {k : Nat} (h : WAt C H p ws k) (s : Same H H') : WAt C H' p ws k := by
  obtain ⟨dx, l, h1, h2⟩ := h
  exact ⟨dx, l, s _ _ h1, s _ _ h2⟩
theorem WAt.go {C : Addr} {H : Hp} {p dx l : Addr} {ws : List Str} {k j : Nat} (h1 : H p = some (.ins C dx (wfs l (k : Int)))) (h2 : H l = some (.lst (ws.map V.str))) : WAt C (upd H p (.ins C dx (wfs l (j : Int)))) p ws j := by
  have n : l ≠ p := ne_of h2 h1 (by intro z; cases z)
  exact ⟨dx, l, upd_same, by rw [upd_ne n]; exact h2⟩
theorem But.of_same {p : Addr} {H H1 H2 : Hp} (a : But p H H1) (b : Same H1 H2) : But p H H2 := a.trans (But.same b)
theorem But.new {p : Addr} {H H1 : Hp} (b : But p H H1) (h : H p = none) : Same H H1 := fun c o e => b c o (ne_of_none e h) e
theorem at_str {ws : List Str} {k : Nat} {u : Str} (h : ws[k]? = some u) : atI (ws.map V.str) (k : Int) = some (.str u) := atI_nat (by rw [List.getElem?_map, h]; rfl)
def spWords (C : Addr) : Sp := fun vs H Q _ => ∃ (p dx : Addr) (t : Str), vs = [.ref p, .str t] ∧ H p = some (.ins C dx []) ∧ t.length ≤ 1000 ∧ ∀ H', WAt C H' p (Txt.split t " ") 0 → But p H H' → Q .non H'
def spWTake (C : Addr) : Sp := fun vs H Q _ => ∃ (p : Addr) (ws : List Str) (k : Nat) (u : Str), vs = [.ref p] ∧ WAt C H p ws k ∧ ws[k]? = some u ∧ ∀ H', WAt C H' p ws (k + 1) → But p H H' → Q (.str u) H'
def spWName (C : Addr) : Sp := fun vs H Q _ => ∃ (p : Addr) (ws : List Str) (k : Nat) (u : Str), vs = [.ref p] ∧ WAt C H p ws k ∧ ws[k]? = some u ∧ NameOk u ∧ ∀ H', WAt C H' p ws (k + 1) → But p H H' → Q (.str u) H'
def spWNumber (C : Addr) : Sp := fun vs H Q _ => ∃ (p : Addr) (ws : List Str) (k i : Nat), vs = [.ref p] ∧ WAt C H p ws k ∧ ws[k]? = some (toString (i : Int) : Str) ∧ i < 1000 ∧ ∀ H', WAt C H' p ws (k + 1) → But p H H' → Q (.int i) H'
def spWFinish (C : Addr) : Sp := fun vs H Q _ => ∃ (p : Addr) (ws : List Str), vs = [.ref p] ∧ WAt C H p ws ws.length ∧ Q .non H
section
variable {P : Program} {w : World} {K : PySem.W.Frag} {mg : Str → Option Value} {base : Heap}
theorem ok_Words (T : Tx K mg) : FnOk P w K mg base CX0 2 T.f_Words___init__ T.d_Words___init__ P_Words___init__ (spWords T.c_Words) := by
  refine T.F_Words___init__.ok sc_Words___init__ (fun vs H Q E h => ?_) (fun cdv A outer s H vs Q E hr h => ?_)
  · obtain ⟨p, dx, t, rfl, _⟩ := h
    rfl
  obtain ⟨p, dx, t, rfl, hp, ht, q⟩ := h
  refine ⟨_,   (pss_cons (ps_fld (pv 0) (pe_bm PySem.F.plainAttrs_str PySem.F.slot_str_split PySem.F.type_str_split mt_split (pv 1) (pa_cons pe_str pa_nil)) rfl)
    (pss_one (ps_fld (pv 0) pe_int rfl))), ?_⟩
  refine ⟨_, rfl, rfl, t, _, rfl, rfl, (by decide +kernel), (Nat.le_trans (Nat.add_le_add_right ht 2) (by decide)), fun l hl => ?_⟩
  have npl : p ≠ l := ne_of_none hp hl
  refine ⟨_, rfl, p, _, dx, _, rfl, (by rw [upd_ne npl]; exact hp), T.cl_Words, T.n_Words_words, (by show 0 < 1000; decide), ?_⟩
  refine ⟨_, rfl, p, _, dx, _, rfl, upd_same, T.cl_Words, T.n_Words_place, (by show 1 < 1000; decide), ?_⟩
  refine q _ ⟨dx, l, ?_, ?_⟩ ?_
  · rw [upd_same, wfs_init]
    rfl
  · rw [upd_ne npl.symm, upd_ne npl.symm, upd_same]
  · exact (But.laid hl).trans (But.put.trans But.put)
theorem ok_Words_take (T : Tx K mg) : FnOk P w K mg base CX0 2 T.f_Words_take T.d_Words_take P_Words_take (spWTake T.c_Words) := by
  refine T.F_Words_take.ok sc_Words_take (fun vs H Q E h => ?_) (fun cdv A outer s H vs Q E hr h => ?_)
  · obtain ⟨p, ws, k, u, rfl, _⟩ := h
    rfl
  obtain ⟨p, ws, k, u, rfl, ⟨dx, l, h1, h2⟩, hu, q⟩ := h
  refine ⟨_,   (pss_cons (ps_if (pt_cmpR op_eq (pe_fld (pv 0) rfl) (pe_callB call_len_seq rfl T.z_len PySem.boot_len (pa_cons (pe_fld (pv 0) rfl) pa_nil)) (nomark _))
      (pss_one ps_never)
      pss_nil)
    (pss_cons (ps_fldaug (pv 0) pe_int in_add)
    (pss_one (ps_ret (pe_ix ix_list (pe_fld (pv 0) rfl) (pe_op op_sub (pe_fld (pv 0) rfl) pe_int) (fun _ _ => rfl)))))), ?_⟩
  have hk : k < ws.length := (List.getElem?_eq_some_iff.mp hu).1
  have n : l ≠ p := ne_of h2 h1 (by intro z; cases z)
  refine ⟨_, rfl, p, _, dx, _, _, rfl, h1, T.cl_Words, T.n_Words_place, wfs_place _ _, _, rfl, p, _, dx, _, _, rfl, h1, T.cl_Words, T.n_Words_words, wfs_words _ _, l, _, rfl, .inl (SqL.of h2), rfl, _, rfl, ?_⟩
  refine ite2 (fun c => ?_) (fun c => ?_)
  · exfalso
    have c' := of_decide_eq_true c
    injection c' with c'
    rw [List.length_map] at c'
    omega
  · refine ⟨_, rfl, p, _, dx, _, _, rfl, h1, T.cl_Words, T.n_Words_place, wfs_place _ _, _, _, rfl, rfl, dx, _, h1, (by show 2 < 1000; decide), ?_⟩
    rw [wfs_put]
    refine ⟨_, rfl, p, _, dx, _, _, rfl, upd_same, T.cl_Words, T.n_Words_words, wfs_words _ _, _, rfl, p, _, dx, _, _, rfl, upd_same, T.cl_Words, T.n_Words_place, wfs_place _ _, _, _, rfl, rfl, l, _, _, _, rfl, rfl, SqL.of (by rw [upd_ne n]; exact h2), (by rw [Int.add_sub_cancel]; exact at_str hu), ?_⟩
    exact q _ (WAt.go (j := k + 1) h1 h2) But.put
theorem ok_Words_finish (T : Tx K mg) : FnOk P w K mg base CX0 2 T.f_Words_finish T.d_Words_finish P_Words_finish (spWFinish T.c_Words) := by
  refine T.F_Words_finish.ok sc_Words_finish (fun vs H Q E h => ?_) (fun cdv A outer s H vs Q E hr h => ?_)
  · obtain ⟨p, ws, rfl, _⟩ := h
    rfl
  obtain ⟨p, ws, rfl, ⟨dx, l, h1, h2⟩, q⟩ := h
  refine ⟨_,   (pss_one (ps_if (pt_cmpR op_lt (pe_fld (pv 0) rfl) (pe_callB call_len_seq rfl T.z_len PySem.boot_len (pa_cons (pe_fld (pv 0) rfl) pa_nil)) (nomark _))
      (pss_one ps_never)
      pss_nil)), ?_⟩
  refine ⟨_, rfl, p, _, dx, _, _, rfl, h1, T.cl_Words, T.n_Words_place, wfs_place _ _, _, rfl, p, _, dx, _, _, rfl, h1, T.cl_Words, T.n_Words_words, wfs_words _ _, l, _, rfl, .inl (SqL.of h2), _, _, rfl, rfl, _, rfl, ?_⟩
  refine ite2 (fun c => ?_) (fun c => ?_)
  · exfalso
    have c' := of_decide_eq_true c
    rw [List.length_map] at c'
    omega
  · exact q
theorem ok_Words_take_name (T : Tx K mg) : FnOk P w K mg base CX0 3 T.f_Words_take_name T.d_Words_take_name P_Words_take_name (spWName T.c_Words) := by
  have G_Words_take := ok_Words_take (P := P) (w := w) (base := base) T
  have G_is_name := ok_is_name (P := P) (w := w) (base := base) T
  refine T.F_Words_take_name.ok sc_Words_take_name (fun vs H Q E h => ?_) (fun cdv A outer s H vs Q E hr h => ?_)
  · obtain ⟨p, ws, k, u, rfl, _⟩ := h
    rfl
  obtain ⟨p, ws, k, u, rfl, W, hu, hn, q⟩ := h
  refine ⟨_,   (pss_cons (ps_set (i := 1) sc_Words_take_name.nd rfl (Or.inl rfl) (pe_meth0 (pv 0) T.cl_Words T.M_Words_take G_Words_take hr (b_Words_take T) .nil pass0))
    (pss_cons (ps_if (pt_not (pt_val (pe_call G_is_name hr rfl T.m_is_name T.F_is_name.kp (b_is_name T) .nil pass0 (pa_cons (pv 1) pa_nil))))
      (pss_one ps_never)
      pss_nil)
    (pss_one (ps_ret (pv 1))))), ?_⟩
  obtain ⟨dx, l, h1, h2⟩ := id W
  refine ⟨_, rfl, p, dx, _, rfl, h1, wfs_no _ _ (by decide +kernel) (by decide +kernel), p, ws, k, u, rfl, W, hu, fun H1 W1 B1 => ?_⟩
  refine ⟨_, rfl, u, rfl, (Nat.le_trans hn.2.1 (by decide)), fun H2 S2 => ?_⟩
  rw [name_isName hn]
  refine ⟨_, rfl, iteF ?_⟩
  exact ⟨_, rfl, q H2 (W1.at S2) (B1.of_same S2)⟩
theorem ok_Words_take_number (T : Tx K mg) : FnOk P w K mg base CX0 3 T.f_Words_take_number T.d_Words_take_number P_Words_take_number (spWNumber T.c_Words) := by
  have G_Words_take := ok_Words_take (P := P) (w := w) (base := base) T
  have G_is_number := ok_is_number (P := P) (w := w) (base := base) T
  refine T.F_Words_take_number.ok sc_Words_take_number (fun vs H Q E h => ?_) (fun cdv A outer s H vs Q E hr h => ?_)
  · obtain ⟨p, ws, k, i, rfl, _⟩ := h
    rfl
  obtain ⟨p, ws, k, i, rfl, W, hu, hi, q⟩ := h
  refine ⟨_,   (pss_cons (ps_set (i := 1) sc_Words_take_number.nd rfl (Or.inl rfl) (pe_meth0 (pv 0) T.cl_Words T.M_Words_take G_Words_take hr (b_Words_take T) .nil pass0))
    (pss_cons (ps_if (pt_not (pt_val (pe_call G_is_number hr rfl T.m_is_number T.F_is_number.kp (b_is_number T) .nil pass0 (pa_cons (pv 1) pa_nil))))
      (pss_one ps_never)
      pss_nil)
    (pss_one (ps_ret (pe_callTy call_int_text rfl T.z_int boot_int (pa_cons (pv 1) pa_nil)))))), ?_⟩
  obtain ⟨dx, l, h1, h2⟩ := id W
  refine ⟨_, rfl, p, dx, _, rfl, h1, wfs_no _ _ (by decide +kernel) (by decide +kernel), p, ws, k, _, rfl, W, hu, fun H1 W1 B1 => ?_⟩
  have hl := num_len i hi
  refine ⟨_, rfl, _, rfl, (by omega), fun H2 S2 => ?_⟩
  rw [num_isNumber i hi]
  refine ⟨_, rfl, iteF ?_⟩
  exact ⟨_, rfl, _, _, rfl, num_int i hi, (by omega), q H2 (W1.at S2) (B1.of_same S2)⟩
end
def valV : Wv → V
  | .non => .non
  | .name n => .str n
  | .num i => .int i
def hfs (w : Str) (v : V) (t : Addr) : List (Str × V) := [("word", .str w), ("value", v), ("parts", .ref t)]
theorem ne_vw : ¬ (("value" : Str) = "word") := by decide +kernel
theorem ne_wv : ¬ (("word" : Str) = "value") := by decide +kernel
theorem ne_ptw : ¬ (("parts" : Str) = "word") := by decide +kernel
theorem ne_wpt : ¬ (("word" : Str) = "parts") := by decide +kernel
theorem ne_ptv : ¬ (("parts" : Str) = "value") := by decide +kernel
theorem ne_vpt : ¬ (("value" : Str) = "parts") := by decide +kernel
theorem hfs_word (w : Str) (v : V) (t : Addr) : (hfs w v t).lookup ("word" : Str) = some (.str w) := look_hit
theorem hfs_value (w : Str) (v : V) (t : Addr) : (hfs w v t).lookup ("value" : Str) = some v := (look_miss ne_vw).trans look_hit
theorem hfs_parts (w : Str) (v : V) (t : Addr) : (hfs w v t).lookup ("parts" : Str) = some (.ref t) := (look_miss ne_ptw).trans ((look_miss ne_ptv).trans look_hit)
theorem hfs_init (w : Str) (v : V) (t : Addr) : putF "parts" (.ref t) (putF "value" v (putF "word" (.str w) [])) = hfs w v t := by
  rw [put_nil, put_miss ne_wv, put_nil, put_miss ne_wpt, put_miss ne_vpt, put_nil]
  rfl
theorem hfs_no (w : Str) (v : V) (t : Addr) {m : Str} (h1 : ¬ m = "word") (h2 : ¬ m = "value") (h3 : ¬ m = "parts") : (hfs w v t).lookup m = none := (look_miss h1).trans ((look_miss h2).trans ((look_miss h3).trans rfl))
theorem hfs_wfs {C D dx dy t l : Addr} {w : Str} {v : V} {k : Int} : HO.ins D dx (hfs w v t) ≠ HO.ins C dy (wfs l k) := by
  intro z
  injection z with _ _ z
  exact absurd (congrArg List.length z) (by show ¬ (3 = 2); decide)
mutual
inductive IsW (D : Addr) (H : Hp) : V → Wh → Prop where
  | mk {a dx t : Addr} {vs : List V} {w : Wh} (h1 : H a = some (.ins D dx (hfs w.word (valV w.val) t))) (h2 : H t = some (.tup vs)) (h3 : IsWs D H vs w.parts) : IsW D H (.ref a) w
inductive IsWs (D : Addr) (H : Hp) : List V → List Wh → Prop where
  | nil : IsWs D H [] []
  | cons {v : V} {w : Wh} {vs : List V} {ws : List Wh} : IsW D H v w → IsWs D H vs ws → IsWs D H (v :: vs) (w :: ws)
end
mutual
theorem IsW.same {D : Addr} {H H' : Hp} (s : Same H H') : ∀ {v : V} {w : Wh}, IsW D H v w → IsW D H' v w
  | _, _, .mk h1 h2 h3 => .mk (s _ _ h1) (s _ _ h2) (h3.same s)
theorem IsWs.same {D : Addr} {H H' : Hp} (s : Same H H') : ∀ {vs : List V} {ws : List Wh}, IsWs D H vs ws → IsWs D H' vs ws
  | _, _, .nil => .nil
  | _, _, .cons h t => .cons (h.same s) (t.same s)
end
mutual
theorem IsW.but {D C p dy l : Addr} {k : Int} {H H' : Hp} (b : But p H H') (hp : H p = some (.ins C dy (wfs l k))) : ∀ {v : V} {w : Wh}, IsW D H v w → IsW D H' v w
  | _, _, .mk h1 h2 h3 => .mk (b _ _ (ne_of h1 hp hfs_wfs) h1) (b _ _ (ne_of h2 hp (by intro z; cases z)) h2) (h3.but b hp)
theorem IsWs.but {D C p dy l : Addr} {k : Int} {H H' : Hp} (b : But p H H') (hp : H p = some (.ins C dy (wfs l k))) : ∀ {vs : List V} {ws : List Wh}, IsWs D H vs ws → IsWs D H' vs ws
  | _, _, .nil => .nil
  | _, _, .cons h t => .cons (h.but b hp) (t.but b hp)
end
theorem IsWs.length {D : Addr} {H : Hp} : ∀ {vs : List V} {ws : List Wh}, IsWs D H vs ws → vs.length = ws.length
  | _, _, .nil => rfl
  | _, _, .cons _ t => by rw [List.length_cons, List.length_cons, t.length]
theorem IsWs.split {D : Addr} {H : Hp} : ∀ {xs : List Wh} {vs : List V} {ys : List Wh}, IsWs D H vs (xs ++ ys) → IsWs D H (vs.take xs.length) xs ∧ IsWs D H (vs.drop xs.length) ys
  | [], vs, ys, h => ⟨by rw [List.length_nil, List.take_zero]; exact .nil, by rw [List.length_nil, List.drop_zero]; exact h⟩
  | x :: xs, _, ys, .cons h t => by
    obtain ⟨a, b⟩ := IsWs.split (xs := xs) t
    exact ⟨.cons h a, b⟩
theorem IsWs.get {D : Addr} {H : Hp} : ∀ {vs : List V} {ws : List Wh} {i : Nat} {v : V}, IsWs D H vs ws → vs[i]? = some v → ∃ w, ws[i]? = some w ∧ IsW D H v w
  | _, _, _, _, .nil, e => by simp at e
  | _, _, 0, _, .cons h t, e => by
    rw [List.getElem?_cons_zero] at e
    cases e
    exact ⟨_, rfl, h⟩
  | _, _, i + 1, _, .cons h t, e => by
    rw [List.getElem?_cons_succ] at e
    obtain ⟨w, h1, h2⟩ := t.get e
    exact ⟨w, by rw [List.getElem?_cons_succ]; exact h1, h2⟩
theorem cutV_take (xs : List V) (n : Nat) : cutV xs none (some (n : Int)) = xs.take n := by
  unfold cutV
  rw [HT.sIx_none, HT.sIx_nat, List.drop_zero, Nat.sub_zero]
  by_cases h : n ≤ xs.length
  · rw [Nat.min_eq_left h]
  · rw [Nat.min_eq_right (by omega), List.take_of_length_le (Nat.le_refl _), List.take_of_length_le (by omega)]
theorem cutV_drop (xs : List V) (n : Nat) : cutV xs (some (n : Int)) none = xs.drop n := by
  unfold cutV
  rw [HT.sIx_none, HT.sIx_nat]
  by_cases h : n ≤ xs.length
  · rw [Nat.min_eq_left h, List.take_of_length_le (by rw [List.length_drop]; exact Nat.le_refl _)]
  · rw [Nat.min_eq_right (by omega), Nat.sub_self, List.take_zero, List.drop_eq_nil_of_le (by omega)]
theorem size_parts (w : Wh) : ∀ p ∈ w.parts, p.size < w.size := by
  cases w <;> simp [Wh.parts, Wh.size] <;> omega
theorem parts_le (w : Wh) : w.parts.length ≤ 2 := by
  cases w <;> simp [Wh.parts]
theorem val_le (w : Wh) : w.val.words.length ≤ 1 := by
  cases w <;> simp [Wh.val, Wv.words]
theorem txt_len {w : Wh} (h : w.ok) (hs : w.size ≤ 9) : (Str.join " " w.words).length ≤ 200 := by
  have a := join_len " " w.words
  have b := w.words_len
  have c := sum_le (l := w.words.map (·.length)) (k := 8) (fun x hx => by
    obtain ⟨u, hu, rfl⟩ := List.mem_map.mp hx
    exact (Wh.words_ok h u hu).2.2)
  rw [List.length_map] at c
  have e : (" " : Str).length = 1 := rfl
  rw [e] at a
  omega
theorem val_ok {w : Wh} (h : w.ok) : ∀ u ∈ w.val.words, WordOk u := by
  intro u hu
  refine Wh.words_ok h u ?_
  rw [w.words_eq]
  exact List.mem_cons_of_mem _ (List.mem_append_left _ hu)
theorem told_size {w : Wh} (h : w.ok) (hs : w.size ≤ 9) : ((w.word :: (w.val.words ++ w.parts.map fun p => Str.join " " p.words)).map (·.length)).sum + (w.word :: (w.val.words ++ w.parts.map fun p => Str.join " " p.words)).length * (" " : Str).length ≤ 16777216 := by
  have c := sum_le (l := (w.word :: (w.val.words ++ w.parts.map fun p => Str.join " " p.words)).map (·.length)) (k := 200) (fun x hx => by
    obtain ⟨u, hu, rfl⟩ := List.mem_map.mp hx
    rcases List.mem_cons.mp hu with e | e
    · rw [e]
      have := (w.word_ok).2.2
      omega
    · rcases List.mem_append.mp e with e | e
      · have := (val_ok h u e).2.2
        omega
      · obtain ⟨p, hp, rfl⟩ := List.mem_map.mp e
        exact txt_len (Wh.ok_parts h p hp) (by have := size_parts w p hp; omega))
  have n1 := parts_le w
  have n2 := val_le w
  have e : (" " : Str).length = 1 := rfl
  rw [e]
  rw [List.length_map] at c
  have l : (w.word :: (w.val.words ++ w.parts.map fun p => Str.join " " p.words)).length = 1 + (w.val.words.length + w.parts.length) := by
    rw [List.length_cons, List.length_append, List.length_map]
    omega
  rw [l] at c ⊢
  omega
theorem log_small : ∀ i : Nat, i < 1000 → i.log2 < 1920 := by decide +kernel
theorem part_dat (w : Wh) : KTD.datumAt w.word D_PARTS = some (.flat (.int (w.parts.length : Nat))) := by
  cases w <;> rfl
theorem part_in (w : Wh) : KTD.inKeys w.word D_PARTS = true := by
  cases w <;> rfl
def spWhom (D : Addr) : Sp := fun vs H Q _ => ∃ (x dx t : Addr) (u : Str) (v : V), vs = [.ref x, .str u, v, .ref t] ∧ H x = some (.ins D dx []) ∧ Q .non (upd H x (.ins D dx (hfs u v t)))
def spTold (D : Addr) (n : Nat) : Sp := fun vs H Q _ => ∃ (v : V) (w : Wh), vs = [v] ∧ IsW D H v w ∧ w.ok ∧ w.depth ≤ n ∧ w.size ≤ 9 ∧ ∀ H', Same H H' → Q (.str (Str.join " " w.words)) H'
section
variable {P : Program} {w : World} {K : PySem.W.Frag} {mg : Str → Option Value} {base : Heap}
theorem ok_Whom (T : Tx K mg) : FnOk P w K mg base CX0 2 T.f_Whom___init__ T.d_Whom___init__ P_Whom___init__ (spWhom T.c_Whom) := by
  refine T.F_Whom___init__.ok sc_Whom___init__ (fun vs H Q E h => ?_) (fun cdv A outer s H vs Q E hr h => ?_)
  · obtain ⟨x, dx, t, u, v, rfl, _⟩ := h
    rfl
  obtain ⟨x, dx, t, u, v, rfl, hx, q⟩ := h
  refine ⟨_,   (pss_cons (ps_fld (pv 0) (pv 1) rfl)
    (pss_cons (ps_fld (pv 0) (pv 2) rfl)
    (pss_one (ps_fld (pv 0) (pv 3) rfl)))), ?_⟩
  refine ⟨_, rfl, _, rfl, x, _, dx, _, rfl, hx, T.cl_Whom, T.n_Whom_word, (by show 0 < 1000; decide), ?_⟩
  refine ⟨_, rfl, _, rfl, x, _, dx, _, rfl, upd_same, T.cl_Whom, T.n_Whom_value, (by show 1 < 1000; decide), ?_⟩
  refine ⟨_, rfl, _, rfl, x, _, dx, _, rfl, upd_same, T.cl_Whom, T.n_Whom_parts, (by rw [put_nil, put_miss ne_wv, put_nil]; show 2 < 1000; decide), ?_⟩
  show Q .non _
  rw [upd_upd, upd_upd, hfs_init]
  exact q
theorem told_step (T : Tx K mg) {n : Nat} (G_Whom_told : FnOk P w K mg base CX0 (n + 2) T.f_Whom_told T.d_Whom_told P_Whom_told (spTold T.c_Whom n)) : FnOk P w K mg base CX0 (n + 3) T.f_Whom_told T.d_Whom_told P_Whom_told (spTold T.c_Whom (n + 1)) := by
  refine T.F_Whom_told.ok sc_Whom_told (fun vs H Q E h => ?_) (fun cdv A outer s H vs Q E hr h => ?_)
  · obtain ⟨v, w, rfl, _⟩ := h
    rfl
  obtain ⟨v, y, rfl, W, ok, hd, hs, q⟩ := h
  refine ⟨_,   (pss_cons (ps_set (i := 1) sc_Whom_told.nd rfl (Or.inl rfl) (pe_lst (pa_cons (pe_fld (pv 0) rfl) pa_nil)))
    (pss_cons (ps_if (pt_cmpR op_notN (pe_fld (pv 0) rfl) pe_non (nomark _))
      (pss_one (ps_expr (pe_bm PySem.F.plainAttrs_list PySem.F.slot_list_append PySem.F.type_list_append mt_append (pv 1) (pa_cons (pe_callTy call_str_any rfl T.z_str boot_str (pa_cons (pe_fld (pv 0) rfl) pa_nil)) pa_nil))))
      pss_nil)
    (pss_cons (ps_expr (pe_bm PySem.F.plainAttrs_list PySem.F.slot_list_extend PySem.F.type_list_extend mt_extend (pv 1) (pa_cons (pe_comp (own := ["part"]) (cap := []) rfl (BlkScope.chk rfl rfl) .nil (pi_tup (pe_fld (pv 0) rfl)) (fun _ _ _ _ => (pg_name (i := 0) (show List.Nodup (["part"] : List Str) by decide +kernel) rfl (Or.inl rfl))) (fun _ _ _ _ => pts_nil) (fun _ _ _ _ => by exact (pe_meth0 (pv 0) T.cl_Whom T.M_Whom_told G_Whom_told hr (b_Whom_told T) .nil pass0))) pa_nil)))
    (pss_one (ps_ret (pe_bm PySem.F.plainAttrs_str PySem.F.slot_str_join PySem.F.type_str_join mt_join pe_str (pa_cons (pv 1) pa_nil))))))), ?_⟩
  cases W with
  | @mk a dx t ps _ h1 h2 h3 =>
  refine ⟨_, rfl, a, _, dx, _, _, rfl, h1, T.cl_Whom, T.n_Whom_word, hfs_word _ _ _, (by show 1 ≤ sizeLine; decide), fun l hl => ?_⟩
  have nal : a ≠ l := ne_of_none h1 hl
  have ntl : t ≠ l := ne_of_none h2 hl
  refine ⟨_, rfl, a, _, dx, _, _, rfl, (by rw [upd_ne nal]; exact h1), T.cl_Whom, T.n_Whom_value, hfs_value _ _ _, rfl, _, rfl, ?_⟩
  have S1 : Same H (upd H l (.lst [.str y.word])) := same_new hl _
  refine ite2 (fun c => ?g1) (fun c => ?g2)
  case' g1 =>
    have nv : valV y.val ≠ .non := by simpa using c
    have ev : ∃ u, y.val.words = [u] ∧ ((valV y.val = .str u) ∨ ∃ i : Nat, i < 1000 ∧ valV y.val = .int i ∧ u = (toString (i : Int) : Str)) := by
      cases y with
      | mark m => exact ⟨m, rfl, .inl rfl⟩
      | force i => exact ⟨_, rfl, .inr ⟨i, ok, rfl, rfl⟩⟩
      | _ => exact absurd rfl nv
    obtain ⟨u, eu, hv⟩ := ev
    have rd : ∀ (H0 : Hp) (Q' : VK), Q' (.str u) H0 → rStrAny [valV y.val] H0 Q' := by
      intro H0 Q' z
      unfold rStrAny
      rcases hv with e | ⟨i, hi, e, rfl⟩
      · exact .inl ⟨u, by rw [e], z⟩
      · exact .inr ⟨i, by rw [e], (by rw [Int.natAbs_natCast]; exact log_small i hi), z⟩
    refine ⟨_, rfl, .inl ⟨rfl, _, SqL.of upd_same⟩, _, rfl, a, _, dx, _, valV y.val, rfl, (by rw [upd_ne nal]; exact h1), T.cl_Whom, T.n_Whom_value, hfs_value _ _ _, ?_⟩
    show rStrAny [valV y.val] _ _
    refine rd _ _ ?_
    refine ⟨l, _, _, rfl, rfl, upd_same, (by show 1 < sizeLine; decide), ?_⟩
    rw [upd_upd]
    have e2 : upd H l (.lst ([.str y.word] ++ [.str u])) l = some (.lst ((y.word :: y.val.words).map V.str)) := by rw [upd_same, eu]; rfl
    have S2 : Same H (upd H l (.lst ([.str y.word] ++ [.str u]))) := same_new hl _
    generalize upd H l (.lst ([.str y.word] ++ [.str u])) = H2 at *
  case' g2 =>
    have nv : valV y.val = .non := by simpa using c
    have eu : y.val.words = [] := by
      cases y with
      | mark m => exact absurd nv (by intro z; cases z)
      | force i => exact absurd nv (by intro z; cases z)
      | _ => rfl
    have e2 : upd H l (.lst [.str y.word]) l = some (.lst ((y.word :: y.val.words).map V.str)) := by rw [upd_same, eu]; rfl
    have S2 := S1
    clear S1
    generalize upd H l (.lst [.str y.word]) = H2 at *
  all_goals
    refine ⟨_, rfl, .inl ⟨rfl, _, SqL.of e2⟩, _, rfl, a, _, dx, _, _, rfl, S2 _ _ h1, T.cl_Whom, T.n_Whom_parts, hfs_parts _ _ _, t, rfl, ⟨_, SqT.of (S2 _ _ h2)⟩, ?_⟩
    refine comp_tup (xs := ps) (fun i ys H' => Same H2 H' ∧ i ≤ ps.length ∧ ys = (y.parts.take i).map fun p => V.str (Str.join " " p.words)) (fun i ys H' z => SqT.of (z.1 _ _ (S2 _ _ h2))) ⟨Same.refl _, Nat.zero_le _, rfl⟩ ?_ ?_ ?_
    · rintro i ys H' ⟨_, _, rfl⟩
      rw [List.length_map, List.length_take]
      have := parts_le y
      exact small (by omega)
    · rintro i x ys H' hx ⟨S3, hi, rfl⟩
      obtain ⟨p, hp, hw⟩ := h3.get hx
      have hm : p ∈ y.parts := List.mem_of_getElem? hp
      have hw' := hw.same (S2.trans S3)
      cases hw' with
      | @mk a' dx' t' ps' _ k1 k2 k3 =>
      refine ⟨rfl, _, rfl, a', dx', _, rfl, k1, hfs_no _ _ _ (by decide +kernel) (by decide +kernel) (by decide +kernel), .ref a', p, rfl, .mk k1 k2 k3, Wh.ok_parts ok p hm, ?_, ?_, fun H4 S4 => ⟨S3.trans S4, ?_, ?_⟩⟩
      · have := y.depth_parts p hm
        omega
      · have := size_parts y p hm
        omega
      · exact (List.getElem?_eq_some_iff.mp hx).1
      · rw [List.take_add_one, hp, List.map_append]
        rfl
    · rintro ys H' ⟨S3, _, rfl⟩ b hb
      have e3 := S3 _ _ e2
      have nlb : l ≠ b := ne_of_none e3 hb
      have hlen := h3.length
      have hpl := parts_le y
      have hvl := val_le y
      rw [List.take_of_length_le (by omega)]
      refine ⟨l, b, _, _, rfl, rfl, (by rw [upd_ne nlb]; exact e3), upd_same, ?_, ?_⟩
      · rw [List.length_map, List.length_map, List.length_cons]
        exact small (by omega)
      · refine ⟨rfl, _, rfl, " ", l, (y.word :: (y.val.words ++ y.parts.map fun p => Str.join " " p.words)), rfl, rfl, SqL.of ?_, told_size ok hs, ?_⟩
        · rw [upd_same]
          simp [Function.comp_def]
        · have S4 : Same H' (upd H' b (.lst (y.parts.map fun p => V.str (Str.join " " p.words)))) := same_new hb _
          rw [told_eq]
          refine q _ fun c o e => ?_
          have ncl : c ≠ l := ne_of_none e hl
          rw [upd_ne ncl]
          exact S4 _ _ (S3 _ _ (S2 _ _ e))
theorem told_none (T : Tx K mg) : FnOk P w K mg base CX0 2 T.f_Whom_told T.d_Whom_told P_Whom_told (spTold T.c_Whom 0) := by
  have no : ∀ vs H Q E, ¬ spTold T.c_Whom 0 vs H Q E := fun vs H Q E h => by
    obtain ⟨v, y, _, _, _, hd, _⟩ := h
    have : 1 ≤ y.depth := by cases y <;> simp [Wh.depth]
    omega
  exact ⟨fun vs H Q E h => absurd h (no vs H Q E), fun A outer s H args us vs Q E _ _ _ _ h => absurd h (no vs H Q E)⟩
theorem told_all (T : Tx K mg) : ∀ n : Nat, FnOk P w K mg base CX0 (n + 2) T.f_Whom_told T.d_Whom_told P_Whom_told (spTold T.c_Whom n)
  | 0 => told_none T
  | n + 1 => told_step T (told_all T n)
end
def TkAt (H : Hp) (l : Addr) (fl : List (Str × Wv)) : Prop := ∃ as : List Addr, H l = some (.lst (as.map V.ref)) ∧ as.length = fl.length ∧ ∀ (i : Nat) (a : Addr) (x : Str × Wv), as[i]? = some a → fl[i]? = some x → H a = some (.tup [.str x.1, valV x.2])
theorem TkAt.same {H H' : Hp} {l : Addr} {fl : List (Str × Wv)} (h : TkAt H l fl) (s : Same H H') : TkAt H' l fl := by
  obtain ⟨as, h1, h2, h3⟩ := h
  exact ⟨as, s _ _ h1, h2, fun i a x e1 e2 => s _ _ (h3 i a x e1 e2)⟩
theorem TkAt.but {H H' : Hp} {l p C dy wl : Addr} {k : Int} {fl : List (Str × Wv)} (h : TkAt H l fl) (b : But p H H') (hp : H p = some (.ins C dy (wfs wl k))) : TkAt H' l fl := by
  obtain ⟨as, h1, h2, h3⟩ := h
  exact ⟨as, b _ _ (ne_of h1 hp (by intro z; cases z)) h1, h2, fun i a x e1 e2 => b _ _ (ne_of (h3 i a x e1 e2) hp (by intro z; cases z)) (h3 i a x e1 e2)⟩
theorem TkAt.snoc {H : Hp} {l a : Addr} {fl : List (Str × Wv)} {x : Str × Wv} (h : TkAt H l fl) (ha : H a = some (.tup [.str x.1, valV x.2])) {as : List Addr} (hl : H l = some (.lst (as.map V.ref))) : TkAt (upd H l (.lst (as.map V.ref ++ [.ref a]))) l (fl ++ [x]) := by
  obtain ⟨as', h1, h2, h3⟩ := h
  have e : as' = as := by
    rw [h1] at hl
    injection hl with hl
    injection hl with hl
    exact List.map_inj_right (fun x y z => by injection z) |>.mp hl
  subst e
  refine ⟨as' ++ [a], ?_, ?_, fun i b y e1 e2 => ?_⟩
  · rw [upd_same, List.map_append]
    rfl
  · rw [List.length_append, List.length_append, h2]
    rfl
  · by_cases hi : i < as'.length
    · rw [List.getElem?_append_left hi] at e1
      rw [List.getElem?_append_left (by omega)] at e2
      have z := h3 i b y e1 e2
      rw [upd_ne (ne_of z h1 (by intro z; cases z))]
      exact z
    · have hi2 : i < (as' ++ [a]).length := (List.getElem?_eq_some_iff.mp e1).1
      rw [List.length_append, List.length_singleton] at hi2
      have ei : i = as'.length := by omega
      rw [List.getElem?_append_right (by omega), ei, Nat.sub_self] at e1
      rw [List.getElem?_append_right (by omega), ei, h2, Nat.sub_self] at e2
      cases e1
      cases e2
      rw [upd_ne (ne_of ha h1 (by intro z; cases z))]
      exact ha
def spBuilt (D : Addr) : Sp := fun vs H Q _ => ∃ (l : Addr) (y : Wh), vs = [.ref l] ∧ TkAt H l y.flat ∧ y.size ≤ 9 ∧ ∀ v H', Same H H' → IsW D H' v y → Q v H'
def spTV (C : Addr) : Sp := fun vs H Q _ => ∃ (p : Addr) (ws rest : List Str) (k : Nat) (y : Wh), vs = [.ref p, .str y.word] ∧ WAt C H p ws k ∧ y.ok ∧ ws.drop k = y.val.words ++ rest ∧ ∀ H', WAt C H' p ws (k + y.val.words.length) → But p H H' → Q (valV y.val) H'
def spTW (C D : Addr) : Sp := fun vs H Q _ => ∃ (p : Addr) (ws rest : List Str) (k : Nat) (y : Wh), vs = [.ref p] ∧ WAt C H p ws k ∧ y.ok ∧ y.size ≤ 9 ∧ ws.drop k = y.words ++ rest ∧ ∀ v H', WAt C H' p ws (k + y.words.length) → But p H H' → IsW D H' v y → Q v H'
def spRead (D : Addr) : Sp := fun vs H Q _ => ∃ (y : Wh), vs = [.str (Str.join " " y.words)] ∧ y.ok ∧ y.size ≤ 9 ∧ ∀ v H', Same H H' → IsW D H' v y → Q v H'
theorem drop_head {ws rest : List Str} {k : Nat} {u : Str} (h : ws.drop k = u :: rest) : ws[k]? = some u ∧ ws.drop (k + 1) = rest := by
  constructor
  · have e : (ws.drop k)[0]? = some u := by rw [h]; rfl
    rw [List.getElem?_drop] at e
    simpa using e
  · rw [← List.drop_drop, h]
    rfl
section
variable {P : Program} {w : World} {K : PySem.W.Frag} {mg : Str → Option Value} {base : Heap}
theorem ok_take_value (T : Tx K mg) : FnOk P w K mg base CX0 4 T.f_take_value T.d_take_value P_take_value (spTV T.c_Words) := by
  have G_Words_take_name := ok_Words_take_name (P := P) (w := w) (base := base) T
  have G_Words_take_number := ok_Words_take_number (P := P) (w := w) (base := base) T
  refine T.F_take_value.ok sc_take_value (fun vs H Q E h => ?_) (fun cdv A outer s H vs Q E hr h => ?_)
  · obtain ⟨p, ws, rest, k, y, rfl, _⟩ := h
    rfl
  obtain ⟨p, ws, rest, k, y, rfl, W, ok, hd, q⟩ := h
  refine ⟨_,   (pss_cons (ps_if (pt_cmpR op_eq (pv 1) pe_str (nomark _))
      (pss_one (ps_ret (pe_meth0 (pv 0) T.cl_Words T.M_Words_take_name G_Words_take_name hr (b_Words_take_name T) .nil pass0)))
      pss_nil)
    (pss_cons (ps_if (pt_cmpR op_eq (pv 1) pe_str (nomark _))
      (pss_one (ps_ret (pe_meth0 (pv 0) T.cl_Words T.M_Words_take_number G_Words_take_number hr (b_Words_take_number T) .nil pass0)))
      pss_nil)
    (pss_one (ps_ret pe_non)))), ?_⟩
  obtain ⟨dx, l, h1, h2⟩ := id W
  refine ⟨_, rfl, rfl, _, rfl, ?_⟩
  cases y with
  | mark n =>
    refine iteT ?_
    refine ⟨_, rfl, p, dx, _, rfl, h1, wfs_no _ _ (by decide +kernel) (by decide +kernel), p, ws, k, n, rfl, W, (drop_head hd).1, ok, fun H1 W1 B1 => ?_⟩
    exact q H1 W1 B1
  | force i =>
    refine iteF ?_
    refine ⟨_, rfl, rfl, _, rfl, iteT ?_⟩
    refine ⟨_, rfl, p, dx, _, rfl, h1, wfs_no _ _ (by decide +kernel) (by decide +kernel), p, ws, k, i, rfl, W, (drop_head hd).1, ok, fun H1 W1 B1 => ?_⟩
    exact q H1 W1 B1
  | _ => exact iteF ⟨_, rfl, rfl, _, rfl, iteF (q H W (But.refl p H))⟩
theorem ok_built (T : Tx K mg) (kb : K.In base) : FnOk P w K mg base CX0 4 T.f_built T.d_built P_built (spBuilt T.c_Whom) := by
  have G_Whom := ok_Whom (P := P) (w := w) (base := base) T
  refine T.F_built.ok sc_built (fun vs H Q E h => ?_) (fun cdv A outer s H vs Q E hr h => ?_)
  · obtain ⟨l, y, rfl, _⟩ := h
    rfl
  obtain ⟨l, y, rfl, ⟨as, h1, h2, h3⟩, hs, q⟩ := h
  refine ⟨_,   (pss_cons (ps_set (i := 1) sc_built.nd rfl (Or.inl rfl) (pe_lst pa_nil))
    (pss_cons (ps_for PassesOwn.never rfl (pi_reversed rfl T.z_reversed (pa_cons (pv 0) pa_nil)) (pg_tup (n := 2) rfl (pgs_cons (pg_name (i := 2) sc_built.nd rfl (Or.inl rfl)) (pgs_cons (pg_name (i := 3) sc_built.nd rfl (Or.inl rfl)) pgs_nil)))
      (pss_cons (ps_set (i := 4) sc_built.nd rfl (Or.inl rfl) (pe_ix (ix_tab (tab_PARTS T kb)) (pe_glob (v := .ref T.a_PARTS) rfl T.g_PARTS rfl) (pv 2) (fun _ _ => rfl)))
      (pss_one (ps_set (i := 1) sc_built.nd rfl (Or.inl rfl) (pe_op op_cat (pe_lst (pa_cons (pe_make T.Mk_Whom G_Whom hr rfl T.m_Whom (b_Whom___init__ T) .nil pass0 (pa_cons (pv 2) (pa_cons (pv 3) (pa_cons (pe_callTy call_tuple_of rfl T.z_tuple boot_tuple (pa_cons (pe_slice sl_list (pv 1) po_none (po_some (pv 4))) pa_nil)) pa_nil)))) pa_nil)) (pe_slice sl_list (pv 1) (po_some (pv 4)) po_none))))))
    (pss_one (ps_ret (pe_ix ix_list (pv 1) pe_int (fun _ _ => rfl)))))), ?_⟩
  refine ⟨(by show 0 ≤ sizeLine; decide), fun w0 hw0 => ?_⟩
  have S0 : Same H (upd H w0 (.lst [])) := same_new hw0 _
  have fl := y.flat_len
  have len : (as.map V.ref).length = y.size := by rw [List.length_map, h2, fl]
  refine ⟨_, rfl, l, as.map V.ref, rfl, SqL.of (S0 _ _ h1), ?_⟩
  refine for_rev (xs := as.map V.ref) (fun i σ H' => ∃ (wl : Addr) (vs : List V) (o2 o3 o4 : Option V), σ = [some (.ref l), some (.ref wl), o2, o3, o4] ∧ Same H H' ∧ H' wl = some (.lst vs) ∧ IsWs T.c_Whom H' vs (pend y (y.size - i))) ⟨w0, [], _, _, _, rfl, S0, upd_same, by rw [Nat.sub_zero, pend_end]; exact .nil⟩ (fun i σ H' _ ⟨_, _, _, _, _, _, S', _⟩ => SqL.of (S' _ _ h1)) ?_ ?_
  · rintro i x σ H' hi hx ⟨wl, vs, o2, o3, o4, rfl, S1, e1, W1⟩
    rw [len] at hi hx
    have hj : y.size - 1 - i < y.size := by omega
    obtain ⟨z, t, ez⟩ := pend_ne hj
    have ef := pend_at ez
    rw [List.getElem?_map] at hx
    cases ea : as[y.size - 1 - i]? with
    | none =>
      rw [ea] at hx
      cases hx
    | some a =>
    rw [ea] at hx
    cases hx
    have ha := S1 _ _ (h3 _ _ _ ea ef)
    have ep : pend y (y.size - i) = z.parts ++ t := by
      rw [show y.size - i = (y.size - 1 - i) + 1 by omega]
      show step (pend y (y.size - 1 - i)) = _
      rw [ez]
      rfl
    rw [ep] at W1
    obtain ⟨Wp, Wt⟩ := W1.split
    have vl := W1.length
    rw [List.length_append] at vl
    have szp := pend_size y (y.size - i)
    have lez : (z.parts ++ t).length ≤ sizeF (z.parts ++ t) := by
      have go : ∀ l : List Wh, l.length ≤ sizeF l := by
        intro l
        induction l with
        | nil => exact Nat.zero_le _
        | cons x r ih =>
          have e2 : sizeF (x :: r) = x.size + sizeF r := by simp [sizeF]
          have := x.size_pos
          rw [e2, List.length_cons]
          omega
      exact go _
    rw [ep] at szp
    rw [List.length_append] at lez
    refine ⟨a, _, rfl, SqT.of ha, rfl, _, _, rfl, _, _, rfl, rfl, ?_⟩
    refine ⟨_, rfl, _, _, rfl, rfl, part_dat z, ?_⟩
    refine ⟨_, rfl, _, rfl, _, rfl, _, rfl, _, rfl, wl, vs, rfl, SqL.of e1, fun s1 hs1 => ?_⟩
    have S2 := same_new hs1 (.lst (cutV vs none (some ((z.parts.length : Nat) : Int))))
    refine ⟨s1, _, rfl, .inl ⟨SqL.of upd_same, fun tp htp => ?_⟩⟩
    have S3 := same_new htp (.tup (cutV vs none (some ((z.parts.length : Nat) : Int))))
    intro x dx nx ndx nex
    refine ⟨x, dx, tp, z.word, valV z.val, rfl, upd_same, rfl, ?_⟩
    rw [upd_upd]
    have etp := ne_of_none (b := x) (upd_same (H := upd H' s1 (.lst (cutV vs none (some ((z.parts.length : Nat) : Int))))) (a := tp) (o := .tup (cutV vs none (some ((z.parts.length : Nat) : Int))))) nx
    have etd := ne_of_none (b := dx) (upd_same (H := upd H' s1 (.lst (cutV vs none (some ((z.parts.length : Nat) : Int))))) (a := tp) (o := .tup (cutV vs none (some ((z.parts.length : Nat) : Int))))) ndx
    generalize hH3 : upd (upd H' s1 (.lst (cutV vs none (some ((z.parts.length : Nat) : Int))))) tp (.tup (cutV vs none (some ((z.parts.length : Nat) : Int)))) = H3 at *
    have e3 : H3 tp = some (.tup (vs.take z.parts.length)) := by rw [← hH3, upd_same, cutV_take]
    have S4 : Same H3 (upd (upd H3 dx (.own x)) x (.ins T.c_Whom dx (hfs z.word (valV z.val) tp))) := fun b o e => by
      rw [upd_ne (ne_of_none e nx), upd_ne (ne_of_none e ndx)]
      exact e
    have e4 : upd (upd H3 dx (.own x)) x (.ins T.c_Whom dx (hfs z.word (valV z.val) tp)) x = some (.ins T.c_Whom dx (hfs z.word (valV z.val) tp)) := upd_same
    generalize upd (upd H3 dx (.own x)) x (.ins T.c_Whom dx (hfs z.word (valV z.val) tp)) = H4 at *
    have S14 : Same H' H4 := S2.trans (S3.trans S4)
    refine ⟨(by show 1 ≤ sizeLine; decide), fun q1 hq1 => ?_⟩
    have S5 := same_new hq1 (.lst [.ref x])
    refine ⟨_, rfl, _, rfl, _, rfl, wl, vs, rfl, SqL.of (S5 _ _ (S14 _ _ e1)), fun s2 hs2 => ?_⟩
    have e5 : upd H4 q1 (.lst [.ref x]) q1 = some (.lst [.ref x]) := upd_same
    generalize upd H4 q1 (.lst [.ref x]) = H5 at *
    have S6 := same_new hs2 (.lst (cutV vs (some ((z.parts.length : Nat) : Int)) none))
    have e6 : upd H5 s2 (.lst (cutV vs (some ((z.parts.length : Nat) : Int)) none)) s2 = some (.lst (vs.drop z.parts.length)) := by rw [upd_same, cutV_drop]
    generalize upd H5 s2 (.lst (cutV vs (some ((z.parts.length : Nat) : Int)) none)) = H6 at *
    refine ⟨q1, s2, _, _, rfl, rfl, S6 _ _ e5, e6, ?_, fun r hr' => ?_⟩
    · rw [List.length_drop, List.length_singleton]
      exact small (by omega)
    have S7 := same_new hr' (.lst ([.ref x] ++ vs.drop z.parts.length))
    have S37 : Same H3 (upd H6 r (.lst ([.ref x] ++ vs.drop z.parts.length))) := S4.trans (S5.trans (S6.trans S7))
    have S17 : Same H' (upd H6 r (.lst ([.ref x] ++ vs.drop z.parts.length))) := S14.trans (S5.trans (S6.trans S7))
    refine ⟨r, _, _, _, _, rfl, S1.trans S17, upd_same, ?_⟩
    rw [show y.size - (i + 1) = y.size - 1 - i by omega, ez]
    exact .cons (.mk ((S5.trans (S6.trans S7)) _ _ e4) (S37 _ _ e3) (Wp.same S17)) (Wt.same S17)
  · rintro σ H' ⟨wl, vs, o2, o3, o4, rfl, S1, e1, W1⟩
    rw [len, Nat.sub_self] at W1
    have W1' : IsWs T.c_Whom H' vs [y] := W1
    cases W1' with
    | cons hv ht =>
    cases ht
    exact ⟨_, rfl, wl, _, _, _, rfl, rfl, SqL.of e1, rfl, q _ H' S1 hv⟩
end
theorem step_of {y z : Wh} {t : List Wh} {j : Nat} (e : pend y j = z :: t) : pend y (j + 1) = z.parts ++ t := by
  show step (pend y j) = _
  rw [e]
  rfl
theorem flat_snoc {y : Wh} {j : Nat} {x : Str × Wv} (h : y.flat[j]? = some x) : y.flat.take j ++ [x] = y.flat.take (j + 1) := by
  rw [List.take_add_one, h]
  rfl
section
variable {P : Program} {w : World} {K : PySem.W.Frag} {mg : Str → Option Value} {base : Heap}
theorem ok_take_whom (T : Tx K mg) (kb : K.In base) : FnOk P w K mg base CX0 5 T.f_take_whom T.d_take_whom P_take_whom (spTW T.c_Words T.c_Whom) := by
  have G_Words_take := (ok_Words_take (P := P) (w := w) (base := base) T).mono (by decide : 2 ≤ 4)
  have G_take_value := ok_take_value (P := P) (w := w) (base := base) T
  have G_built := ok_built (P := P) (w := w) (base := base) T kb
  refine T.F_take_whom.ok sc_take_whom (fun vs H Q E h => ?_) (fun cdv A outer s H vs Q E hr h => ?_)
  · obtain ⟨p, ws, rest, k, y, rfl, _⟩ := h
    rfl
  obtain ⟨p, ws, rest, k, y, rfl, W, ok, hs, hd, q⟩ := h
  refine ⟨_,   (pss_cons (ps_set (i := 1) sc_take_whom.nd rfl (Or.inl rfl) (pe_lst pa_nil))
    (pss_cons (ps_set (i := 2) sc_take_whom.nd rfl (Or.inl rfl) pe_int)
    (pss_cons (ps_while PassesOwn.never (pt_cmpR op_gt (pv 2) pe_int (nomark _))
      (pss_cons (ps_if (pt_cmpR op_eq (pe_callB call_len_seq rfl T.z_len PySem.boot_len (pa_cons (pv 1) pa_nil)) (pe_glob (v := .int 9) rfl T.g_MOST_WORDS ⟨_, rfl⟩) (nomark _))
        (pss_one ps_never)
        pss_nil)
      (pss_cons (ps_set (i := 3) sc_take_whom.nd rfl (Or.inl rfl) (pe_meth0 (pv 0) T.cl_Words T.M_Words_take G_Words_take hr (b_Words_take T) .nil pass0))
      (pss_cons (ps_if (pt_cmpR (op_notIn_tab (tab_PARTS T kb)) (pv 3) (pe_glob (v := .ref T.a_PARTS) rfl T.g_PARTS rfl) rfl)
        (pss_one ps_never)
        pss_nil)
      (pss_cons (ps_expr (pe_bm PySem.F.plainAttrs_list PySem.F.slot_list_append PySem.F.type_list_append mt_append (pv 1) (pa_cons (pe_tup (pa_cons (pv 3) (pa_cons (pe_call G_take_value hr rfl T.m_take_value T.F_take_value.kp (b_take_value T) .nil pass0 (pa_cons (pv 0) (pa_cons (pv 3) pa_nil))) pa_nil))) pa_nil)))
      (pss_one (ps_aug (i := 2) sc_take_whom.nd rfl (Or.inl rfl) (pe_op op_sub (pe_ix (ix_tab (tab_PARTS T kb)) (pe_glob (v := .ref T.a_PARTS) rfl T.g_PARTS rfl) (pv 3) (fun _ _ => rfl)) pe_int) ip_add)))))))
    (pss_one (ps_ret (pe_call G_built hr rfl T.m_built T.F_built.kp (b_built T) .nil pass0 (pa_cons (pv 1) pa_nil))))))), ?_⟩
  refine ⟨(by show 0 ≤ sizeLine; decide), fun l hl => ?_⟩
  have fl := y.flat_len
  refine ⟨fun m σ H' => ∃ (j k' : Nat) (o : Option V), m = y.size - j ∧ σ = [some (.ref p), some (.ref l), some (.int ((pend y j).length : Nat)), o] ∧ j ≤ y.size ∧ But p H H' ∧ WAt T.c_Words H' p ws k' ∧ ws.drop k' = wordsF (pend y j) ++ rest ∧ k' + (wordsF (pend y j)).length = k + y.words.length ∧ TkAt H' l (y.flat.take j), ⟨_, 0, k, none, rfl, rfl, Nat.zero_le _, But.laid hl, W.at (same_new hl _), ?_, ?_, [], upd_same, rfl, ?_⟩, ?_⟩
  · show _ = wordsF [y] ++ rest
    rw [wordsF_one]
    exact hd
  · show _ + (wordsF [y]).length = _
    rw [wordsF_one]
  · intro i a x e
    simp at e
  rintro m σ H' ⟨j, k', o, rfl, rfl, hj, B, W', hd', hk', TA⟩
  refine ⟨_, rfl, _, _, rfl, rfl, _, rfl, ?_⟩
  obtain ⟨as, t1, t2, t3⟩ := id TA
  rw [List.length_take] at t2
  refine ite2 (fun c => ?_) (fun c => ?_)
  · have c' : (0 : Int) < (((pend y j).length : Nat) : Int) := of_decide_eq_true c
    have hjl : j < y.size := by
      rcases Nat.lt_or_ge j y.size with z | z
      · exact z
      · have e : j = y.size := by omega
        rw [e, pend_end] at c'
        exact absurd c' (by simp)
    obtain ⟨z, t, ez⟩ := pend_ne hjl
    have zok : z.ok := pend_ok ok j z (by rw [ez]; exact List.mem_cons_self)
    have ef := pend_at ez
    rw [ez, wordsF_cons] at hd' hk'
    have es := step_of ez
    obtain ⟨u1, u2⟩ := drop_head (rest := (z.val.words ++ wordsF (z.parts ++ t)) ++ rest) hd'
    have u2' : ws.drop (k' + 1) = z.val.words ++ (wordsF (z.parts ++ t) ++ rest) := by rw [u2, List.append_assoc]
    have kws : k' < ws.length := (List.getElem?_eq_some_iff.mp u1).1
    refine ⟨_, fun σ' H' n => n, ?_⟩
    refine ⟨_, rfl, l, _, rfl, .inl (SqL.of t1), rfl, _, rfl, ?_⟩
    refine ite2 (fun c1 => ?_) (fun c1 => ?_)
    · exfalso
      have c1' := of_decide_eq_true c1
      injection c1' with c1'
      rw [List.length_map] at c1'
      omega
    obtain ⟨dx, wl, w1, w2⟩ := id W'
    refine ⟨_, rfl, p, dx, _, rfl, w1, wfs_no _ _ (by decide +kernel) (by decide +kernel), p, ws, k', z.word, rfl, W', u1, fun H1 W1 B1 => ?_⟩
    refine ⟨_, rfl, _, rfl, rfl, _, rfl, ?_⟩
    rw [part_in]
    refine iteF ?_
    have TA1 := TA.but B1 w1
    obtain ⟨dx1, wl1, w11, w12⟩ := id W1
    have t11 := B1 _ _ (ne_of t1 w1 (by intro z; cases z)) t1
    refine ⟨_, rfl, .inl ⟨rfl, _, SqL.of t11⟩, _, rfl, _, rfl, _, rfl, p, ws, _, k' + 1, z, rfl, W1, zok, u2', fun H2 W2 B2 => ?_⟩
    have TA2 := TA1.but B2 w11
    have t12 := B2 _ _ (ne_of t11 w11 (by intro z; cases z)) t11
    refine ⟨(by show 2 ≤ sizeLine; decide), fun a ha => ?_⟩
    have S3 := same_new ha (.tup [.str z.word, valV z.val])
    have TA3 := TA2.same S3
    have t13 := S3 _ _ t12
    have e3 : upd H2 a (.tup [.str z.word, valV z.val]) a = some (.tup [.str z.word, valV z.val]) := upd_same
    generalize upd H2 a (.tup [.str z.word, valV z.val]) = H3 at *
    have W3 := W2.at S3
    obtain ⟨dx3, wl3, w31, w32⟩ := id W3
    have npl : p ≠ l := ne_of w31 t13 (by intro z; cases z)
    have nwl : wl3 ≠ l := by
      intro z
      rw [z, t13] at w32
      injection w32 with w32
      injection w32 with w32
      cases ws with
      | nil => exact absurd kws (by simp)
      | cons u r =>
        cases as with
        | nil => simp at w32
        | cons b r' => simp at w32
    refine ⟨l, _, _, rfl, rfl, t13, ?_, ?_⟩
    · rw [List.length_map]
      exact small1000 (by omega)
    have TA4 := TA3.snoc (x := (z.word, z.val)) e3 t13
    rw [flat_snoc ef] at TA4
    have W4 : WAt T.c_Words (upd H3 l (.lst (as.map V.ref ++ [.ref a]))) p ws (k' + 1 + z.val.words.length) := ⟨dx3, wl3, by rw [upd_ne npl]; exact w31, by rw [upd_ne nwl]; exact w32⟩
    have B4 : But p H (upd H3 l (.lst (as.map V.ref ++ [.ref a]))) := fun b o n e => by
      rw [upd_ne (ne_of_none e hl)]
      exact S3 _ _ (B2 _ _ n (B1 _ _ n (B _ _ n e)))
    have em : (((pend y j).length : Nat) : Int) + (((z.parts.length : Nat) : Int) - 1) = (((pend y (j + 1)).length : Nat) : Int) := by
      rw [ez, es, List.length_cons, List.length_append]
      omega
    refine ⟨_, rfl, _, rfl, _, _, rfl, rfl, part_dat z, _, _, rfl, rfl, _, _, rfl, rfl, ?_⟩
    refine ⟨y.size - (j + 1), by omega, j + 1, k' + 1 + z.val.words.length, _, rfl, (by rw [← em]; rfl), hjl, B4, W4, ?_, ?_, TA4⟩
    · rw [es, ← List.drop_drop, u2', List.drop_left]
    · rw [es]
      rw [List.length_cons, List.length_append] at hk'
      omega
  · have c' : ¬ (0 : Int) < (((pend y j).length : Nat) : Int) := of_decide_eq_false (Bool.eq_false_iff.mpr c)
    have ej : j = y.size := by
      rcases Nat.lt_or_ge j y.size with z | z
      · obtain ⟨z, t, ez⟩ := pend_ne z
        rw [ez, List.length_cons] at c'
        omega
      · omega
    subst ej
    rw [pend_end] at hk'
    rw [List.take_of_length_le (by omega)] at TA
    have hk2 : k' = k + y.words.length := hk'
    subst hk2
    refine ⟨_, rfl, l, y, rfl, TA, hs, fun v H2 S2 IW => ?_⟩
    exact q v H2 (W'.at S2) (B.of_same S2) IW
end
section
variable {P : Program} {w : World} {K : PySem.W.Frag} {mg : Str → Option Value} {base : Heap}
theorem ok_read_whom (T : Tx K mg) (kb : K.In base) : FnOk P w K mg base CX0 7 T.f_read_whom T.d_read_whom P_read_whom (spRead T.c_Whom) := by
  have G_Words := (ok_Words (P := P) (w := w) (base := base) T).mono (by decide : 2 ≤ 5)
  have G_Words_finish := (ok_Words_finish (P := P) (w := w) (base := base) T).mono (by decide : 2 ≤ 6)
  have G_take_whom := (ok_take_whom (P := P) (w := w) (base := base) T kb).mono (by decide : 5 ≤ 6)
  refine T.F_read_whom.ok sc_read_whom (fun vs H Q E h => ?_) (fun cdv A outer s H vs Q E hr h => ?_)
  · obtain ⟨y, rfl, _⟩ := h
    rfl
  obtain ⟨y, rfl, ok, hs, q⟩ := h
  refine ⟨_,   (pss_cons (ps_if (pt_not (pt_val (pe_callB call_isinst rfl T.z_isinstance boot_isinstance (pa_cons (pv 0) (pa_cons (pe_bltn (v := .ty "str") rfl T.z_str boot_str rfl) pa_nil)))))
      (pss_one ps_never)
      pss_nil)
    (pss_cons (ps_set (i := 1) sc_read_whom.nd rfl (Or.inl rfl) (pe_make T.Mk_Words G_Words hr rfl T.m_Words (b_Words___init__ T) .nil pass0 (pa_cons (pv 0) pa_nil)))
    (pss_cons (ps_set (i := 2) sc_read_whom.nd rfl (Or.inl rfl) (pe_call G_take_whom hr rfl T.m_take_whom T.F_take_whom.kp (b_take_whom T) .nil pass0 (pa_cons (pv 1) pa_nil)))
    (pss_cons (ps_expr (pe_meth0 (pv 1) T.cl_Words T.M_Words_finish G_Words_finish hr (b_Words_finish T) .nil pass0))
    (pss_one (ps_ret (pv 2))))))), ?_⟩
  have tl := txt_len ok hs
  refine ⟨_, rfl, _, _, .type "str", true, rfl, TyOf.str _, .inl ⟨"str", rfl, rfl⟩, true, rfl, ?_⟩
  refine iteF ?_
  refine ⟨_, rfl, ?_⟩
  intro x dx nx ndx nex
  refine ⟨x, dx, _, rfl, upd_same, (by omega), fun H1 W1 B1 => ⟨rfl, ?_⟩⟩
  have es : Txt.split (Str.join " " y.words) " " = y.words := split_join (c := 32) y.words_ne (fun u hu => (Wh.words_ok ok u hu).1)
  rw [es] at W1
  have S1 : Same H H1 := fun b o e => B1 b o (ne_of_none e nx) (by rw [upd_ne (ne_of_none e nx), upd_ne (ne_of_none e ndx)]; exact e)
  refine ⟨_, rfl, x, y.words, [], 0, y, rfl, W1, ok, hs, (by rw [List.drop_zero, List.append_nil]), fun v H2 W2 B2 IW => ?_⟩
  rw [Nat.zero_add] at W2
  obtain ⟨dx2, l2, w1, w2⟩ := id W2
  refine ⟨_, rfl, x, dx2, _, rfl, w1, wfs_no _ _ (by decide +kernel) (by decide +kernel), x, y.words, rfl, W2, ?_⟩
  exact ⟨_, rfl, q v H2 (fun b o e => B2 b o (ne_of_none e nx) (S1 b o e)) IW⟩
end
theorem and_if {c d : Bool} {U A B : Prop} (hu : (if d = true then A else B) → U) (h1 : c = true → d = true → A) (h2 : B) : if c = true then U else (if false = true then A else B) := by
  cases c with
  | true =>
    refine iteT (hu ?_)
    cases d with
    | true => exact iteT (h1 rfl rfl)
    | false => exact iteF h2
  | false => exact iteF (iteF h2)
theorem LL_at {r : Int} (h0 : 0 ≤ r) (h1 : r < 26) : ∃ c, atI LL.cps.toList r = some c ∧ 97 ≤ c ∧ c ≤ 122 := by
  have e : LL.cps.toList.length = 26 := by decide +kernel
  obtain ⟨v, hv, hm⟩ := at_get (xs := LL.cps.toList) h0 (by rw [e]; exact h1)
  have q : ∀ c ∈ LL.cps.toList, 97 ≤ c ∧ c ≤ 122 := by decide +kernel
  exact ⟨v, hv, q v hm⟩
def sgn (c : Nat) : Str := ⟨#[c]⟩
theorem join_signs : ∀ cs : List Nat, (Str.join "" (cs.map sgn)).cps.toList = cs
  | [] => rfl
  | [c] => rfl
  | c :: d :: r => by
    have ih := join_signs (d :: r)
    have e : Str.join "" ((c :: d :: r).map sgn) = sgn c ++ "" ++ Str.join "" ((d :: r).map sgn) := rfl
    rw [e]
    show ((#[c] ++ ("" : Str).cps) ++ (Str.join "" ((d :: r).map sgn)).cps).toList = _
    rw [Array.toList_append, ih]
    rfl
theorem cps_app (a b : Str) : (a ++ b).cps.toList = a.cps.toList ++ b.cps.toList := by
  show (a.cps ++ b.cps).toList = _
  rw [Array.toList_append]
theorem name_of {cs : List Nat} {a c : Nat} (h1 : 1 ≤ cs.length) (h8 : cs.length ≤ 8) (ha : a < cs.length) (hc : 97 ≤ c ∧ c ≤ 122) (hs : ∀ x ∈ cs, 97 ≤ x ∧ x ≤ 122) :
    NameOk (Str.join "" ((cs.take a).map sgn) ++ sgn c ++ Str.join "" ((cs.drop (a + 1)).map sgn)) := by
  have e : (Str.join "" ((cs.take a).map sgn) ++ sgn c ++ Str.join "" ((cs.drop (a + 1)).map sgn)).cps.toList = cs.take a ++ [c] ++ cs.drop (a + 1) := by
    rw [cps_app, cps_app, join_signs, join_signs]
    rfl
  have el : (Str.join "" ((cs.take a).map sgn) ++ sgn c ++ Str.join "" ((cs.drop (a + 1)).map sgn)).length = cs.length := by
    have q := congrArg List.length e
    rw [Array.length_toList, List.length_append, List.length_append, List.length_take, List.length_drop, List.length_singleton] at q
    show (Str.join "" ((cs.take a).map sgn) ++ sgn c ++ Str.join "" ((cs.drop (a + 1)).map sgn)).cps.size = _
    omega
  refine ⟨by omega, by omega, ?_⟩
  rw [e]
  intro x hx
  rcases List.mem_append.mp hx with hx | hx
  · rcases List.mem_append.mp hx with hx | hx
    · exact hs x (List.mem_of_mem_take hx)
    · have e : x = c := by simpa using hx
      rw [e]; exact hc
  · exact hs x (List.mem_of_mem_drop hx)
theorem sgn_join_len {cs : List Nat} (h : cs.length ≤ 8) : ((cs.map sgn).map (·.length)).sum + (cs.map sgn).length * ("" : Str).length ≤ 16777216 ∧ (Str.join "" (cs.map sgn)).length ≤ 8 := by
  have c := sum_le (l := (cs.map sgn).map (·.length)) (k := 1) (fun x hx => by
    obtain ⟨u, hu, rfl⟩ := List.mem_map.mp hx
    obtain ⟨c, _, rfl⟩ := List.mem_map.mp hu
    exact Nat.le_refl 1)
  rw [List.length_map, List.length_map] at c
  have e : ("" : Str).length = 0 := rfl
  have q := congrArg List.length (join_signs cs)
  rw [Array.length_toList] at q
  refine ⟨?_, ?_⟩
  · rw [e]; omega
  · show (Str.join "" (cs.map sgn)).cps.size ≤ 8
    omega
theorem LL_nat : ∀ n : Nat, n < 26 → LL.cps.toList[n]? = some (97 + n) := by decide +kernel
theorem LL_is {r : Int} {c : Nat} (h0 : 0 ≤ r) (h1 : r < 26) (h : atI LL.cps.toList r = some c) : (c : Int) = 97 + r := by
  have q := atI_nat (LL_nat r.toNat (by omega))
  rw [show ((r.toNat : Nat) : Int) = r by omega] at q
  have e := Option.some.inj (h.symm.trans q)
  omega
def nmOf (cs : List Nat) (a c : Nat) : Str := Str.join "" ((cs.take a).map sgn) ++ sgn c ++ Str.join "" ((cs.drop (a + 1)).map sgn)
theorem nmOf_inj {cs : List Nat} {a c d : Nat} (h : nmOf cs a c = nmOf cs a d) : c = d := by
  have e := congrArg (fun z : Str => z.cps.toList) h
  have f : ∀ x, (nmOf cs a x).cps.toList = cs.take a ++ ([x] ++ cs.drop (a + 1)) := fun x => by
    unfold nmOf
    rw [cps_app, cps_app, join_signs, join_signs, List.append_assoc]
    rfl
  simp only [f] at e
  have e2 := List.append_cancel_left e
  injection e2
structure Nm (H : Hp) (nl : Addr) (ns : List Str) : Prop where
  at_ : H nl = some (.lst (ns.map V.str))
  len : ns.length = 4
  ok : ∀ n ∈ ns, NameOk n
  nd : ns.Nodup
theorem Nm.ne {K : PySem.W.Frag} {H : Hp} {nl p : Addr} {ns : List Str} {k : Int} (h : Nm H nl ns) (t : Tk K H p k) : nl ≠ p := by
  obtain ⟨⟨a, zs, h1, _⟩, _⟩ := t
  refine ne_of h.at_ h1 fun z => ?_
  injection z with z
  have e := congrArg List.length z
  rw [List.length_map, h.len] at e
  exact absurd e (by show ¬ (4 = 2); decide)
theorem Nm.but {K : PySem.W.Frag} {H H' : Hp} {nl p : Addr} {ns : List Str} {k : Int} (h : Nm H nl ns) (t : Tk K H p k) (b : But p H H') : Nm H' nl ns := ⟨b _ _ (h.ne t) h.at_, h.len, h.ok, h.nd⟩
theorem Nm.same {H H' : Hp} {nl : Addr} {ns : List Str} (h : Nm H nl ns) (b : Same H H') : Nm H' nl ns := ⟨b _ _ h.at_, h.len, h.ok, h.nd⟩
def spNames (K : PySem.W.Frag) : Sp := fun vs H Q _ => ∃ (p : Addr) (k : Int), vs = [.ref p, .int 4] ∧ Tk K H p k ∧ k ≤ 100000 ∧ ∀ (nl : Addr) (ns : List Str) (k' : Int) (H' : Hp), But p H H' → Tk K H' p k' → k' ≤ k + 20 → Nm H' nl ns → Q (.ref nl) H'
section
variable {P : Program} {w : World} {K : PySem.W.Frag} {mg : Str → Option Value} {base : Heap}
set_option maxHeartbeats 4000000 in
theorem ok__law_names (T : Tx K mg) : FnOk P w K mg base CX0 3 T.f__law_names T.d__law_names P__law_names (spNames K) := by
  have G__law_take := ok__law_take (P := P) (w := w) (base := base) T
  refine T.F__law_names.ok sc__law_names (fun vs H Q E h => ?_) (fun cdv A outer s H vs Q E hr h => ?_)
  · obtain ⟨p, k, rfl, _⟩ := h
    rfl
  obtain ⟨p, k, rfl, T0, hk, q⟩ := h
  refine ⟨_,   (pss_cons (ps_set (i := 2) sc__law_names.nd rfl (Or.inr rfl) pe_str)
    (pss_cons (ps_set (i := 3) sc__law_names.nd rfl (Or.inl rfl) (pe_op op_add pe_int (pe_call G__law_take hr rfl T.m__law_take T.F__law_take.kp (b__law_take T) .nil pass0 (pa_cons (pv 0) (pa_cons pe_int pa_nil)))))
    (pss_cons (ps_set (i := 4) sc__law_names.nd rfl (Or.inl rfl) (pe_call G__law_take hr rfl T.m__law_take T.F__law_take.kp (b__law_take T) .nil pass0 (pa_cons (pv 0) (pa_cons (pv 3) pa_nil))))
    (pss_cons (ps_setC (i := 5) sc__law_names.nd rfl (Or.inl rfl) (own := ["_law_k"]) (cap := ["_law_letters", "_law_state"]) rfl (BlkScope.chk rfl rfl) (.cons (j := 2) rfl (.inl rfl) (.inl rfl) (.cons (j := 0) rfl (.inl rfl) (.inl rfl) .nil)) (pi_range1 rfl T.z_range (pa_cons (pv 3) pa_nil)) (fun _ _ _ _ => (pg_name (i := 0) (show List.Nodup (["_law_k", "_law_letters", "_law_state"] : List Str) by decide +kernel) rfl (Or.inl rfl))) (fun _ _ _ _ => pts_nil) (fun _ _ _ _ => by exact (pe_ix ix_str (pv 1) (pe_call G__law_take hr rfl T.m__law_take T.F__law_take.kp (b__law_take T) .nil pass0 (pa_cons (pv 2) (pa_cons pe_int pa_nil))) (fun _ _ => rfl))))
    (pss_cons (ps_set (i := 6) sc__law_names.nd rfl (Or.inl rfl) (pe_call G__law_take hr rfl T.m__law_take T.F__law_take.kp (b__law_take T) .nil pass0 (pa_cons (pv 0) (pa_cons pe_int pa_nil))))
    (pss_cons (ps_set (i := 7) sc__law_names.nd rfl (Or.inl rfl) (pe_lst pa_nil))
    (pss_cons (ps_for PassesOwn.never rfl (pi_range1 rfl T.z_range (pa_cons (pv 1) pa_nil)) (pg_name (i := 8) sc__law_names.nd rfl (Or.inl rfl))
      (pss_cons (ps_set (i := 9) sc__law_names.nd rfl (Or.inl rfl) (pe_ix ix_str (pv 2) (pe_op op_mod (pe_op op_add (pv 6) (pe_op op_mul pe_int (pv 8))) pe_int) (fun _ _ => rfl)))
      (pss_one (ps_expr (pe_bm PySem.F.plainAttrs_list PySem.F.slot_list_append PySem.F.type_list_append mt_append (pv 7) (pa_cons (pe_op op_add_str (pe_op op_add_str (pe_bm PySem.F.plainAttrs_str PySem.F.slot_str_join PySem.F.type_str_join mt_join pe_str (pa_cons (pe_slice sl_list (pv 5) po_none (po_some (pv 4))) pa_nil)) (pv 9)) (pe_bm PySem.F.plainAttrs_str PySem.F.slot_str_join PySem.F.type_str_join mt_join pe_str (pa_cons (pe_slice sl_list (pv 5) (po_some (pe_op op_add (pv 4) pe_int)) po_none) pa_nil))) pa_nil))))))
    (pss_one (ps_ret (pv 7)))))))))), ?_⟩
  refine ⟨_, rfl, p, k, 8, rfl, T0, by omega, by decide, fun r1 H1 a1 b1 B1 T1 => ⟨_, _, rfl, rfl, ?_⟩⟩
  refine ⟨_, rfl, _, rfl, p, _, 1 + r1, rfl, T1, by omega, by omega, fun r2 H2 a2 b2 B2 T2 => ?_⟩
  obtain ⟨m, hm⟩ : ∃ m : Nat, 1 + r1 = (m : Int) := ⟨(1 + r1).toNat, by omega⟩
  obtain ⟨a, rfl⟩ : ∃ a : Nat, r2 = (a : Int) := ⟨r2.toNat, by omega⟩
  rw [hm] at b2
  have B12 : But p H H2 := B1.trans B2
  refine ⟨_, rfl, 1 + r1, rfl, by omega, by omega, ?_⟩
  rw [hm, Int.toNat_natCast]
  refine comp_range (fun i ys H' => ∃ (cs : List Nat) (k' : Int), ys = (cs.map sgn).map V.str ∧ cs.length = i ∧ i ≤ m ∧ (∀ c ∈ cs, 97 ≤ c ∧ c ≤ 122) ∧ But p H H' ∧ Tk K H' p k' ∧ k' ≤ k + 2 + i) ⟨[], _, rfl, rfl, Nat.zero_le _, by simp, B12, T2, by omega⟩ ?_ ?_ ?_
  · rintro i ys H' ⟨cs, k', rfl, h1, h2, _⟩
    rw [List.length_map, List.length_map]
    exact small (by omega)
  · rintro i ys H' hi ⟨cs, k', rfl, h1, h2, h3, B', T', hk'⟩
    refine ⟨rfl, _, rfl, _, rfl, p, k', 26, rfl, T', by omega, by decide, fun r H5 r0 r1' B5 T5 => ?_⟩
    obtain ⟨c, hc, hc'⟩ := LL_at r0 r1'
    refine ⟨LL, r, c, rfl, rfl, (by decide +kernel), hc, cs ++ [c], k' + 1, ?_, ?_, hi, ?_, B'.trans B5, T5, by omega⟩
    · rw [List.map_append, List.map_append]
      rfl
    · rw [List.length_append, h1]
      rfl
    · intro x hx
      rcases List.mem_append.mp hx with hx | hx
      · exact h3 x hx
      · have e : x = c := by simpa using hx
        rw [e]; exact hc'
  · rintro ys H3 ⟨cs, k3, rfl, h1, h2, h3, B3, T3, hk3⟩ bl hbl
    have T4 := T3.laid (o := .lst ((cs.map sgn).map V.str)) hbl
    have B4 : But p H (upd H3 bl (.lst ((cs.map sgn).map V.str))) := B3.trans (But.laid hbl)
    have e4 : upd H3 bl (.lst ((cs.map sgn).map V.str)) bl = some (.lst ((cs.map sgn).map V.str)) := upd_same
    have npb : bl ≠ p := Ne.symm (T3.ne hbl)
    generalize upd H3 bl (.lst ((cs.map sgn).map V.str)) = H4 at *
    refine ⟨_, rfl, p, _, 26, rfl, T4, by omega, by decide, fun r5 H5 a5 b5 B5 T5 => ?_⟩
    have e5 := B5 _ _ npb e4
    refine ⟨(by show 0 ≤ sizeLine; decide), fun nl hnl => ?_⟩
    have nbn : bl ≠ nl := ne_of_none e5 hnl
    have S6 : Same H5 (upd H5 nl (.lst [])) := same_new hnl _
    have f6 : upd H5 nl (.lst []) nl = some (.lst (([] : List Str).map V.str)) := upd_same
    generalize upd H5 nl (.lst []) = H6 at *
    refine ⟨_, rfl, 4, rfl, by decide, by decide, ?_⟩
    refine for_range (lo := 0) (n := 4) (fun i σ H' => ∃ (ns : List Str) (o8 o9 : Option V), σ = [some (.ref p), some (.int 4), some (.str LL), some (.int (1 + r1)), some (.int (a : Int)), some (.ref bl), some (.int r5), some (.ref nl), o8, o9] ∧ H' nl = some (.lst (ns.map V.str)) ∧ ns.length = i ∧ (∀ n ∈ ns, NameOk n) ∧ ns.Nodup ∧ (∀ n ∈ ns, ∃ (j : Nat) (d : Nat), j < i ∧ atI LL.cps.toList ((r5 + 5 * (0 + (j : Int))) % 26) = some d ∧ n = nmOf cs a d) ∧ Same H5 H') ⟨[], _, _, rfl, f6, rfl, by simp, .nil, by simp, S6⟩ ?_ ?_
    · rintro i σ H' hi ⟨ns, o8, o9, rfl, f', hl, hok, hnd, hwh, S'⟩
      have e' := S' _ _ e5
      have hq0 : 0 ≤ (r5 + 5 * (0 + (i : Int))) % 26 := Int.emod_nonneg _ (by decide)
      have hq1 : (r5 + 5 * (0 + (i : Int))) % 26 < 26 := Int.emod_lt_of_pos _ (by decide)
      obtain ⟨c, hc, hc'⟩ := LL_at hq0 hq1
      refine ⟨_, rfl, _, rfl, _, rfl, _, _, rfl, rfl, .inl ⟨by decide, by decide⟩, _, _, rfl, rfl, _, _, rfl, rfl, (by show (0 : Int) < 26; decide), LL, _, c, rfl, rfl, (by decide +kernel), hc, ?_⟩
      have tk8 := sgn_join_len (cs := cs.take a) (by rw [List.length_take]; omega)
      have dr8 := sgn_join_len (cs := cs.drop (a + 1)) (by rw [List.length_drop]; omega)
      have ct : cutV ((cs.map sgn).map V.str) none (some (a : Int)) = ((cs.take a).map sgn).map V.str := by rw [cutV_take, List.map_take, List.map_take]
      have cd : cutV ((cs.map sgn).map V.str) (some ((a + 1 : Nat) : Int)) none = ((cs.drop (a + 1)).map sgn).map V.str := by rw [cutV_drop, List.map_drop, List.map_drop]
      refine ⟨_, rfl, .inl ⟨rfl, _, SqL.of f'⟩, rfl, _, rfl, _, rfl, _, rfl, bl, _, rfl, SqL.of e', fun s1 hs1 => ?_⟩
      rw [ct]
      refine ⟨"", s1, _, rfl, rfl, SqL.of upd_same, tk8.1, _, rfl, _, _, rfl, rfl, ?_, ?_⟩
      · have e1 : (⟨#[c]⟩ : Str).length = 1 := rfl
        exact small (by omega)
      have S1 := same_new hs1 (.lst (((cs.take a).map sgn).map V.str))
      refine ⟨rfl, _, rfl, _, rfl, _, _, rfl, rfl, _, rfl, bl, _, rfl, SqL.of (S1 _ _ e'), fun s2 hs2 => ?_⟩
      have ea : (a : Int) + 1 = ((a + 1 : Nat) : Int) := by omega
      rw [ea, cd]
      refine ⟨"", s2, _, rfl, rfl, SqL.of upd_same, dr8.1, _, _, rfl, rfl, ?_, ?_⟩
      · have e1 : (⟨#[c]⟩ : Str).length = 1 := rfl
        rw [len_app]
        exact small (by omega)
      have S2 := same_new hs2 (.lst (((cs.drop (a + 1)).map sgn).map V.str))
      have S12 := S1.trans S2
      refine ⟨nl, _, _, rfl, rfl, S12 _ _ f', ?_, ?_⟩
      · rw [List.length_map]
        exact small1000 (by omega)
      have nm := name_of (cs := cs) (a := a) (c := c) (by omega) (by omega) (by omega) hc' h3
      have S7 : Same H5 (upd (upd (upd H' s1 (.lst (((cs.take a).map sgn).map V.str))) s2 (.lst (((cs.drop (a + 1)).map sgn).map V.str))) nl (.lst (ns.map V.str ++ [.str (Str.join "" ((cs.take a).map sgn) ++ sgn c ++ Str.join "" ((cs.drop (a + 1)).map sgn))]))) := fun b o e => by
        rw [upd_ne (ne_of_none e hnl)]
        exact S12 _ _ (S' _ _ e)
      refine ⟨ns ++ [Str.join "" ((cs.take a).map sgn) ++ sgn c ++ Str.join "" ((cs.drop (a + 1)).map sgn)], _, _, rfl, ?_, ?_, ?_, ?_, ?_, S7⟩
      · rw [List.map_append]
        exact upd_same
      · rw [List.length_append, hl]
        rfl
      · intro x hx
        rcases List.mem_append.mp hx with hx | hx
        · exact hok x hx
        · have e := List.mem_singleton.mp hx
          rw [e]; exact nm
      · rw [List.nodup_append]
        refine ⟨hnd, List.pairwise_singleton _ _, fun x hx y hy z => ?_⟩
        rw [List.mem_singleton.mp hy] at z
        obtain ⟨j, d, hj, hd, rfl⟩ := hwh x hx
        have z' : nmOf cs a d = nmOf cs a c := z
        have ed := nmOf_inj z'
        subst ed
        have u1 := LL_is hq0 hq1 hc
        have u2 := LL_is (Int.emod_nonneg _ (by decide)) (Int.emod_lt_of_pos _ (by decide)) hd
        have hi' : i < 4 := hi
        omega
      · intro x hx
        rcases List.mem_append.mp hx with hx | hx
        · obtain ⟨j, d, hj, hd⟩ := hwh x hx
          exact ⟨j, d, by omega, hd⟩
        · exact ⟨i, c, by omega, hc, List.mem_singleton.mp hx⟩
    · rintro σ H' ⟨ns, o8, o9, rfl, f', hl, hok, hnd, _, S'⟩
      exact ⟨_, rfl, q nl ns _ H' ((B4.trans B5).of_same S') (T5.same S') (by omega) ⟨f', hl, hok, hnd⟩⟩
end
theorem pick_name {ns : List Str} {r : Int} (hl : ns.length = 4) (hok : ∀ n ∈ ns, NameOk n) (h0 : 0 ≤ r) (h1 : r < 8) : ∃ n : Str, atI (ns.map V.str ++ [V.str "all", V.str "do", V.str "not", V.str "mark"]) r = some (.str n) ∧ NameOk n := by
  obtain ⟨v, hv, hm⟩ := at_get (xs := ns.map V.str ++ [V.str "all", V.str "do", V.str "not", V.str "mark"]) h0 (by rw [List.length_append, List.length_map, hl]; exact h1)
  rcases List.mem_append.mp hm with hm | hm
  · obtain ⟨n, hn, rfl⟩ := List.mem_map.mp hm
    exact ⟨n, hv, hok n hn⟩
  · have q : ∀ u ∈ (["all", "do", "not", "mark"] : List Str), 1 ≤ u.length ∧ u.length ≤ 8 ∧ ∀ c ∈ u.cps.toList, 97 ≤ c ∧ c ≤ 122 := by decide +kernel
    simp only [List.mem_cons, List.not_mem_nil, or_false] at hm
    rcases hm with e | e | e | e <;> subst e <;> exact ⟨_, hv, q _ (by simp)⟩
theorem pick_num {x y r : Int} (h0 : 0 ≤ r) (h1 : r < 2) (hx : 0 ≤ x ∧ x < 1000) (hy : 0 ≤ y ∧ y < 6) : ∃ i : Nat, atI [V.int x, V.int y] r = some (.int (i : Int)) ∧ i < 1000 := by
  obtain ⟨v, hv, hm⟩ := at_get (xs := [V.int x, V.int y]) h0 h1
  simp only [List.mem_cons, List.not_mem_nil, or_false] at hm
  rcases hm with e | e
  · subst e
    exact ⟨x.toNat, by rw [Int.toNat_of_nonneg hx.1]; exact hv, by omega⟩
  · subst e
    exact ⟨y.toNat, by rw [Int.toNat_of_nonneg hy.1]; exact hv, by omega⟩
theorem pick_leaf {r : Int} (h0 : 0 ≤ r) (h1 : r < 3) : ∃ y : Wh, atI [V.str "all", V.str "self", V.str "mine"] r = some (.str y.word) ∧ y.words = [y.word] ∧ y.ok ∧ y.size = 1 := by
  obtain ⟨v, hv, hm⟩ := at_get (xs := [V.str "all", V.str "self", V.str "mine"]) h0 h1
  simp only [List.mem_cons, List.not_mem_nil, or_false] at hm
  rcases hm with e | e | e <;> subst e
  · exact ⟨.all, hv, rfl, True.intro, rfl⟩
  · exact ⟨.self, hv, rfl, True.intro, rfl⟩
  · exact ⟨.mine, hv, rfl, True.intro, rfl⟩
def spLeaf (K : PySem.W.Frag) : Sp := fun vs H Q _ => ∃ (p nl : Addr) (ns : List Str) (k : Int), vs = [.ref p, .ref nl] ∧ Tk K H p k ∧ k ≤ 200000 ∧ Nm H nl ns ∧ ∀ (l : Addr) (y : Wh) (k' : Int) (H' : Hp), But p H H' → Tk K H' p k' → k' ≤ k + 4 → y.ok → y.size = 1 → H' l = some (.lst (y.words.map V.str)) → Q (.ref l) H'
def spLWhom (K : PySem.W.Frag) (n : Nat) : Sp := fun vs H Q _ => ∃ (p nl : Addr) (ns : List Str) (k : Int) (m : Nat), vs = [.ref p, .ref nl, .int m] ∧ Tk K H p k ∧ k + 5 * m ≤ 100000 ∧ Nm H nl ns ∧ 1 ≤ m ∧ m ≤ n ∧ m ≤ 9 ∧
  ∀ (t l : Addr) (y : Wh) (k' : Int) (H' : Hp), But p H H' → Tk K H' p k' → k' ≤ k + 5 * y.size → y.ok → y.size ≤ m → H' t = some (.tup [.ref l, .int y.size]) → H' l = some (.lst (y.words.map V.str)) → Q (.ref t) H'
theorem words_le {y : Wh} (h : y.size ≤ 9) : y.words.length ≤ 18 := by
  have := y.words_len
  omega
section
variable {P : Program} {w : World} {K : PySem.W.Frag} {mg : Str → Option Value} {base : Heap}
set_option maxHeartbeats 4000000 in
theorem ok__law_leaf (T : Tx K mg) : FnOk P w K mg base CX0 3 T.f__law_leaf T.d__law_leaf P__law_leaf (spLeaf K) := by
  have G__law_take := ok__law_take (P := P) (w := w) (base := base) T
  refine T.F__law_leaf.ok sc__law_leaf (fun vs H Q E h => ?_) (fun cdv A outer s H vs Q E hr h => ?_)
  · obtain ⟨p, nl, ns, k, rfl, _⟩ := h
    rfl
  obtain ⟨p, nl, ns, k, rfl, T0, hk, N0, q⟩ := h
  refine ⟨_,   (pss_cons (ps_set (i := 2) sc__law_leaf.nd rfl (Or.inl rfl) (pe_call G__law_take hr rfl T.m__law_take T.F__law_take.kp (b__law_take T) .nil pass0 (pa_cons (pv 0) (pa_cons pe_int pa_nil))))
    (pss_cons (ps_if (pt_cmpR op_lt (pv 2) pe_int (nomark _))
      (pss_one (ps_ret (pe_lst (pa_cons pe_str (pa_cons (pe_ix ix_list (pe_op op_cat (pv 1) (pe_lst (pa_cons pe_str (pa_cons pe_str (pa_cons pe_str (pa_cons pe_str pa_nil)))))) (pe_call G__law_take hr rfl T.m__law_take T.F__law_take.kp (b__law_take T) .nil pass0 (pa_cons (pv 0) (pa_cons (pe_op op_add (pe_callB call_len_seq rfl T.z_len PySem.boot_len (pa_cons (pv 1) pa_nil)) pe_int) pa_nil))) (fun _ _ => rfl)) pa_nil)))))
      pss_nil)
    (pss_cons (ps_if (pt_cmpR op_lt (pv 2) pe_int (nomark _))
      (pss_one (ps_ret (pe_lst (pa_cons pe_str (pa_cons (pe_callTy call_str_int rfl T.z_str boot_str (pa_cons (pe_ix ix_list (pe_lst (pa_cons (pe_call G__law_take hr rfl T.m__law_take T.F__law_take.kp (b__law_take T) .nil pass0 (pa_cons (pv 0) (pa_cons pe_int pa_nil))) (pa_cons (pe_call G__law_take hr rfl T.m__law_take T.F__law_take.kp (b__law_take T) .nil pass0 (pa_cons (pv 0) (pa_cons pe_int pa_nil))) pa_nil))) (pe_call G__law_take hr rfl T.m__law_take T.F__law_take.kp (b__law_take T) .nil pass0 (pa_cons (pv 0) (pa_cons pe_int pa_nil))) (fun _ _ => rfl)) pa_nil)) pa_nil)))))
      pss_nil)
    (pss_one (ps_ret (pe_lst (pa_cons (pe_ix ix_list (pe_lst (pa_cons pe_str (pa_cons pe_str (pa_cons pe_str pa_nil)))) (pe_call G__law_take hr rfl T.m__law_take T.F__law_take.kp (b__law_take T) .nil pass0 (pa_cons (pv 0) (pa_cons pe_int pa_nil))) (fun _ _ => rfl)) pa_nil))))))), ?_⟩
  refine ⟨_, rfl, p, k, 7, rfl, T0, by omega, by decide, fun r1 H1 a1 b1 B1 T1 => ?_⟩
  have N1 := N0.but T0 B1
  refine ⟨_, rfl, _, _, rfl, rfl, _, rfl, ?_⟩
  refine ite2 (fun c1 => ?_) (fun c1 => ?_)
  · refine ⟨_, rfl, (by show 4 ≤ sizeLine; decide), fun l1 hl1 => ?_⟩
    have S1 := same_new hl1 (.lst [.str "all", .str "do", .str "not", .str "mark"])
    have N2 := N1.same S1
    refine ⟨nl, l1, _, _, rfl, rfl, N2.at_, upd_same, ?_, fun l2 hl2 => ?_⟩
    · rw [List.length_map, N0.len]
      exact (by decide : 4 + 4 ≤ sizeLine)
    have S2 := same_new hl2 (.lst (ns.map V.str ++ [.str "all", .str "do", .str "not", .str "mark"]))
    have N3 := N2.same S2
    have T3 := (T1.same S1).same S2
    have e3 : upd (upd H1 l1 (.lst [.str "all", .str "do", .str "not", .str "mark"])) l2 (.lst (ns.map V.str ++ [.str "all", .str "do", .str "not", .str "mark"])) l2 = some (.lst (ns.map V.str ++ [.str "all", .str "do", .str "not", .str "mark"])) := upd_same
    have B3 : But p H (upd (upd H1 l1 (.lst [.str "all", .str "do", .str "not", .str "mark"])) l2 (.lst (ns.map V.str ++ [.str "all", .str "do", .str "not", .str "mark"]))) := B1.of_same (S1.trans S2)
    have n3 : l2 ≠ p := Ne.symm ((T1.same S1).ne hl2)
    generalize upd (upd H1 l1 (.lst [.str "all", .str "do", .str "not", .str "mark"])) l2 (.lst (ns.map V.str ++ [.str "all", .str "do", .str "not", .str "mark"])) = H3 at *
    have el : (((ns.map V.str).length : Nat) : Int) = 4 := by rw [List.length_map, N0.len]; rfl
    refine ⟨_, rfl, _, rfl, nl, _, rfl, .inl (SqL.of N3.at_), _, _, rfl, rfl, p, _, _, rfl, T3, by omega, (by rw [el]; decide), fun r4 H4 a4 b4 B4 T4 => ?_⟩
    obtain ⟨n, hn, hok⟩ := pick_name N0.len N0.ok a4 (by rw [el] at b4; exact b4)
    refine ⟨l2, _, _, _, rfl, rfl, SqL.of (B4 _ _ n3 e3), hn, (by show 2 ≤ sizeLine; decide), fun l3 hl3 => ?_⟩
    exact q l3 (.mark n) _ _ (B3.trans (B4.trans (But.laid hl3))) (T4.laid hl3) (by omega) hok rfl upd_same
  · refine ⟨_, rfl, _, _, rfl, rfl, _, rfl, ?_⟩
    refine ite2 (fun c2 => ?_) (fun c2 => ?_)
    · refine ⟨_, rfl, p, _, 1000, rfl, T1, by omega, by decide, fun r2 H2 a2 b2 B2 T2 => ?_⟩
      refine ⟨_, rfl, p, _, 6, rfl, T2, by omega, by decide, fun r3 H3 a3 b3 B3 T3 => ?_⟩
      refine ⟨(by show 2 ≤ sizeLine; decide), fun l1 hl1 => ?_⟩
      have e1 : upd H3 l1 (.lst [.int r2, .int r3]) l1 = some (.lst [.int r2, .int r3]) := upd_same
      refine ⟨_, rfl, p, _, 2, rfl, T3.laid hl1, by omega, by decide, fun r4 H4 a4 b4 B4 T4 => ?_⟩
      have e4 := B4 l1 _ (Ne.symm (T3.ne hl1)) e1
      obtain ⟨i, hi, hi'⟩ := pick_num a4 b4 ⟨a2, b2⟩ ⟨a3, b3⟩
      refine ⟨l1, _, _, _, rfl, rfl, SqL.of e4, hi, _, rfl, (by rw [Int.natAbs_natCast]; exact log_small i hi'), (by show 2 ≤ sizeLine; decide), fun l3 hl3 => ?_⟩
      exact q l3 (.force i) _ _ (B1.trans (B2.trans (B3.trans ((But.laid hl1).trans (B4.trans (But.laid hl3)))))) (T4.laid hl3) (by omega) hi' rfl upd_same
    · refine ⟨(by show 3 ≤ sizeLine; decide), fun l1 hl1 => ?_⟩
      have e1 : upd H1 l1 (.lst [.str "all", .str "self", .str "mine"]) l1 = some (.lst [.str "all", .str "self", .str "mine"]) := upd_same
      refine ⟨_, rfl, p, _, 3, rfl, T1.laid hl1, by omega, by decide, fun r4 H4 a4 b4 B4 T4 => ?_⟩
      have e4 := B4 l1 _ (Ne.symm (T1.ne hl1)) e1
      obtain ⟨y, hy, hw, hok, hsz⟩ := pick_leaf a4 b4
      refine ⟨l1, _, _, _, rfl, rfl, SqL.of e4, hy, (by show 1 ≤ sizeLine; decide), fun l3 hl3 => ?_⟩
      exact q l3 y _ _ (B1.trans ((But.laid hl1).trans (B4.trans (But.laid hl3)))) (T4.laid hl3) (by omega) hok hsz (by rw [hw]; exact upd_same)
set_option maxHeartbeats 4000000 in
theorem lwhom_step (T : Tx K mg) {n : Nat} (G__law_whom : FnOk P w K mg base CX0 (n + 3) T.f__law_whom T.d__law_whom P__law_whom (spLWhom K n)) : FnOk P w K mg base CX0 (n + 4) T.f__law_whom T.d__law_whom P__law_whom (spLWhom K (n + 1)) := by
  have G__law_take := (ok__law_take (P := P) (w := w) (base := base) T).mono (by omega : 2 ≤ n + 3)
  have G__law_leaf := (ok__law_leaf (P := P) (w := w) (base := base) T).mono (by omega : 3 ≤ n + 3)
  refine T.F__law_whom.ok sc__law_whom (fun vs H Q E h => ?_) (fun cdv A outer s H vs Q E hr h => ?_)
  · obtain ⟨p, nl, ns, k, m, rfl, _⟩ := h
    rfl
  obtain ⟨p, nl, ns, k, m, rfl, T0, hk, N0, m1, m2, m9, q⟩ := h
  refine ⟨_,   (pss_cons (ps_set (i := 3) sc__law_whom.nd rfl (Or.inl rfl) (pe_call G__law_take hr rfl T.m__law_take T.F__law_take.kp (b__law_take T) .nil pass0 (pa_cons (pv 0) (pa_cons pe_int pa_nil))))
    (pss_cons (ps_if (PW.pt (pw_and (pt_cmpR op_gt (pv 3) pe_int (nomark _)) (pw_and1 (pt_cmpR op_gt (pv 2) pe_int (nomark _)))))
      (pss_cons (ps_asg (pe_call G__law_whom hr rfl T.m__law_whom T.F__law_whom.kp (b__law_whom T) .nil pass0 (pa_cons (pv 0) (pa_cons (pv 1) (pa_cons (pe_op op_sub (pv 2) pe_int) pa_nil)))) (pg_tup (n := 2) rfl (pgs_cons (pg_name (i := 4) sc__law_whom.nd rfl (Or.inl rfl)) (pgs_cons (pg_name (i := 5) sc__law_whom.nd rfl (Or.inl rfl)) pgs_nil))))
      (pss_one (ps_ret (pe_tup (pa_cons (pe_op op_cat (pe_lst (pa_cons pe_str pa_nil)) (pv 4)) (pa_cons (pe_op op_add (pv 5) pe_int) pa_nil))))))
      pss_nil)
    (pss_cons (ps_if (PW.pt (pw_and (pt_cmpR op_gt (pv 3) pe_int (nomark _)) (pw_and1 (pt_cmpR op_gt (pv 2) pe_int (nomark _)))))
      (pss_cons (ps_asg (pe_call G__law_whom hr rfl T.m__law_whom T.F__law_whom.kp (b__law_whom T) .nil pass0 (pa_cons (pv 0) (pa_cons (pv 1) (pa_cons (pe_op op_sub (pv 2) pe_int) pa_nil)))) (pg_tup (n := 2) rfl (pgs_cons (pg_name (i := 4) sc__law_whom.nd rfl (Or.inl rfl)) (pgs_cons (pg_name (i := 5) sc__law_whom.nd rfl (Or.inl rfl)) pgs_nil))))
      (pss_cons (ps_asg (pe_call G__law_whom hr rfl T.m__law_whom T.F__law_whom.kp (b__law_whom T) .nil pass0 (pa_cons (pv 0) (pa_cons (pv 1) (pa_cons (pe_op op_sub (pe_op op_sub (pv 2) pe_int) (pv 5)) pa_nil)))) (pg_tup (n := 2) rfl (pgs_cons (pg_name (i := 6) sc__law_whom.nd rfl (Or.inl rfl)) (pgs_cons (pg_name (i := 7) sc__law_whom.nd rfl (Or.inl rfl)) pgs_nil))))
      (pss_one (ps_ret (pe_tup (pa_cons (pe_op op_cat (pe_op op_cat (pe_lst (pa_cons (pe_ix ix_list (pe_lst (pa_cons pe_str (pa_cons pe_str pa_nil))) (pe_op op_mod (pv 3) pe_int) (fun _ _ => rfl)) pa_nil)) (pv 4)) (pv 6)) (pa_cons (pe_op op_add (pe_op op_add pe_int (pv 5)) (pv 7)) pa_nil)))))))
      pss_nil)
    (pss_one (ps_ret (pe_tup (pa_cons (pe_call G__law_leaf hr rfl T.m__law_leaf T.F__law_leaf.kp (b__law_leaf T) .nil pass0 (pa_cons (pv 0) (pa_cons (pv 1) pa_nil))) (pa_cons pe_int pa_nil)))))))), ?_⟩
  refine ⟨_, rfl, p, k, 8, rfl, T0, by omega, by decide, fun r1 H1 a1 b1 B1 T1 => ?_⟩
  have N1 := N0.but T0 B1
  refine ⟨_, rfl, _, _, rfl, rfl, _, rfl, ?_⟩
  refine and_if (d := decide ((1 : Int) < (m : Int))) (fun z => ⟨_, rfl, _, _, rfl, rfl, _, rfl, z⟩) (fun c1 c2 => ?_) ?_
  · have c2' : (1 : Int) < (m : Int) := of_decide_eq_true c2
    refine ⟨_, rfl, _, rfl, _, rfl, _, _, rfl, rfl, p, nl, ns, k + 1, m - 1, (by rw [show ((m - 1 : Nat) : Int) = (m : Int) - 1 by omega]; rfl), T1, by omega, N1, by omega, by omega, by omega, fun t l y k' H2 B2 T2 hk2 ok hsz et el => ?_⟩
    refine ⟨t, _, rfl, SqT.of et, rfl, _, _, rfl, _, _, rfl, rfl, ?_⟩
    refine ⟨(by show 1 ≤ sizeLine; decide), fun l1 hl1 => ?_⟩
    have S1 := same_new hl1 (.lst [.str "not"])
    refine ⟨_, rfl, l1, l, _, _, rfl, rfl, upd_same, S1 _ _ el, ?_, fun l2 hl2 => ?_⟩
    · rw [List.length_map, List.length_singleton]
      have := words_le (y := y) (by omega)
      exact small (by omega)
    have S2 := same_new hl2 (.lst ([.str "not"] ++ y.words.map V.str))
    refine ⟨_, rfl, _, _, rfl, rfl, (by show 2 ≤ sizeLine; decide), fun t2 ht2 => ?_⟩
    have e2 : upd (upd H2 l1 (.lst [.str "not"])) l2 (.lst ([.str "not"] ++ y.words.map V.str)) l2 = some (.lst ((Wh.not y).words.map V.str)) := upd_same
    have S3 := same_new ht2 (.tup [.ref l2, .int ((y.size : Int) + 1)])
    refine q t2 l2 (.not y) k' _ (B1.trans (B2.of_same (S1.trans (S2.trans S3)))) (T2.same (S1.trans (S2.trans S3))) ?_ ok ?_ ?_ (S3 _ _ e2)
    · show k' ≤ k + 5 * ((y.size + 1 : Nat) : Int)
      omega
    · show y.size + 1 ≤ m
      omega
    · rw [upd_same]
      rfl
  refine ⟨_, rfl, _, _, rfl, rfl, _, rfl, ?_⟩
  refine and_if (d := decide ((2 : Int) < (m : Int))) (fun z => ⟨_, rfl, _, _, rfl, rfl, _, rfl, z⟩) (fun c1 c2 => ?_) ?_
  · have c2' : (2 : Int) < (m : Int) := of_decide_eq_true c2
    refine ⟨_, rfl, _, rfl, _, rfl, _, _, rfl, rfl, p, nl, ns, k + 1, m - 2, (by rw [show ((m - 2 : Nat) : Int) = (m : Int) - 2 by omega]; rfl), T1, by omega, N1, by omega, by omega, by omega, fun t l y k2 H2 B2 T2 hk2 ok hsz et el => ?_⟩
    refine ⟨t, _, rfl, SqT.of et, rfl, _, _, rfl, _, _, rfl, rfl, ?_⟩
    have yp := y.size_pos
    have N2 := N1.but T1 B2
    refine ⟨_, rfl, _, rfl, _, rfl, _, _, rfl, rfl, _, rfl, _, _, rfl, rfl, p, nl, ns, k2, m - 1 - y.size, (by rw [show ((m - 1 - y.size : Nat) : Int) = (m : Int) - 1 - (y.size : Int) by omega]; rfl), T2, by omega, N2, by omega, by omega, by omega, fun t' l' y' k3 H3 B3 T3 hk3 ok' hsz' et' el' => ?_⟩
    refine ⟨t', _, rfl, SqT.of et', rfl, _, _, rfl, _, _, rfl, rfl, ?_⟩
    have nlp : l ≠ p := by
      obtain ⟨⟨a, zs, h1, _⟩, _⟩ := T2
      refine ne_of el h1 fun z => ?_
      injection z with z
      cases ey : y.words with
      | nil => exact absurd ey y.words_ne
      | cons u r =>
        rw [ey] at z
        injection z with z _
        cases z
    have el3 := B3 _ _ nlp el
    refine ⟨(by show 2 ≤ sizeLine; decide), fun l1 hl1 => ?_⟩
    have S1 := same_new hl1 (.lst [.str "both", .str "any"])
    have hq0 : 0 ≤ r1 % 2 := Int.emod_nonneg _ (by decide)
    have hq1 : r1 % 2 < 2 := Int.emod_lt_of_pos _ (by decide)
    obtain ⟨z, hz, hz'⟩ : ∃ z : Wh, atI [V.str "both", V.str "any"] (r1 % 2) = some (.str z.word) ∧ z.words = z.word :: (y.words ++ y'.words) ∧ z.ok ∧ z.size = y.size + y'.size + 1 := by
      obtain ⟨v, hv, hm⟩ := at_get (xs := [V.str "both", V.str "any"]) hq0 hq1
      simp only [List.mem_cons, List.not_mem_nil, or_false] at hm
      rcases hm with e | e <;> subst e
      · exact ⟨.both y y', hv, rfl, ⟨ok, ok'⟩, rfl⟩
      · exact ⟨.any y y', hv, rfl, ⟨ok, ok'⟩, rfl⟩
    obtain ⟨zw, zok, zs⟩ := hz'
    refine ⟨_, rfl, _, _, rfl, rfl, (by show (0 : Int) < 2; decide), l1, _, _, _, rfl, rfl, SqL.of upd_same, hz, (by show 1 ≤ sizeLine; decide), fun l2 hl2 => ?_⟩
    have S2 := same_new hl2 (.lst [.str z.word])
    have w1 := words_le (y := y) (by omega)
    have w2 := words_le (y := y') (by omega)
    refine ⟨_, rfl, l2, l, _, _, rfl, rfl, upd_same, (S1.trans S2) _ _ el3, ?_, fun l3 hl3 => ?_⟩
    · rw [List.length_map, List.length_singleton]
      exact small (by omega)
    have S3 := same_new hl3 (.lst ([.str z.word] ++ y.words.map V.str))
    refine ⟨_, rfl, l3, l', _, _, rfl, rfl, upd_same, (S1.trans (S2.trans S3)) _ _ el', ?_, fun l4 hl4 => ?_⟩
    · rw [List.length_append, List.length_map, List.length_map, List.length_singleton]
      exact small (by omega)
    have S4 := same_new hl4 (.lst (([.str z.word] ++ y.words.map V.str) ++ y'.words.map V.str))
    refine ⟨_, rfl, _, _, rfl, rfl, _, rfl, _, _, rfl, rfl, (by show 2 ≤ sizeLine; decide), fun t2 ht2 => ?_⟩
    have S5 := same_new ht2 (.tup [.ref l4, .int (1 + (y.size : Int) + (y'.size : Int))])
    have S15 := S1.trans (S2.trans (S3.trans (S4.trans S5)))
    refine q t2 l4 z k3 _ (B1.trans (B2.trans (B3.of_same S15))) (T3.same S15) ?_ zok ?_ ?_ ?_
    · rw [zs]
      omega
    · omega
    · rw [upd_same, zs, show (((y.size + y'.size + 1 : Nat)) : Int) = 1 + (y.size : Int) + (y'.size : Int) by omega]
    · refine S5 _ _ ?_
      rw [upd_same, zw, List.map_cons, List.map_append]
      simp
  · refine ⟨_, rfl, _, rfl, p, nl, ns, k + 1, rfl, T1, by omega, N1, fun l y k' H2 B2 T2 hk2 ok hsz el => ?_⟩
    refine ⟨(by show 2 ≤ sizeLine; decide), fun t2 ht2 => ?_⟩
    have S3 := same_new ht2 (.tup [.ref l, .int 1])
    refine q t2 l y k' _ (B1.trans (B2.of_same S3)) (T2.same S3) (by rw [hsz]; omega) ok (by omega) ?_ (S3 _ _ el)
    rw [upd_same, hsz]
    rfl
theorem lwhom_none (T : Tx K mg) : FnOk P w K mg base CX0 3 T.f__law_whom T.d__law_whom P__law_whom (spLWhom K 0) := by
  have no : ∀ vs H Q E, ¬ spLWhom K 0 vs H Q E := fun vs H Q E h => by
    obtain ⟨p, nl, ns, k, m, _, _, _, _, m1, m2, _⟩ := h
    omega
  exact ⟨fun vs H Q E h => absurd h (no vs H Q E), fun A outer s H args us vs Q E _ _ _ _ h => absurd h (no vs H Q E)⟩
theorem lwhom_all (T : Tx K mg) : ∀ n : Nat, FnOk P w K mg base CX0 (n + 3) T.f__law_whom T.d__law_whom P__law_whom (spLWhom K n)
  | 0 => lwhom_none T
  | n + 1 => lwhom_step T (lwhom_all T n)
end
theorem txt_size {y : Wh} (ok : y.ok) (hs : y.size ≤ 9) : (y.words.map (·.length)).sum + y.words.length * (" " : Str).length ≤ 16777216 := by
  have b := words_le hs
  have c := sum_le (l := y.words.map (·.length)) (k := 8) (fun x hx => by
    obtain ⟨u, hu, rfl⟩ := List.mem_map.mp hx
    exact (Wh.words_ok ok u hu).2.2)
  rw [List.length_map] at c
  have e : (" " : Str).length = 1 := rfl
  rw [e]
  omega
def txt (y : Wh) : Str := Str.join " " y.words
section
variable {P : Program} {w : World} {K : PySem.W.Frag} {mg : Str → Option Value} {base : Heap}
set_option maxHeartbeats 4000000 in
theorem ok_law (T : Tx K mg) (kb : K.In base) : FnOk P w K mg base CX0 13 T.f_law T.d_law P_law (spLaw K) := by
  have G__law_names := (ok__law_names (P := P) (w := w) (base := base) T).mono (by decide : 3 ≤ 12)
  have G__law_whom := lwhom_all (P := P) (w := w) (base := base) T 9
  have G_read_whom := (ok_read_whom (P := P) (w := w) (base := base) T kb).mono (by decide : 7 ≤ 12)
  have G_Whom_told := (told_all (P := P) (w := w) (base := base) T 9).mono (by decide : 11 ≤ 12)
  refine T.F_law.ok sc_law (fun vs H Q E h => ?_) (fun cdv A outer s H vs Q E hr h => ?_)
  · obtain ⟨a, ns, rfl, _⟩ := h
    rfl
  obtain ⟨a, ns, rfl, hS, h63, q⟩ := h
  refine ⟨_,   (pss_cons (ps_set (i := 1) sc_law.nd rfl (Or.inr rfl) (pe_lst (pa_cons (pv 0) (pa_cons pe_int pa_nil))))
    (pss_cons (ps_set (i := 2) sc_law.nd rfl (Or.inr rfl) (pe_call G__law_names hr rfl T.m__law_names T.F__law_names.kp (b__law_names T) .nil pass0 (pa_cons (pv 1) (pa_cons pe_int pa_nil))))
    (pss_cons (ps_setC (i := 3) sc_law.nd rfl (Or.inl rfl) (own := ["_law_k"]) (cap := ["_law_state", "_law_names_here"]) rfl (BlkScope.chk rfl rfl) (.cons (j := 1) rfl (.inl rfl) (.inl rfl) (.cons (j := 2) rfl (.inl rfl) (.inl rfl) .nil)) (pi_range1 rfl T.z_range (pa_cons pe_int pa_nil)) (fun _ _ _ _ => (pg_name (i := 0) (show List.Nodup (["_law_k", "_law_state", "_law_names_here"] : List Str) by decide +kernel) rfl (Or.inl rfl))) (fun _ _ _ _ => pts_nil) (fun _ _ _ _ => by exact (pe_bmK K PySem.F.plainAttrs_str PySem.F.slot_str_join PySem.F.type_str_join (mt_joinK K) pe_str (pa_cons (pe_ix (ix_tupK K) (pe_call G__law_whom hr rfl T.m__law_whom T.F__law_whom.kp (b__law_whom T) .nil pass0 (pa_cons (pv 1) (pa_cons (pv 2) (pa_cons pe_int pa_nil)))) pe_int (fun _ _ => rfl)) pa_nil))))
    (pss_cons (ps_set (i := 4) sc_law.nd rfl (Or.inl rfl) (pe_call G_read_whom hr rfl T.m_read_whom T.F_read_whom.kp (b_read_whom T) .nil pass0 (pa_cons (pe_ix ix_list (pv 3) pe_int (fun _ _ => rfl)) pa_nil)))
    (pss_cons (ps_set (i := 5) sc_law.nd rfl (Or.inl rfl) (pe_meth0 (pv 4) T.cl_Whom T.M_Whom_told G_Whom_told hr (b_Whom_told T) .nil pass0))
    (pss_cons (ps_set (i := 6) sc_law.nd rfl (Or.inl rfl) (pe_call G_read_whom hr rfl T.m_read_whom T.F_read_whom.kp (b_read_whom T) .nil pass0 (pa_cons (pe_ix ix_list (pv 3) pe_int (fun _ _ => rfl)) pa_nil)))
    (pss_cons (ps_if (PW.pt (pw_or (pt_not (pt_val (pe_callB call_isinst rfl T.z_isinstance boot_isinstance (pa_cons (pv 5) (pa_cons (pe_bltn (v := .ty "str") rfl T.z_str boot_str rfl) pa_nil))))) (pw_or1 (pt_cmpR op_ne (pv 5) (pe_ix ix_list (pv 3) pe_int (fun _ _ => rfl)) (nomark _)))))
      (pss_one (ps_ret pe_bl))
      pss_nil)
    (pss_one (ps_ret (pe_and (pe_cmpR op_eq (pe_meth0 (pv 6) T.cl_Whom T.M_Whom_told G_Whom_told hr (b_Whom_told T) .nil pass0) (pe_ix ix_list (pv 3) pe_int (fun _ _ => rfl)) (nomark _)) (pe_and (pe_cmpR op_eq (pe_meth0 (pv 4) T.cl_Whom T.M_Whom_told G_Whom_told hr (b_Whom_told T) .nil pass0) (pe_ix ix_list (pv 3) pe_int (fun _ _ => rfl)) (nomark _)) (pe_one (pe_cmpR op_eq (pe_meth0 (pe_call G_read_whom hr rfl T.m_read_whom T.F_read_whom.kp (b_read_whom T) .nil pass0 (pa_cons (pv 5) pa_nil)) T.cl_Whom T.M_Whom_told G_Whom_told hr (b_Whom_told T) .nil pass0) (pv 5) (nomark _)))))))))))))), ?_⟩
  refine ⟨_, rfl, (by show 2 ≤ sizeLine; decide), fun p hp => ?_⟩
  have T0 : Tk K (upd H p (.lst [.ref a, .int 0])) p 0 := Tk.begin hp hS h63
  refine ⟨_, rfl, p, 0, rfl, T0, by decide, fun nl nms k1 H1 B1 T1 hk1 N1 => ?_⟩
  refine ⟨2, rfl, by decide, by decide, ?_⟩
  refine comp_range (fun i ys H' => ∃ (zs : List Wh) (k' : Int), ys = zs.map (fun y => V.str (txt y)) ∧ zs.length = i ∧ i ≤ 2 ∧ (∀ y ∈ zs, y.ok ∧ y.size ≤ 9) ∧ Tk K H' p k' ∧ k' ≤ 20 + 45 * i ∧ Nm H' nl nms) ⟨[], _, rfl, rfl, Nat.zero_le _, by simp, T1, by omega, N1⟩ ?_ ?_ ?_
  · rintro i ys H' ⟨zs, k', rfl, h1, h2, _⟩
    rw [List.length_map]
    exact small (by omega)
  · rintro i ys H' hi ⟨zs, k', rfl, h1, h2, h3, T', hk', N'⟩
    refine ⟨rfl, rfl, _, rfl, _, rfl, p, nl, nms, k', 9, rfl, T', by omega, N', by decide, by decide, by decide, fun t l y k2 H2 B2 T2 hk2 ok hsz et el => ?_⟩
    refine ⟨t, _, _, _, rfl, rfl, SqT.of et, rfl, " ", l, y.words, rfl, rfl, SqL.of el, txt_size ok hsz, zs ++ [y], k2, ?_, ?_, hi, ?_, T2, by omega, N'.but T' B2⟩
    · rw [List.map_append]
      rfl
    · rw [List.length_append, h1]
      rfl
    · intro x hx
      rcases List.mem_append.mp hx with hx | hx
      · exact h3 x hx
      · have e := List.mem_singleton.mp hx
        rw [e]
        exact ⟨ok, hsz⟩
  · rintro ys H3 ⟨zs, k3, rfl, h1, h2, h3, T3, hk3, N3⟩ tl htl
    obtain ⟨y0, y1, rfl⟩ : ∃ y0 y1, zs = [y0, y1] := by
      match zs, h1 with
      | [a, b], _ => exact ⟨a, b, rfl⟩
    obtain ⟨ok0, sz0⟩ := h3 y0 (by simp)
    obtain ⟨ok1, sz1⟩ := h3 y1 (by simp)
    have d0 : y0.depth ≤ 9 := Nat.le_trans y0.depth_le sz0
    have d1 : y1.depth ≤ 9 := Nat.le_trans y1.depth_le sz1
    have e4 : upd H3 tl (.lst ([y0, y1].map fun y => V.str (txt y))) tl = some (.lst [.str (txt y0), .str (txt y1)]) := upd_same
    generalize upd H3 tl (.lst ([y0, y1].map fun y => V.str (txt y))) = H4 at *
    refine ⟨_, rfl, tl, _, _, _, rfl, rfl, SqL.of e4, rfl, y0, rfl, ok0, sz0, fun v5 H5 S5 W5 => ?_⟩
    have W5' := id W5
    cases W5' with
    | @mk a5 dx5 t5 ps5 _ g1 g2 g3 =>
    refine ⟨_, rfl, a5, dx5, _, rfl, g1, hfs_no _ _ _ (by decide +kernel) (by decide +kernel) (by decide +kernel), _, y0, rfl, W5, ok0, d0, sz0, fun H6 S6 => ?_⟩
    have e6 := S6 _ _ (S5 _ _ e4)
    refine ⟨_, rfl, tl, _, _, _, rfl, rfl, SqL.of e6, rfl, y1, rfl, ok1, sz1, fun v7 H7 S7 W7 => ?_⟩
    have e7 := S7 _ _ e6
    refine ⟨_, rfl, _, _, .type "str", true, rfl, TyOf.str _, .inl ⟨"str", rfl, rfl⟩, true, rfl, ?_⟩
    refine iteF ⟨_, rfl, _, rfl, tl, _, _, _, rfl, rfl, SqL.of e7, rfl, rfl, _, rfl, ?_⟩
    refine iteNS rfl ?_
    have W7' := id W7
    cases W7' with
    | @mk a7 dx7 t7 ps7 _ j1 j2 j3 =>
    refine ⟨_, rfl, a7, dx7, _, rfl, j1, hfs_no _ _ _ (by decide +kernel) (by decide +kernel) (by decide +kernel), _, y1, rfl, W7, ok1, d1, sz1, fun H8 S8 => ?_⟩
    refine ⟨_, rfl, tl, _, _, _, rfl, rfl, SqL.of (S8 _ _ e7), rfl, rfl, _, rfl, ?_⟩
    have et : decide (V.str (Str.join " " y1.words) = V.str (txt y1)) = true := decide_eq_true rfl
    rw [et]
    refine iteT ?_
    have S58 : Same H5 H8 := S6.trans (S7.trans S8)
    refine ⟨_, rfl, a5, dx5, _, rfl, S58 _ _ g1, hfs_no _ _ _ (by decide +kernel) (by decide +kernel) (by decide +kernel), _, y0, rfl, W5.same S58, ok0, d0, sz0, fun H9 S9 => ?_⟩
    refine ⟨_, rfl, tl, _, _, _, rfl, rfl, SqL.of (S9 _ _ (S8 _ _ e7)), rfl, rfl, _, rfl, ?_⟩
    have et0 : decide (V.str (Str.join " " y0.words) = V.str (txt y0)) = true := decide_eq_true rfl
    rw [et0]
    refine iteT ?_
    refine ⟨_, rfl, y0, rfl, ok0, sz0, fun va Ha Sa Wa => ?_⟩
    have Wa' := id Wa
    cases Wa' with
    | @mk aa dxa ta psa _ m1 m2 m3 =>
    refine ⟨aa, dxa, _, rfl, m1, hfs_no _ _ _ (by decide +kernel) (by decide +kernel) (by decide +kernel), _, y0, rfl, Wa, ok0, d0, sz0, fun Hb Sb => ?_⟩
    refine ⟨_, rfl, rfl, ?_⟩
    have eb : decide (V.str (Str.join " " y0.words) = V.str (Str.join " " y0.words)) = true := decide_eq_true rfl
    show Q (.bl (decide (V.str (Str.join " " y0.words) = V.str (Str.join " " y0.words)))) Hb
    rw [eb]
    exact q Hb
end
theorem all_mk {l : PySem.W.OpenLaw} {w : World} {K : PySem.W.Frag} {h : Heap} {mg : Str → Option Value} {fa : Addr} (X : K.In h) (G : h.Ns mainGlobals mg) (hfa : mg "law" = some (.ref fa))
    {f1 : Addr} {od1 an1 : Option Addr} {sl1 : Array (Option Value)} {oc1 kV1 dc1 pm1 cd1 ct1 : Value}
    {f2 : Addr} {od2 an2 : Option Addr} {sl2 : Array (Option Value)} {oc2 kV2 dc2 pm2 cd2 ct2 : Value}
    {f3 : Addr} {od3 an3 : Option Addr} {sl3 : Array (Option Value)} {oc3 kV3 dc3 pm3 cd3 ct3 : Value}
    {f4 : Addr} {od4 an4 : Option Addr} {sl4 : Array (Option Value)} {oc4 kV4 dc4 pm4 cd4 ct4 : Value}
    {f5 : Addr} {od5 an5 : Option Addr} {sl5 : Array (Option Value)} {oc5 kV5 dc5 pm5 cd5 ct5 : Value}
    {f6 : Addr} {od6 an6 : Option Addr} {sl6 : Array (Option Value)} {oc6 kV6 dc6 pm6 cd6 ct6 : Value}
    {f7 : Addr} {od7 an7 : Option Addr} {sl7 : Array (Option Value)} {oc7 kV7 dc7 pm7 cd7 ct7 : Value}
    {f8 : Addr} {od8 an8 : Option Addr} {sl8 : Array (Option Value)} {oc8 kV8 dc8 pm8 cd8 ct8 : Value}
    {f9 : Addr} {od9 an9 : Option Addr} {sl9 : Array (Option Value)} {oc9 kV9 dc9 pm9 cd9 ct9 : Value}
    {f10 : Addr} {od10 an10 : Option Addr} {sl10 : Array (Option Value)} {oc10 kV10 dc10 pm10 cd10 ct10 : Value}
    {f11 : Addr} {od11 an11 : Option Addr} {sl11 : Array (Option Value)} {oc11 kV11 dc11 pm11 cd11 ct11 : Value}
    {f12 : Addr} {od12 an12 : Option Addr} {sl12 : Array (Option Value)} {oc12 kV12 dc12 pm12 cd12 ct12 : Value}
    {f13 : Addr} {od13 an13 : Option Addr} {sl13 : Array (Option Value)} {oc13 kV13 dc13 pm13 cd13 ct13 : Value}
    {f14 : Addr} {od14 an14 : Option Addr} {sl14 : Array (Option Value)} {oc14 kV14 dc14 pm14 cd14 ct14 : Value}
    {f15 : Addr} {od15 an15 : Option Addr} {sl15 : Array (Option Value)} {oc15 kV15 dc15 pm15 cd15 ct15 : Value}
    {f16 : Addr} {od16 an16 : Option Addr} {sl16 : Array (Option Value)} {oc16 kV16 dc16 pm16 cd16 ct16 : Value}
    {f17 : Addr} {od17 an17 : Option Addr} {sl17 : Array (Option Value)} {oc17 kV17 dc17 pm17 cd17 ct17 : Value}
    {f18 : Addr} {od18 an18 : Option Addr} {sl18 : Array (Option Value)} {oc18 kV18 dc18 pm18 cd18 ct18 : Value}
    {f19 : Addr} {od19 an19 : Option Addr} {sl19 : Array (Option Value)} {oc19 kV19 dc19 pm19 cd19 ct19 : Value}
    {C_Words : Addr}
    {C_Whom : Addr}
    {t_LETTERS : Tok}
    {t_FIGURES : Tok}
    {t_MOST_WORDS : Tok}
    {A_PARTS : Addr}
    (aC_Words : PySem.W.nsIn K mainGlobals "Words" = some (some (.ref C_Words)))
    (aC_Whom : PySem.W.nsIn K mainGlobals "Whom" = some (some (.ref C_Whom)))
    (a1 : PySem.W.nsIn K mainGlobals "is_name" = some (some (.ref f1)))
    (l1 : K.lookup f1 = some ⟨oc1, od1, .func (PySem.W.fnOf "is_name" "is_name" (defArgs s_is_name) (defBody s_is_name) (defScope s_is_name) .none kV1 dc1 pm1 an1 cd1 ct1), sl1⟩)
    (c1 : PySem.W.codeIn K cd1 "is_name" = true)
    (k1 : PySem.W.keepIn K (.ref f1) = true)
    (a2 : PySem.W.nsIn K mainGlobals "is_number" = some (some (.ref f2)))
    (l2 : K.lookup f2 = some ⟨oc2, od2, .func (PySem.W.fnOf "is_number" "is_number" (defArgs s_is_number) (defBody s_is_number) (defScope s_is_number) .none kV2 dc2 pm2 an2 cd2 ct2), sl2⟩)
    (c2 : PySem.W.codeIn K cd2 "is_number" = true)
    (k2 : PySem.W.keepIn K (.ref f2) = true)
    (a3 : PySem.W.nsIn K mainGlobals "is_whole" = some (some (.ref f3)))
    (l3 : K.lookup f3 = some ⟨oc3, od3, .func (PySem.W.fnOf "is_whole" "is_whole" (defArgs s_is_whole) (defBody s_is_whole) (defScope s_is_whole) .none kV3 dc3 pm3 an3 cd3 ct3), sl3⟩)
    (c3 : PySem.W.codeIn K cd3 "is_whole" = true)
    (k3 : PySem.W.keepIn K (.ref f3) = true)
    (a4 : PySem.W.findIn K (.ref C_Words) "__init__" = some (some (.ref f4)))
    (i4 : PySem.W.isFn K (.ref f4) = true)
    (l4 : K.lookup f4 = some ⟨oc4, od4, .func (PySem.W.fnOf "__init__" "Words.__init__" (defArgs s_Words___init__) (defBody s_Words___init__) (defScope s_Words___init__) .none kV4 dc4 pm4 an4 cd4 ct4), sl4⟩)
    (c4 : PySem.W.codeIn K cd4 "Words.__init__" = true)
    (k4 : PySem.W.keepIn K (.ref f4) = true)
    (a5 : PySem.W.findIn K (.ref C_Words) "take" = some (some (.ref f5)))
    (i5 : PySem.W.isFn K (.ref f5) = true)
    (l5 : K.lookup f5 = some ⟨oc5, od5, .func (PySem.W.fnOf "take" "Words.take" (defArgs s_Words_take) (defBody s_Words_take) (defScope s_Words_take) .none kV5 dc5 pm5 an5 cd5 ct5), sl5⟩)
    (c5 : PySem.W.codeIn K cd5 "Words.take" = true)
    (k5 : PySem.W.keepIn K (.ref f5) = true)
    (a6 : PySem.W.findIn K (.ref C_Words) "take_name" = some (some (.ref f6)))
    (i6 : PySem.W.isFn K (.ref f6) = true)
    (l6 : K.lookup f6 = some ⟨oc6, od6, .func (PySem.W.fnOf "take_name" "Words.take_name" (defArgs s_Words_take_name) (defBody s_Words_take_name) (defScope s_Words_take_name) .none kV6 dc6 pm6 an6 cd6 ct6), sl6⟩)
    (c6 : PySem.W.codeIn K cd6 "Words.take_name" = true)
    (k6 : PySem.W.keepIn K (.ref f6) = true)
    (a7 : PySem.W.findIn K (.ref C_Words) "take_number" = some (some (.ref f7)))
    (i7 : PySem.W.isFn K (.ref f7) = true)
    (l7 : K.lookup f7 = some ⟨oc7, od7, .func (PySem.W.fnOf "take_number" "Words.take_number" (defArgs s_Words_take_number) (defBody s_Words_take_number) (defScope s_Words_take_number) .none kV7 dc7 pm7 an7 cd7 ct7), sl7⟩)
    (c7 : PySem.W.codeIn K cd7 "Words.take_number" = true)
    (k7 : PySem.W.keepIn K (.ref f7) = true)
    (a8 : PySem.W.findIn K (.ref C_Words) "finish" = some (some (.ref f8)))
    (i8 : PySem.W.isFn K (.ref f8) = true)
    (l8 : K.lookup f8 = some ⟨oc8, od8, .func (PySem.W.fnOf "finish" "Words.finish" (defArgs s_Words_finish) (defBody s_Words_finish) (defScope s_Words_finish) .none kV8 dc8 pm8 an8 cd8 ct8), sl8⟩)
    (c8 : PySem.W.codeIn K cd8 "Words.finish" = true)
    (k8 : PySem.W.keepIn K (.ref f8) = true)
    (a9 : PySem.W.findIn K (.ref C_Whom) "__init__" = some (some (.ref f9)))
    (i9 : PySem.W.isFn K (.ref f9) = true)
    (l9 : K.lookup f9 = some ⟨oc9, od9, .func (PySem.W.fnOf "__init__" "Whom.__init__" (defArgs s_Whom___init__) (defBody s_Whom___init__) (defScope s_Whom___init__) .none kV9 dc9 pm9 an9 cd9 ct9), sl9⟩)
    (c9 : PySem.W.codeIn K cd9 "Whom.__init__" = true)
    (k9 : PySem.W.keepIn K (.ref f9) = true)
    (a10 : PySem.W.findIn K (.ref C_Whom) "told" = some (some (.ref f10)))
    (i10 : PySem.W.isFn K (.ref f10) = true)
    (l10 : K.lookup f10 = some ⟨oc10, od10, .func (PySem.W.fnOf "told" "Whom.told" (defArgs s_Whom_told) (defBody s_Whom_told) (defScope s_Whom_told) .none kV10 dc10 pm10 an10 cd10 ct10), sl10⟩)
    (c10 : PySem.W.codeIn K cd10 "Whom.told" = true)
    (k10 : PySem.W.keepIn K (.ref f10) = true)
    (a11 : PySem.W.nsIn K mainGlobals "read_whom" = some (some (.ref f11)))
    (l11 : K.lookup f11 = some ⟨oc11, od11, .func (PySem.W.fnOf "read_whom" "read_whom" (defArgs s_read_whom) (defBody s_read_whom) (defScope s_read_whom) .none kV11 dc11 pm11 an11 cd11 ct11), sl11⟩)
    (c11 : PySem.W.codeIn K cd11 "read_whom" = true)
    (k11 : PySem.W.keepIn K (.ref f11) = true)
    (a12 : PySem.W.nsIn K mainGlobals "take_whom" = some (some (.ref f12)))
    (l12 : K.lookup f12 = some ⟨oc12, od12, .func (PySem.W.fnOf "take_whom" "take_whom" (defArgs s_take_whom) (defBody s_take_whom) (defScope s_take_whom) .none kV12 dc12 pm12 an12 cd12 ct12), sl12⟩)
    (c12 : PySem.W.codeIn K cd12 "take_whom" = true)
    (k12 : PySem.W.keepIn K (.ref f12) = true)
    (a13 : PySem.W.nsIn K mainGlobals "take_value" = some (some (.ref f13)))
    (l13 : K.lookup f13 = some ⟨oc13, od13, .func (PySem.W.fnOf "take_value" "take_value" (defArgs s_take_value) (defBody s_take_value) (defScope s_take_value) .none kV13 dc13 pm13 an13 cd13 ct13), sl13⟩)
    (c13 : PySem.W.codeIn K cd13 "take_value" = true)
    (k13 : PySem.W.keepIn K (.ref f13) = true)
    (a14 : PySem.W.nsIn K mainGlobals "built" = some (some (.ref f14)))
    (l14 : K.lookup f14 = some ⟨oc14, od14, .func (PySem.W.fnOf "built" "built" (defArgs s_built) (defBody s_built) (defScope s_built) .none kV14 dc14 pm14 an14 cd14 ct14), sl14⟩)
    (c14 : PySem.W.codeIn K cd14 "built" = true)
    (k14 : PySem.W.keepIn K (.ref f14) = true)
    (a15 : PySem.W.nsIn K mainGlobals "_law_take" = some (some (.ref f15)))
    (l15 : K.lookup f15 = some ⟨oc15, od15, .func (PySem.W.fnOf "_law_take" "_law_take" (defArgs s__law_take) (defBody s__law_take) (defScope s__law_take) .none kV15 dc15 pm15 an15 cd15 ct15), sl15⟩)
    (c15 : PySem.W.codeIn K cd15 "_law_take" = true)
    (k15 : PySem.W.keepIn K (.ref f15) = true)
    (a16 : PySem.W.nsIn K mainGlobals "_law_names" = some (some (.ref f16)))
    (l16 : K.lookup f16 = some ⟨oc16, od16, .func (PySem.W.fnOf "_law_names" "_law_names" (defArgs s__law_names) (defBody s__law_names) (defScope s__law_names) .none kV16 dc16 pm16 an16 cd16 ct16), sl16⟩)
    (c16 : PySem.W.codeIn K cd16 "_law_names" = true)
    (k16 : PySem.W.keepIn K (.ref f16) = true)
    (a17 : PySem.W.nsIn K mainGlobals "_law_leaf" = some (some (.ref f17)))
    (l17 : K.lookup f17 = some ⟨oc17, od17, .func (PySem.W.fnOf "_law_leaf" "_law_leaf" (defArgs s__law_leaf) (defBody s__law_leaf) (defScope s__law_leaf) .none kV17 dc17 pm17 an17 cd17 ct17), sl17⟩)
    (c17 : PySem.W.codeIn K cd17 "_law_leaf" = true)
    (k17 : PySem.W.keepIn K (.ref f17) = true)
    (a18 : PySem.W.nsIn K mainGlobals "_law_whom" = some (some (.ref f18)))
    (l18 : K.lookup f18 = some ⟨oc18, od18, .func (PySem.W.fnOf "_law_whom" "_law_whom" (defArgs s__law_whom) (defBody s__law_whom) (defScope s__law_whom) .none kV18 dc18 pm18 an18 cd18 ct18), sl18⟩)
    (c18 : PySem.W.codeIn K cd18 "_law_whom" = true)
    (k18 : PySem.W.keepIn K (.ref f18) = true)
    (a19 : PySem.W.nsIn K mainGlobals "law" = some (some (.ref f19)))
    (l19 : K.lookup f19 = some ⟨oc19, od19, .func (PySem.W.fnOf "law" "law" (defArgs s_law) (defBody s_law) (defScope s_law) .none kV19 dc19 pm19 an19 cd19 ct19), sl19⟩)
    (c19 : PySem.W.codeIn K cd19 "law" = true)
    (k19 : PySem.W.keepIn K (.ref f19) = true)
    (pg_Words : PySem.W.plainGet K C_Words Str.empty = true)
    (hd_Words : PySem.W.hasDictIn K C_Words = true)
    (po_Words : PySem.W.plainOver K C_Words = true)
    (sa_Words : PySem.W.findIn K (.ref C_Words) "__setattr__" = some (some (.builtin "object.__setattr__")))
    (mk_Words : PySem.W.makesIn K C_Words = true)
    (kc_Words : PySem.W.keepIn K (.ref C_Words) = true)
    (n_Words_words : PySem.W.findIn K (.ref C_Words) "words" = some none)
    (n_Words_place : PySem.W.findIn K (.ref C_Words) "place" = some none)
    (pg_Whom : PySem.W.plainGet K C_Whom Str.empty = true)
    (hd_Whom : PySem.W.hasDictIn K C_Whom = true)
    (po_Whom : PySem.W.plainOver K C_Whom = true)
    (sa_Whom : PySem.W.findIn K (.ref C_Whom) "__setattr__" = some (some (.builtin "object.__setattr__")))
    (mk_Whom : PySem.W.makesIn K C_Whom = true)
    (kc_Whom : PySem.W.keepIn K (.ref C_Whom) = true)
    (n_Whom_word : PySem.W.findIn K (.ref C_Whom) "word" = some none)
    (n_Whom_value : PySem.W.findIn K (.ref C_Whom) "value" = some none)
    (n_Whom_parts : PySem.W.findIn K (.ref C_Whom) "parts" = some none)
    (z_all : PySem.W.nsIn K mainGlobals "all" = some none)
    (z_int : PySem.W.nsIn K mainGlobals "int" = some none)
    (z_isinstance : PySem.W.nsIn K mainGlobals "isinstance" = some none)
    (z_len : PySem.W.nsIn K mainGlobals "len" = some none)
    (z_range : PySem.W.nsIn K mainGlobals "range" = some none)
    (z_reversed : PySem.W.nsIn K mainGlobals "reversed" = some none)
    (z_str : PySem.W.nsIn K mainGlobals "str" = some none)
    (z_tuple : PySem.W.nsIn K mainGlobals "tuple" = some none)
    (g_LETTERS : PySem.W.nsIn K mainGlobals "LETTERS" = some (some (.str V_LETTERS t_LETTERS)))
    (g_FIGURES : PySem.W.nsIn K mainGlobals "FIGURES" = some (some (.str V_FIGURES t_FIGURES)))
    (g_MOST_WORDS : PySem.W.nsIn K mainGlobals "MOST_WORDS" = some (some (.int 9 t_MOST_WORDS)))
    (g_PARTS : PySem.W.nsIn K mainGlobals "PARTS" = some (some (.ref A_PARTS)))
    (l_PARTS : KTD.tabLook (KTD.datLooks fun b => K.lookup b) (fun b => K.lookup b) A_PARTS D_PARTS = true) :
    ∃ fd : FuncData, (∀ (s : Shared) (v : Value), BindsTo s fd ⟨[v], []⟩ [("_law_script", v)]) ∧ ∀ base : Heap, K.In base → base.Ns mainGlobals mg → FnOk l.prog w K mg base CX0 13 fa fd ["_law_script"] (spLaw K) := by
  have e := hfa.symm.trans (PySem.W.mg_of X G a19)
  cases e
  let T : Tx K mg := {
    f_is_name := f1,
    d_is_name := _,
    F_is_name := fun_mk (st := s_is_name) l1 c1 k1,
    m_is_name := PySem.W.mg_of X G a1,
    f_is_number := f2,
    d_is_number := _,
    F_is_number := fun_mk (st := s_is_number) l2 c2 k2,
    m_is_number := PySem.W.mg_of X G a2,
    f_is_whole := f3,
    d_is_whole := _,
    F_is_whole := fun_mk (st := s_is_whole) l3 c3 k3,
    m_is_whole := PySem.W.mg_of X G a3,
    f_Words___init__ := f4,
    d_Words___init__ := _,
    F_Words___init__ := fun_mk (st := s_Words___init__) l4 c4 k4,
    f_Words_take := f5,
    d_Words_take := _,
    F_Words_take := fun_mk (st := s_Words_take) l5 c5 k5,
    f_Words_take_name := f6,
    d_Words_take_name := _,
    F_Words_take_name := fun_mk (st := s_Words_take_name) l6 c6 k6,
    f_Words_take_number := f7,
    d_Words_take_number := _,
    F_Words_take_number := fun_mk (st := s_Words_take_number) l7 c7 k7,
    f_Words_finish := f8,
    d_Words_finish := _,
    F_Words_finish := fun_mk (st := s_Words_finish) l8 c8 k8,
    f_Whom___init__ := f9,
    d_Whom___init__ := _,
    F_Whom___init__ := fun_mk (st := s_Whom___init__) l9 c9 k9,
    f_Whom_told := f10,
    d_Whom_told := _,
    F_Whom_told := fun_mk (st := s_Whom_told) l10 c10 k10,
    f_read_whom := f11,
    d_read_whom := _,
    F_read_whom := fun_mk (st := s_read_whom) l11 c11 k11,
    m_read_whom := PySem.W.mg_of X G a11,
    f_take_whom := f12,
    d_take_whom := _,
    F_take_whom := fun_mk (st := s_take_whom) l12 c12 k12,
    m_take_whom := PySem.W.mg_of X G a12,
    f_take_value := f13,
    d_take_value := _,
    F_take_value := fun_mk (st := s_take_value) l13 c13 k13,
    m_take_value := PySem.W.mg_of X G a13,
    f_built := f14,
    d_built := _,
    F_built := fun_mk (st := s_built) l14 c14 k14,
    m_built := PySem.W.mg_of X G a14,
    f__law_take := f15,
    d__law_take := _,
    F__law_take := fun_mk (st := s__law_take) l15 c15 k15,
    m__law_take := PySem.W.mg_of X G a15,
    f__law_names := f16,
    d__law_names := _,
    F__law_names := fun_mk (st := s__law_names) l16 c16 k16,
    m__law_names := PySem.W.mg_of X G a16,
    f__law_leaf := f17,
    d__law_leaf := _,
    F__law_leaf := fun_mk (st := s__law_leaf) l17 c17 k17,
    m__law_leaf := PySem.W.mg_of X G a17,
    f__law_whom := f18,
    d__law_whom := _,
    F__law_whom := fun_mk (st := s__law_whom) l18 c18 k18,
    m__law_whom := PySem.W.mg_of X G a18,
    f_law := fa,
    d_law := _,
    F_law := fun_mk (st := s_law) l19 c19 k19,
    m_law := PySem.W.mg_of X G a19,
    c_Words := C_Words,
    cl_Words := ⟨pg_Words, hd_Words, po_Words, sa_Words⟩,
    m_Words := PySem.W.mg_of X G aC_Words,
    Mk_Words := ⟨mk_Words, a4, i4, kc_Words⟩,
    M_Words_take := ⟨a5, i5, k5⟩,
    M_Words_take_name := ⟨a6, i6, k6⟩,
    M_Words_take_number := ⟨a7, i7, k7⟩,
    M_Words_finish := ⟨a8, i8, k8⟩,
    n_Words_words := n_Words_words,
    n_Words_place := n_Words_place,
    c_Whom := C_Whom,
    cl_Whom := ⟨pg_Whom, hd_Whom, po_Whom, sa_Whom⟩,
    m_Whom := PySem.W.mg_of X G aC_Whom,
    Mk_Whom := ⟨mk_Whom, a9, i9, kc_Whom⟩,
    M_Whom_told := ⟨a10, i10, k10⟩,
    n_Whom_word := n_Whom_word,
    n_Whom_value := n_Whom_value,
    n_Whom_parts := n_Whom_parts,
    z_all := PySem.W.mg_none_of X G z_all,
    z_int := PySem.W.mg_none_of X G z_int,
    z_isinstance := PySem.W.mg_none_of X G z_isinstance,
    z_len := PySem.W.mg_none_of X G z_len,
    z_range := PySem.W.mg_none_of X G z_range,
    z_reversed := PySem.W.mg_none_of X G z_reversed,
    z_str := PySem.W.mg_none_of X G z_str,
    z_tuple := PySem.W.mg_none_of X G z_tuple,
    k_LETTERS := t_LETTERS,
    g_LETTERS := PySem.W.mg_of X G g_LETTERS,
    k_FIGURES := t_FIGURES,
    g_FIGURES := PySem.W.mg_of X G g_FIGURES,
    k_MOST_WORDS := t_MOST_WORDS,
    g_MOST_WORDS := PySem.W.mg_of X G g_MOST_WORDS,
    a_PARTS := A_PARTS,
    g_PARTS := PySem.W.mg_of X G g_PARTS,
    l_PARTS := l_PARTS }
  exact ⟨_, fun s v => .of_eq rfl, fun base kb _ => ok_law T kb⟩
theorem walk {l : PySem.W.OpenLaw} {q : Program} {loose : List Str} {XP : (Str → Option Value) → Heap → Prop} {YP : World → Heap → Prop} {d : DefRec} {K : Params → PySem.W.Frag} (hn : l.most = some 63) (hdf : d.params.defaults = [])
    (hY : ∀ (w : World) (h : Heap), YP w h → (K w.params).In h)
    (F : ∀ (w : World) (mg : Str → Option Value) (fa : Addr) (h : Heap), (K w.params).In h → h.Ns mainGlobals mg → mg d.name = some (.ref fa) →
      ∃ fd : FuncData, (∀ (s : Shared) (u : Value), BindsTo s fd ⟨[u], []⟩ [("_law_script", u)]) ∧ ∀ base : Heap, (K w.params).In base → base.Ns mainGlobals mg → FnOk l.prog w (K w.params) mg base CX0 13 fa fd ["_law_script"] (spLaw (K w.params))) :
    PySem.W.WalkO q loose XP YP l.row.toRowW d [] (fun f vs => PySem.call f vs) :=
  L2.walk_of (n := 63) (k := 13) (x := "_law_script") (CX := fun _ => CX0) (sp := fun w => spLaw (K w.params)) hn (by decide) hdf ⟨rfl, by decide, by decide⟩ hY F (fun _ _ a ns hl hO hS => ⟨a, ns, rfl, SqF.of hO hS, hl, fun _ => rfl⟩) fun _ _ _ _ _ z => z
end K02
open PySem PySem.W PyProof.Rows
set_option maxRecDepth 100000 in
set_option maxHeartbeats 0 in
theorem PySem.Challenge.cw_turnstack_k02_whoms_told_again_holds : PySem.Challenge.rw_turnstack_k02_whoms_told_again.Holds := by
  w_on; o_law; k_head; (case hw => w_witness2)
  k_fill
  refine K02.walk (l := PySem.Challenge.rw_turnstack_k02_whoms_told_again) rfl rfl (fun w h Y => PySem.W.kIn_of Y) ?F
  case F =>
    intro w mg fa h KX G hmg
    refine' K02.all_mk KX G hmg ?aC_Words ?aC_Whom ?a1 ?l1 ?c1 ?k1 ?a2 ?l2 ?c2 ?k2 ?a3 ?l3 ?c3 ?k3 ?a4 ?i4 ?l4 ?c4 ?k4 ?a5 ?i5 ?l5 ?c5 ?k5 ?a6 ?i6 ?l6 ?c6 ?k6 ?a7 ?i7 ?l7 ?c7 ?k7 ?a8 ?i8 ?l8 ?c8 ?k8 ?a9 ?i9 ?l9 ?c9 ?k9 ?a10 ?i10 ?l10 ?c10 ?k10 ?a11 ?l11 ?c11 ?k11 ?a12 ?l12 ?c12 ?k12 ?a13 ?l13 ?c13 ?k13 ?a14 ?l14 ?c14 ?k14 ?a15 ?l15 ?c15 ?k15 ?a16 ?l16 ?c16 ?k16 ?a17 ?l17 ?c17 ?k17 ?a18 ?l18 ?c18 ?k18 ?a19 ?l19 ?c19 ?k19 ?pg_Words ?hd_Words ?po_Words ?sa_Words ?mk_Words ?kc_Words ?n_Words_words ?n_Words_place ?pg_Whom ?hd_Whom ?po_Whom ?sa_Whom ?mk_Whom ?kc_Whom ?n_Whom_word ?n_Whom_value ?n_Whom_parts ?z_all ?z_int ?z_isinstance ?z_len ?z_range ?z_reversed ?z_str ?z_tuple ?g_LETTERS ?g_FIGURES ?g_MOST_WORDS ?g_PARTS ?l_PARTS
    (case aC_Words => k_is)
    (case aC_Whom => k_is)
    (case a1 => k_is)
    (case l1 => k_is)
    (case c1 => k_is)
    (case k1 => k_is)
    (case a2 => k_is)
    (case l2 => k_is)
    (case c2 => k_is)
    (case k2 => k_is)
    (case a3 => k_is)
    (case l3 => k_is)
    (case c3 => k_is)
    (case k3 => k_is)
    (case a4 => k_is)
    (case i4 => k_is)
    (case l4 => k_is)
    (case c4 => k_is)
    (case k4 => k_is)
    (case a5 => k_is)
    (case i5 => k_is)
    (case l5 => k_is)
    (case c5 => k_is)
    (case k5 => k_is)
    (case a6 => k_is)
    (case i6 => k_is)
    (case l6 => k_is)
    (case c6 => k_is)
    (case k6 => k_is)
    (case a7 => k_is)
    (case i7 => k_is)
    (case l7 => k_is)
    (case c7 => k_is)
    (case k7 => k_is)
    (case a8 => k_is)
    (case i8 => k_is)
    (case l8 => k_is)
    (case c8 => k_is)
    (case k8 => k_is)
    (case a9 => k_is)
    (case i9 => k_is)
    (case l9 => k_is)
    (case c9 => k_is)
    (case k9 => k_is)
    (case a10 => k_is)
    (case i10 => k_is)
    (case l10 => k_is)
    (case c10 => k_is)
    (case k10 => k_is)
    (case a11 => k_is)
    (case l11 => k_is)
    (case c11 => k_is)
    (case k11 => k_is)
    (case a12 => k_is)
    (case l12 => k_is)
    (case c12 => k_is)
    (case k12 => k_is)
    (case a13 => k_is)
    (case l13 => k_is)
    (case c13 => k_is)
    (case k13 => k_is)
    (case a14 => k_is)
    (case l14 => k_is)
    (case c14 => k_is)
    (case k14 => k_is)
    (case a15 => k_is)
    (case l15 => k_is)
    (case c15 => k_is)
    (case k15 => k_is)
    (case a16 => k_is)
    (case l16 => k_is)
    (case c16 => k_is)
    (case k16 => k_is)
    (case a17 => k_is)
    (case l17 => k_is)
    (case c17 => k_is)
    (case k17 => k_is)
    (case a18 => k_is)
    (case l18 => k_is)
    (case c18 => k_is)
    (case k18 => k_is)
    (case a19 => k_is)
    (case l19 => k_is)
    (case c19 => k_is)
    (case k19 => k_is)
    (case pg_Words => k_is)
    (case hd_Words => k_is)
    (case po_Words => k_is)
    (case sa_Words => k_is)
    (case mk_Words => k_is)
    (case kc_Words => k_is)
    (case n_Words_words => k_is)
    (case n_Words_place => k_is)
    (case pg_Whom => k_is)
    (case hd_Whom => k_is)
    (case po_Whom => k_is)
    (case sa_Whom => k_is)
    (case mk_Whom => k_is)
    (case kc_Whom => k_is)
    (case n_Whom_word => k_is)
    (case n_Whom_value => k_is)
    (case n_Whom_parts => k_is)
    (case z_all => k_is)
    (case z_int => k_is)
    (case z_isinstance => k_is)
    (case z_len => k_is)
    (case z_range => k_is)
    (case z_reversed => k_is)
    (case z_str => k_is)
    (case z_tuple => k_is)
    (case g_LETTERS => k_is)
    (case g_FIGURES => k_is)
    (case g_MOST_WORDS => k_is)
    (case g_PARTS => k_is)
    (case l_PARTS => first | kernel_rfl | (unfold L2.TupK; kernel_rfl))
