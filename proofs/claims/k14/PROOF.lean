import PyProof.Rows.All
import Wide.All
import OpenK.AllK
import Wide.FinOn
import Lean
import PyProof.EqAt
import PyProof.EqKinds
import PyProof.TupleCall
import KE.KIntText
import PySem.Challenge.RW_sliderings_k14_each_refusal_its_own
set_option Elab.async false
set_option linter.all false
set_option maxRecDepth 100000
namespace L2
open PySem PySem.Spec PyProof.Rows
abbrev Key := Sum Int Str
def keyIs : Key → Value → Bool
  | .inl k, v => Value.isInt k v
  | .inr x, v => Value.isStrOf x v
def keyH (w : World) : Key → Int
  | .inl k => hashInt k
  | .inr x => hashStr w x
theorem keyIs_shape : ∀ {k : Key} {v : Value}, keyIs k v = true → (∃ i t, k = Sum.inl i ∧ v = Value.int i t) ∨ (∃ x t, k = Sum.inr x ∧ v = Value.str x t)
  | .inl i, v, h => by
    obtain ⟨t, e⟩ := Value.isInt_shape (k := i) (v := v) h
    exact .inl ⟨i, t, rfl, e⟩
  | .inr x, v, h => by
    obtain ⟨t, e⟩ := Value.isStrOf_shape (x := x) (v := v) h
    exact .inr ⟨x, t, rfl, e⟩
theorem keyIs_int (i : Int) (t : Tok) : keyIs (.inl i) (.int i t) = true := by simp [keyIs, Value.isInt]
theorem keyIs_str (x : Str) (t : Tok) : keyIs (.inr x) (.str x t) = true := by simp [keyIs, Value.isStrOf]
theorem key_ll (a b : Int) : decide ((Sum.inl a : Key) = Sum.inl b) = (a == b) := by
  by_cases e : a = b
  · subst e; simp
  · have h : ¬ (Sum.inl a : Key) = Sum.inl b := fun q => e (Sum.inl.inj q)
    rw [decide_eq_false h]
    exact (beq_eq_false_iff_ne.mpr e).symm
theorem key_rr (a b : Str) : decide ((Sum.inr a : Key) = Sum.inr b) = decide (a = b) := by
  by_cases e : a = b
  · subst e; simp
  · have h : ¬ (Sum.inr a : Key) = Sum.inr b := fun q => e (Sum.inr.inj q)
    rw [decide_eq_false h, decide_eq_false e]
theorem key_lr (a : Int) (b : Str) : decide ((Sum.inl a : Key) = Sum.inr b) = false := decide_eq_false (fun q => nomatch q)
theorem key_rl (a : Str) (b : Int) : decide ((Sum.inr a : Key) = Sum.inl b) = false := decide_eq_false (fun q => nomatch q)
def mixKind (prog : Program) (w : World) : PySem.KeyKind prog w Key where
  is := keyIs
  hash := keyH w
  inj := fun v a b ha hb => by
    rcases keyIs_shape ha with ⟨i, t, rfl, rfl⟩ | ⟨x, t, rfl, rfl⟩
    · rcases keyIs_shape hb with ⟨j, u, rfl, e⟩ | ⟨y, u, rfl, e⟩
      · injection e with e1 _; rw [e1]
      · exact nomatch e
    · rcases keyIs_shape hb with ⟨j, u, rfl, e⟩ | ⟨y, u, rfl, e⟩
      · exact nomatch e
      · injection e with e1 _; rw [e1]
  byValue := fun k v h => by
    rcases keyIs_shape h with ⟨i, t, rfl, rfl⟩ | ⟨x, t, rfl, rfl⟩ <;> rfl
  pyHash := fun hv h => by
    rcases keyIs_shape hv with ⟨i, t, rfl, rfl⟩ | ⟨x, t, rfl, rfl⟩
    · exact wpAny_pyHash_int h
    · exact wpAny_pyHash_str h
  eqBool := fun hu hv h => by
    rcases keyIs_shape hu with ⟨i, t, rfl, rfl⟩ | ⟨x, t, rfl, rfl⟩
    · rcases keyIs_shape hv with ⟨j, u, rfl, rfl⟩ | ⟨y, u, rfl, rfl⟩
      · rw [key_ll] at h; exact wpAny_eqBool_int h
      · rw [key_lr] at h; exact SeqAt.EqAt.int_str i t y u _ _ _ _ h
    · rcases keyIs_shape hv with ⟨j, u, rfl, rfl⟩ | ⟨y, u, rfl, rfl⟩
      · rw [key_rl] at h; exact SeqAt.EqAt.str_int x t j u _ _ _ _ h
      · rw [key_rr] at h; exact wpAny_eqBool_str h
  «strs» := fun k x t v h => by
    rcases keyIs_shape h with ⟨i, u, rfl, e⟩ | ⟨y, u, rfl, e⟩
    · exact nomatch e
    · injection e with e1 _
      subst e1
      cases v <;> rfl
theorem mixKind_int (prog : Program) (w : World) (i : Int) (t : Tok) : (mixKind prog w).is (.inl i) (.int i t) = true := keyIs_int i t
theorem mixKind_str (prog : Program) (w : World) (x : Str) (t : Tok) : (mixKind prog w).is (.inr x) (.str x t) = true := keyIs_str x t
end L2
namespace L2
open PySem PySem.Spec PyProof.Rows
inductive V where
  | non | bl (b : Bool) | int (i : Int) | str (x : Str) | byt (b : Array UInt8) | flt (b : UInt64) | ref (a : Addr) | ty (n : String)
  deriving DecidableEq
def RelV : V → Value → Prop
  | .non, u => u = Value.none
  | .bl b, u => u = Value.bool b
  | .int i, u => ∃ t, u = Value.int i t
  | .str x, u => ∃ t, u = Value.str x t
  | .byt b, u => ∃ t, u = Value.bytes b t
  | .flt b, u => ∃ t, u = Value.float b t
  | .ref a, u => u = Value.ref a
  | .ty n, u => u = Value.type n
abbrev Vals : List V → List Value → Prop := Paired RelV
theorem Vals.length {xs : List V} {us : List Value} (r : Vals xs us) : xs.length = us.length := Paired.length r
theorem Vals.get : ∀ {xs : List V} {us : List Value} {i : Nat} {x : V}, Vals xs us → xs[i]? = some x → ∃ u, us[i]? = some u ∧ RelV x u
  | _, _, _, _, .nil, e => by simp at e
  | _, _, 0, _, .cons r _, e => by simp at e; subst e; exact ⟨_, rfl, r⟩
  | _, _, i + 1, x, .cons _ t, e => by
    obtain ⟨u, h1, h2⟩ := Vals.get (i := i) (x := x) t (by simpa using e)
    exact ⟨u, by simpa using h1, h2⟩
theorem Vals.set {x : V} {u : Value} (r : RelV x u) : ∀ {xs : List V} {us : List Value} (i : Nat), Vals xs us → Vals (xs.set i x) (us.set i u)
  | _, _, _, .nil => .nil
  | _, _, 0, .cons _ t => .cons r t
  | _, _, i + 1, .cons q t => .cons q (Vals.set r i t)
theorem Vals.append : ∀ {xs ys : List V} {us ws : List Value}, Vals xs us → Vals ys ws → Vals (xs ++ ys) (us ++ ws)
  | _, _, _, _, .nil, s => s
  | _, _, _, _, .cons r t, s => .cons r (Vals.append t s)
theorem Vals.take : ∀ {xs : List V} {us : List Value} (n : Nat), Vals xs us → Vals (xs.take n) (us.take n)
  | _, _, 0, _ => .nil
  | _, _, _ + 1, .nil => .nil
  | _, _, n + 1, .cons r t => .cons r (Vals.take n t)
theorem Vals.drop : ∀ {xs : List V} {us : List Value} (n : Nat), Vals xs us → Vals (xs.drop n) (us.drop n)
  | _, _, 0, r => r
  | _, _, _ + 1, .nil => .nil
  | _, _, n + 1, .cons _ t => Vals.drop n t
def RelO : Option V → Option Value → Prop
  | some v, some u => RelV v u
  | none, none => True
  | _, _ => False
def KV {κ : Type} : List (κ × V) → List (κ × Value) → Prop := Paired fun (p : κ × V) (q : κ × Value) => p.1 = q.1 ∧ RelV p.2 q.2
def kV : Key → V
  | .inl i => .int i
  | .inr x => .str x
inductive HO where
  | lst (xs : List V)
  | tup (xs : List V)
  | dK (kvs : List (Key × V)) | dT (kvs : List (List Key × V))
  | set (S : Int → Bool) (n : Nat)
  | ins (C dx : Addr) (fs : List (Str × V))
  | own (x : Addr)
  | xd (fs : List (Str × V))
  | met (f x : Addr)
  | rng (lo hi : Int)
  | frz (o : Obj) (u : HO)
  | tbl (ps : Array Value)
  | ext (φ : Heap → Prop)
abbrev Hp := Addr → Option HO
def upd (H : Hp) (a : Addr) (o : HO) : Hp := fun b => if b = a then some o else H b
theorem upd_same {H : Hp} {a : Addr} {o : HO} : upd H a o a = some o := by unfold upd; rw [if_pos rfl]
theorem upd_ne {H : Hp} {a b : Addr} {o : HO} (h : b ≠ a) : upd H a o b = H b := by unfold upd; rw [if_neg h]
theorem ne_of {H : Hp} {a b : Addr} {o u : HO} (h : H a = some o) (h' : H b = some u) (d : o ≠ u) : a ≠ b := by
  intro e; subst e; rw [h] at h'; exact d (Option.some.inj h')
theorem ne_of_none {H : Hp} {a b : Addr} {o : HO} (h : H a = some o) (h' : H b = none) : a ≠ b := by
  intro e; subst e; rw [h] at h'; cases h'
section
variable (P : Program) (w : World)
def ObjOk (H : Hp) (h : Heap) (a : Addr) : HO → Prop
  | .lst xs => xs.length ≤ sizeLine ∧ ∃ (its : List Value) (n : Nat), Vals xs its ∧ h.get? a = some { cls := .type "list", data := .seq its.toArray n }
  | .tup xs => xs.length ≤ sizeLine ∧ ∃ its : List Value, Vals xs its ∧ IsTup h a its.toArray
  | .dK kvs => kvs.length ≤ sizeLine ∧ (a == sysModules) = false ∧ ∃ vs, KV kvs vs ∧ h.DictOf (mixKind P w) a vs
  | .dT kvs => kvs.length ≤ sizeLine ∧ (a == sysModules) = false ∧ ∃ xs : List (List Key × Addr × Value),
      Paired (fun (p : List Key × V) (q : List Key × Addr × Value) => p.1 = q.1 ∧ H q.2.1 = some (.tup (p.1.map kV)) ∧ RelV p.2 q.2.2) kvs xs ∧
      ∃ o es ep, h.get? a = some o ∧ o.ExactDict ∧ o.data = .dict es ep ∧ es.toList = xs.map (entryOfKey (tupleKind (mixKind P w))) ∧ (xs.map (·.1)).Nodup
  | .set S n => h.SetOf (intKind P w) a S n
  | .ins C dx fs => H dx = some (.own a) ∧ fs.length ≤ 1000 ∧ dx ≠ a ∧ h.get? a = some (PySem.W.instObj C dx) ∧
      ∃ mA, h.Ns1 dx mA ∧ (∀ f, RelO (fs.lookup f) (mA f)) ∧ PySem.Within mA (fs.map (·.1))
  | .own _ => ∃ o, h.get? a = some o
  | .xd fs => ∃ mA, h.Ns1 a mA ∧ ∀ f, RelO (fs.lookup f) (mA f)
  | .rng lo hi => ∃ t u v, h.get? a = some { cls := .type "range", data := .fields #[.int lo t, .int hi u, .int 1 v] }
  | .frz o u => h.get? a = some o ∧ ObjOk H h a u
  | .tbl ps => h.get? a = some { cls := .none, data := .fields ps }
  | .met f x => h.get? a = some (PySem.W.methodObj (.ref f) (.ref x))
  | .ext φ => φ h ∧ (∃ o, h.get? a = some o) ∧ ∀ h1 h2 : Heap, φ h1 → (∀ o, h1.get? a = some o → h2.get? a = some o) → φ h2
def HOk (H : Hp) (h : Heap) : Prop := ∀ a o, H a = some o → ObjOk P w H h a o
end
section
variable {P : Program} {w : World} {H H' : Hp} {h h' : Heap} {a : Addr} {o : HO}
theorem ObjOk.lt (x : ObjOk P w H h a o) : a < h.objs.size := by
  cases o with
  | lst xs => obtain ⟨_, _, _, _, e⟩ := x; exact Heap.lt_size e
  | tup xs => obtain ⟨_, _, _, p⟩ := x; exact p.lt
  | dK kvs => obtain ⟨_, _, _, _, o, _, _, e, _⟩ := x; exact Heap.lt_size e
  | dT kvs => obtain ⟨_, _, _, _, o, _, _, e, _⟩ := x; exact Heap.lt_size e
  | set S n => obtain ⟨o, _, _, _, e, _⟩ := x; exact Heap.lt_size e
  | ins C dx fs => obtain ⟨_, _, _, e, _⟩ := x; exact Heap.lt_size e
  | own y => obtain ⟨_, e⟩ := x; exact Heap.lt_size e
  | xd fs => obtain ⟨_, ⟨_, _, _, e, _⟩, _⟩ := x; exact Heap.lt_size e
  | rng lo hi => obtain ⟨_, _, _, e⟩ := x; exact Heap.lt_size e
  | frz ob u => obtain ⟨e, _⟩ := x; exact Heap.lt_size e
  | tbl ps => exact Heap.lt_size (show h.get? a = some _ from x)
  | met f y => exact Heap.lt_size (show h.get? a = some _ from x)
  | ext φ => obtain ⟨_, ⟨_, e⟩, _⟩ := x; exact Heap.lt_size e
theorem Paired.mapP {α β : Type} {F G : α → β → Prop} : ∀ {l₁ : List α} {l₂ : List β}, Paired F l₁ l₂ → (∀ a b, F a b → G a b) → Paired G l₁ l₂
  | _, _, .nil, _ => .nil
  | _, _, .cons r t, f => .cons (f _ _ r) (Paired.mapP t f)
theorem ObjOk.stay (x : ObjOk P w H h a o) (k : ∀ b u, (b = a ∨ H b = some (.own a)) → h.get? b = some u → h'.get? b = some u)
    (ho : ∀ b, H b = some (.own a) → H' b = some (.own a)) (ht : ∀ b xs, H b = some (.tup xs) → H' b = some (.tup xs)) : ObjOk P w H' h' a o := by
  induction o with
  | lst xs => obtain ⟨z, its, n, r, e⟩ := x; exact ⟨z, its, n, r, k _ _ (.inl rfl) e⟩
  | tup xs => obtain ⟨z, its, r, ob, e, c⟩ := x; exact ⟨z, its, r, ob, k _ _ (.inl rfl) e, c⟩
  | dK kvs => obtain ⟨z, y, vs, r, ob, es, ep, e, c⟩ := x; exact ⟨z, y, vs, r, ob, es, ep, k _ _ (.inl rfl) e, c⟩
  | dT kvs =>
    obtain ⟨z, y, xs, r, ob, es, ep, e, c⟩ := x
    exact ⟨z, y, xs, Paired.mapP r fun p q z => ⟨z.1, ht _ _ z.2.1, z.2.2⟩, ob, es, ep, k _ _ (.inl rfl) e, c⟩
  | set S n => obtain ⟨ob, es, ep, t, e, c⟩ := x; exact ⟨ob, es, ep, t, k _ _ (.inl rfl) e, c⟩
  | ins C dx fs =>
    obtain ⟨d, z, ne, e, mA, ⟨od, es, ep, e2, c⟩, r⟩ := x
    exact ⟨ho _ d, z, ne, k _ _ (.inl rfl) e, mA, ⟨od, es, ep, k _ _ (.inr d) e2, c⟩, r⟩
  | own y => obtain ⟨ob, e⟩ := x; exact ⟨ob, k _ _ (.inl rfl) e⟩
  | xd fs => obtain ⟨mA, ⟨od, es, ep, e, c⟩, r⟩ := x; exact ⟨mA, ⟨od, es, ep, k _ _ (.inl rfl) e, c⟩, r⟩
  | rng lo hi => obtain ⟨t, u, v, e⟩ := x; exact ⟨t, u, v, k _ _ (.inl rfl) e⟩
  | frz ob u ih => obtain ⟨e, q⟩ := x; exact ⟨k _ _ (.inl rfl) e, ih q⟩
  | tbl ps =>
    have e : h.get? a = some { cls := .none, data := .fields ps } := x
    show h'.get? a = some { cls := .none, data := .fields ps }
    exact k a _ (.inl rfl) e
  | met f y =>
    have e : h.get? a = some (PySem.W.methodObj (.ref f) (.ref y)) := x
    show h'.get? a = some (PySem.W.methodObj (.ref f) (.ref y))
    exact k a _ (.inl rfl) e
  | ext φ => obtain ⟨p, ⟨o, e⟩, st⟩ := x; exact ⟨st _ _ p fun o q => k _ _ (.inl rfl) q, ⟨o, k _ _ (.inl rfl) e⟩, st⟩
theorem HOk.lt (x : HOk P w H h) (e : H a = some o) : a < h.objs.size := (x a o e).lt
theorem HOk.fresh (x : HOk P w H h) (e : h.objs.size ≤ a) : H a = none := by
  cases q : H a with
  | none => rfl
  | some u => exact absurd (Nat.lt_of_lt_of_le (x.lt q) e) (Nat.lt_irrefl _)
theorem HOk.kept (x : HOk P w H h) (k : ∀ b u, h.get? b = some u → h'.get? b = some u) : HOk P w H h' := fun a o e =>
  (x a o e).stay (fun b u _ q => k b u q) (fun _ q => q) fun _ _ q => q
theorem HOk.laid (x : HOk P w H h) (k : ∀ b u, h.get? b = some u → h'.get? b = some u) (hp : h.objs.size ≤ a) (new : ObjOk P w (upd H a o) h' a o) : HOk P w (upd H a o) h' := fun b u e => by
  have hn := x.fresh hp
  by_cases hb : b = a
  · subst hb; rw [upd_same] at e; cases e; exact new
  · rw [upd_ne hb] at e
    exact (x b u e).stay (fun c v _ q => k c v q) (fun c q => by rw [upd_ne (ne_of_none q hn)]; exact q) fun c xs q => by rw [upd_ne (ne_of_none q hn)]; exact q
end
def Rd (H : Hp) (a : Addr) (u : HO) : Prop := H a = some u ∨ ∃ o, H a = some (.frz o u)
theorem Rd.of {H : Hp} {a : Addr} {u : HO} (h : H a = some u) : Rd H a u := .inl h
theorem Rd.ok {P : Program} {w : World} {H : Hp} {h : Heap} {a : Addr} {u : HO} (r : Rd H a u) (x : HOk P w H h) : ObjOk P w H h a u := by
  rcases r with r | ⟨o, r⟩
  · exact x a u r
  · obtain ⟨_, q⟩ := x a _ r
    exact q
def Mut : Option HO → Prop
  | some (.lst _) => True
  | some (.dK _) => True
  | some (.dT _) => True
  | some (.set _ _) => True
  | some (.ins _ _ _) => True
  | some (.ext _) => True
  | _ => False
section
variable {P : Program} {w : World} {H : Hp} {h h' : Heap} {x e : Addr} {o' : HO}
theorem HOk.write (ok : HOk P w H h) (mu : Mut (H x)) (he : e = x ∨ H e = some (.own x)) (k : ∀ b u, b ≠ e → h.get? b = some u → h'.get? b = some u) (heo : ∃ u, h'.get? e = some u)
    (new : ObjOk P w (upd H x o') h' x o') : HOk P w (upd H x o') h' := fun b u q => by
  have nown : ∀ c y, H c = some (.own y) → c ≠ x := fun c y r z => by subst z; rw [r] at mu; exact mu
  have ntup : ∀ c xs, H c = some (.tup xs) → c ≠ x := fun c xs r z => by subst z; rw [r] at mu; exact mu
  by_cases hb : b = x
  · subst hb; rw [upd_same] at q; cases q; exact new
  · rw [upd_ne hb] at q
    by_cases hbe : b = e
    · have q' : H b = some (.own x) := by
        rcases he with z | z
        · exact absurd (hbe.trans z) hb
        · rw [hbe]; exact z
      rw [q] at q'; cases q'
      obtain ⟨v, hv⟩ := heo
      exact ⟨v, by rw [hbe]; exact hv⟩
    · refine (ok b u q).stay (fun c v hc r => k c v ?_ r) (fun c r => by rw [upd_ne (nown c b r)]; exact r) fun c xs r => by rw [upd_ne (ntup c xs r)]; exact r
      rcases hc with rfl | hc
      · exact hbe
      · rintro rfl
        rcases he with z | z
        · exact nown c b hc z
        · rw [hc] at z; cases z; exact hb rfl
end
structure Un (fs ex : List Addr) (H H' : Hp) (h h' : Heap) : Prop where
  keep : ∀ b o, h.get? b = some o → H b = none → b ∉ fs → b ∉ ex → h'.get? b = some o
  slot : ∀ b o, h.get? b = some o → H b = none → b ∈ fs → b ∉ ex → ∃ sl, h'.get? b = some { o with slots := sl }
  free : ∀ b o, h.get? b = some o → H b = none → b ∉ ex → H' b = none
  there : ∀ b o, h.get? b = some o → b ∉ ex → ∃ o', h'.get? b = some o'
  tups : ∀ b xs, H b = some (.tup xs) → H' b = some (.tup xs)
  frzs : ∀ b o u, H b = some (.frz o u) → H' b = some (.frz o u)
  tbls : ∀ b ps, H b = some (.tbl ps) → ∃ more, H' b = some (.tbl (ps ++ more))
section
variable {fs fs' ex ex' : List Addr} {H H1 H2 : Hp} {h h1 h2 h' : Heap} {a x e : Addr} {o : HO}
theorem Un.any (u : Un fs ex H H1 h h1) {b : Addr} {ob : Obj} (q : h.get? b = some ob) (n : H b = none) (hx : b ∉ ex) : ∃ sl, h1.get? b = some { ob with slots := sl } := by
  by_cases hb : b ∈ fs
  · exact u.slot b ob q n hb hx
  · exact ⟨ob.slots, u.keep b ob q n hb hx⟩
theorem Un.trans (a : Un fs ex H H1 h h1) (b : Un fs ex H1 H2 h1 h2) : Un fs ex H H2 h h2 where
  keep := fun c ob q n hc hx => b.keep c ob (a.keep c ob q n hc hx) (a.free c ob q n hx) hc hx
  slot := fun c ob q n hc hx => by
    obtain ⟨sl, e1⟩ := a.slot c ob q n hc hx
    obtain ⟨sl', e2⟩ := b.slot c _ e1 (a.free c ob q n hx) hc hx
    exact ⟨sl', e2⟩
  free := fun c ob q n hx => by
    obtain ⟨o', e1⟩ := a.there c ob q hx
    exact b.free c o' e1 (a.free c ob q n hx) hx
  there := fun c ob q hx => by
    obtain ⟨o', e1⟩ := a.there c ob q hx
    exact b.there c o' e1 hx
  tups := fun c xs q => b.tups c xs (a.tups c xs q)
  frzs := fun c ob xs q => b.frzs c ob xs (a.frzs c ob xs q)
  tbls := fun c ps q => by
    obtain ⟨m1, e1⟩ := a.tbls c ps q
    obtain ⟨m2, e2⟩ := b.tbls c _ e1
    exact ⟨m1 ++ m2, by rw [e2, Array.append_assoc]⟩
theorem Un.kept (k : ∀ b u, h.get? b = some u → h'.get? b = some u) : Un fs ex H H h h' :=
  ⟨fun b ob q _ _ _ => k b ob q, fun b ob q _ _ _ => ⟨ob.slots, k b ob q⟩, fun _ _ _ n _ => n, fun b ob q _ => ⟨ob, k b ob q⟩, fun _ _ q => q, fun _ _ _ q => q, fun _ ps q => ⟨#[], by rw [q]; simp⟩⟩
theorem Un.refl : Un fs ex H H h h := Un.kept fun _ _ q => q
theorem Un.laid (k : ∀ b u, h.get? b = some u → h'.get? b = some u) (hp : h.objs.size ≤ a) (hn : H a = none) : Un fs ex H (upd H a o) h h' where
  keep := fun b u q _ _ _ => k b u q
  slot := fun b u q _ _ _ => ⟨u.slots, k b u q⟩
  free := fun b u q n _ => by rw [upd_ne (Nat.ne_of_lt (Nat.lt_of_lt_of_le (Heap.lt_size q) hp))]; exact n
  there := fun b u q _ => ⟨u, k b u q⟩
  tups := fun b xs q => by rw [upd_ne (ne_of_none q hn)]; exact q
  frzs := fun b u xs q => by rw [upd_ne (ne_of_none q hn)]; exact q
  tbls := fun b ps q => ⟨#[], by rw [upd_ne (ne_of_none q hn), q]; simp⟩
theorem Un.write (mu : Mut (H x)) (he : e = x ∨ H e = some (.own x)) (k : ∀ b u, b ≠ e → h.get? b = some u → h'.get? b = some u) (heo : ∃ u, h'.get? e = some u) : Un fs ex H (upd H x o) h h' := by
  have hx : ∀ b, H b = none → b ≠ x := fun b n z => by subst z; rw [n] at mu; exact mu
  have hb : ∀ b, H b = none → b ≠ e := fun b n z => by
    subst z
    rcases he with r | r
    · exact hx b n r
    · rw [n] at r; cases r
  have hm : ∀ b u, H b = some u → ¬ Mut (some u) → b ≠ x := fun b u q nm z => by subst z; rw [q] at mu; exact nm mu
  refine ⟨fun b u q n _ _ => k b u (hb b n) q, fun b u q n _ _ => ⟨u.slots, k b u (hb b n) q⟩, fun b u q n _ => by rw [upd_ne (hx b n)]; exact n, fun b u q _ => ?_,
    fun b xs q => by rw [upd_ne (hm b _ q fun z => z)]; exact q, fun b u xs q => by rw [upd_ne (hm b _ q fun z => z)]; exact q, fun b ps q => ⟨#[], by rw [upd_ne (hm b _ q fun z => z), q]; simp⟩⟩
  by_cases hbe : b = e
  · subst hbe; exact heo
  · exact ⟨u, k b u hbe q⟩
theorem Un.mono (u : Un fs ex H H1 h h1) (hs : ∀ b ∈ fs, b ∈ fs') (hx : ∀ b ∈ ex, b ∈ ex') : Un fs' ex' H H1 h h1 :=
  ⟨fun b ob q n hb he => u.keep b ob q n (fun z => hb (hs b z)) fun z => he (hx b z), fun _ _ q n _ he => u.any q n fun z => he (hx _ z), fun b ob q n he => u.free b ob q n fun z => he (hx b z), fun b ob q he => u.there b ob q fun z => he (hx b z), u.tups, u.frzs, u.tbls⟩
end
def trk (h : Heap) (H : Hp) : List Addr := (List.range h.objs.size).filter fun a => (H a).isSome
def hidT (h : Heap) (H : Hp) : Heap := PySem.W.hideAll h (trk h H)
theorem hidT_size (h : Heap) (H : Hp) : (hidT h H).objs.size = h.objs.size := PySem.W.hideAll_size _ _
theorem hidT_get {h : Heap} {H : Hp} {b : Addr} {o : Obj} (e : h.get? b = some o) (n : H b = none) : (hidT h H).get? b = some o :=
  PySem.W.hideAll_get _ e fun hm => by
    have q : (H b).isSome = true := (List.mem_filter.mp hm).2
    rw [n] at q; simp at q
theorem of_hidT {h : Heap} {H : Hp} {b : Addr} {o : Obj} (e : (hidT h H).get? b = some o) : h.get? b = some o ∧ H b = none := by
  have e' : h.get? b = some o := PySem.W.of_hideAll (trk h H) e
  refine ⟨e', ?_⟩
  cases q : H b with
  | none => rfl
  | some x =>
    have hm : b ∈ trk h H := List.mem_filter.mpr ⟨List.mem_range.mpr (Heap.lt_size e'), by simp [q]⟩
    have z : (hidT h H).get? b = none := PySem.W.hideAll_none (trk h H) hm
    rw [z] at e; cases e
def allNews (g h : Heap) (L : Addr) : List (Addr × Obj) := (List.range h.objs.size).filterMap fun a => if a = L ∨ (g.get? a).isSome = true then none else (h.get? a).map fun o => (a, o)
def rest (g h : Heap) (L d : Addr) : List (Addr × Obj) := (allNews g h L).filter fun p => decide (p.1 ≠ d)
end L2
namespace L2
open PySem PySem.Spec PyProof.Rows
structure Mod (K : PySem.W.Frag) (mg : Str → Option Value) (base : Heap) : Prop where
  kin : K.In base
  glob : base.Ns mainGlobals mg
  blt : ∃ mb, base.Ns builtinsNs mb ∧ ∀ x : Str, x ≠ "__name__" → mb x = bootBuiltins x
  nolimit : base.NoLimit
structure Cx where
  prog : Program
  w : World
  K : PySem.W.Frag
  mg : Str → Option Value
  base : Heap
  A : Around
  N : List Str
  s₀ : Shared
  H₀ : Hp
  env : Env
  outer : List Env
  stack : List Env
  ex : List Addr
  fn : Str → Bool
  calm : Bool
  pn : List (Addr × Obj)
  xe : Value → Shared → Prop
def frs (l : List Env) : List Addr := l.filterMap (·.frame)
abbrev Cx.fs (X : Cx) : List Addr := frs X.outer
def Vis (sc : Scope) (x : Str) : Prop := sc.names.lookup x = some .local ∨ sc.names.lookup x = some .cell ∨ sc.names.lookup x = some .free
def Loc (sc : Scope) (x : Str) : Prop := sc.names.lookup x = some .local ∨ sc.names.lookup x = some .cell
def Look (env : Env) (h : Heap) (m : Str → Option Value) (x : Str) (u : Value) : Prop :=
  (env.kindOf x = some .local ∧ m x = some u) ∨ ((env.kindOf x = some .cell ∨ env.kindOf x = some .free) ∧ ∃ c, env.cells.lookup x = some c ∧ h.IsCell c (some u))
structure Cx.Ok (X : Cx) : Prop where
  mod : Mod X.K X.mg X.base
  kind : X.env.scope.kind = .function
  glob : X.env.globals = mainGlobals
  blt : X.env.builtins = builtinsNs
  above : X.s₀.heap.objs.size ≤ X.env.locals
  inj : ∀ x y c, X.env.cells.lookup x = some c → X.env.cells.lookup y = some c → x = y
  has : ∀ x, (X.env.kindOf x = some .cell ∨ X.env.kindOf x = some .free) → ∃ c, X.env.cells.lookup x = some c
  cab : ∀ x c, X.fn x = true → X.env.cells.lookup x = some c → X.s₀.heap.objs.size ≤ c
  hd : X.calm = true → X.A.handled = none
  frames : X.A.frames = some X.stack
  stk : X.stack = X.outer ∨ (X.stack = X.env :: X.outer ∧ X.env.frame = some X.env.locals)
  exf : ∀ b ∈ X.ex, b ≠ X.env.locals ∧ ∀ x c, X.env.cells.lookup x = some c → c ≠ b
  bs : ∀ b o, X.base.get? b = some o → X.s₀.heap.get? b = some o ∧ X.H₀ b = none
  bsz : X.base.objs.size ≤ X.s₀.heap.objs.size
  noex : ∀ b o, X.base.get? b = some o → b ∉ X.ex
  exfs : ∀ b ∈ X.ex, b ∉ X.fs
  funs : X.s₀.heap.FunFrames X.base X.outer
  frf : ∀ b ∈ X.fs, X.H₀ b = none
structure Inv (X : Cx) (pins : List (Addr × Obj)) (σ : List (Option V)) (H : Hp) (s : Shared) : Prop where
  ok : X.Ok
  os : s.os = X.s₀.os
  bare : AllBare s.gens
  base : Un X.fs X.ex X.H₀ H X.s₀.heap s.heap
  loc : ∃ m, s.heap.Ns X.env.locals m ∧ ∀ (i : Nat) (x : Str) (v : V), X.N[i]? = some x → σ[i]? = some (some v) → Vis X.env.scope x → ∃ u, RelV v u ∧ Look X.env s.heap m x u
  cell : ∀ x c, X.env.cells.lookup x = some c → ∃ v, s.heap.IsCell c v
  free : H X.env.locals = none
  freeC : ∀ x c, X.env.cells.lookup x = some c → H c = none
  pin : ∀ p ∈ X.pn ++ pins, s.heap.get? p.1 = some p.2 ∧ H p.1 = none ∧ p.1 ≠ X.env.locals ∧ p.1 ∉ X.fs ∧ ∀ v, p.2.data ≠ .cell v
  hok : HOk X.prog X.w H s.heap
  len : σ.length = X.N.length
section
variable {X : Cx} {pins : List (Addr × Obj)} {σ : List (Option V)} {H H' : Hp} {s : Shared} {h' : Heap}
theorem Cx.Ok.nofr (ok : X.Ok) {b : Addr} {o : Obj} (e : X.base.get? b = some o) : b ∉ X.fs := fun hb => by
  have := (ok.funs.mem hb).1
  rw [e] at this; cases this
theorem Inv.bs (I : Inv X pins σ H s) : ∀ b o, X.base.get? b = some o → s.heap.get? b = some o ∧ H b = none := fun b o e =>
  ⟨I.base.keep b o (I.ok.bs b o e).1 (I.ok.bs b o e).2 (I.ok.nofr e) (I.ok.noex b o e), I.base.free b o (I.ok.bs b o e).1 (I.ok.bs b o e).2 (I.ok.noex b o e)⟩
theorem Inv.bk (I : Inv X pins σ H s) : ∀ b o, X.base.get? b = some o → s.heap.get? b = some o := fun b o e => (I.bs b o e).1
theorem Inv.mod (I : Inv X pins σ H s) : Mod X.K X.mg X.base := I.ok.mod
theorem Inv.kIn (I : Inv X pins σ H s) : X.K.In s.heap := I.ok.mod.kin.keeps I.bk
theorem Inv.nolimit (I : Inv X pins σ H s) : s.heap.NoLimit := I.ok.mod.nolimit.keeps I.bk
theorem Inv.fr (I : Inv X pins σ H s) : ∃ m, Fr X.base X.env.locals s.heap m :=
  let ⟨m, hn, _⟩ := I.loc
  ⟨m, hn, I.bk, Nat.le_trans I.ok.bsz I.ok.above⟩
theorem Inv.lt (I : Inv X pins σ H s) : X.env.locals < s.heap.objs.size := let ⟨_, hn, _⟩ := I.loc; hn.lt
theorem Inv.sz (I : Inv X pins σ H s) : X.s₀.heap.objs.size ≤ s.heap.objs.size := Nat.le_trans I.ok.above (Nat.le_of_lt I.lt)
theorem Inv.nofs (I : Inv X pins σ H s) {a : Addr} (h : s.heap.objs.size ≤ a) : a ∉ X.fs := fun hb => by
  obtain ⟨_, o, ho, _⟩ := I.ok.funs.mem hb
  exact absurd (Nat.lt_of_lt_of_le (Heap.lt_size ho) (Nat.le_trans I.sz h)) (Nat.lt_irrefl _)
theorem Inv.cne (I : Inv X pins σ H s) : ∀ x c, X.env.cells.lookup x = some c → c ≠ X.env.locals := fun x c e z => by
  obtain ⟨v, o, ho, hd⟩ := I.cell x c e
  obtain ⟨m, ⟨o', es, ep, ho', hd', _⟩, _⟩ := I.loc
  rw [z, ho'] at ho; cases ho; rw [hd'] at hd; cases hd
theorem Inv.funs (I : Inv X pins σ H s) : s.heap.FunFrames X.base X.outer := by
  have all : ∀ (l : List Env), (∀ b ∈ frs l, b ∈ X.fs) → X.s₀.heap.FunFrames X.base l → s.heap.FunFrames X.base l := by
    intro l
    induction l with
    | nil => intro _ _; trivial
    | cons env r ih =>
      intro hs hl
      obtain ⟨hk, ⟨L, o, hf, hn, ho, hd⟩, hr⟩ := hl
      have hL : L ∈ X.fs := hs L (by unfold frs; rw [List.filterMap_cons, hf]; exact List.mem_cons_self)
      obtain ⟨sl, e⟩ := I.base.slot L o ho (I.ok.frf L hL) hL fun z => I.ok.exfs L z hL
      exact ⟨hk, ⟨L, _, hf, hn, e, hd⟩, ih (fun b hb => hs b (by unfold frs; rw [List.filterMap_cons, hf]; exact List.mem_cons_of_mem _ hb)) hr⟩
  exact all X.outer (fun _ hb => hb) I.ok.funs
theorem Inv.stack (I : Inv X pins σ H s) : s.heap.FunFrames X.base X.stack := by
  rcases I.ok.stk with e | ⟨e, hf⟩
  · rw [e]; exact I.funs
  · rw [e]
    obtain ⟨m, hn, _⟩ := I.loc
    refine .cons (by rw [I.ok.kind]; decide) hf hn ?_ I.funs
    exact Heap.get?_none_of_le (Nat.le_trans I.ok.bsz I.ok.above)
theorem Inv.stkSub (I : Inv X pins σ H s) : ∀ b ∈ frs X.stack, b ∈ X.env.locals :: X.fs := fun b hb => by
  rcases I.ok.stk with e | ⟨e, hf⟩
  · rw [e] at hb; exact List.mem_cons_of_mem _ hb
  · rw [e] at hb
    unfold frs at hb
    rw [List.filterMap_cons, hf] at hb
    exact hb
theorem Inv.stkFree (I : Inv X pins σ H s) : ∀ b ∈ frs X.stack, H b = none := fun b hb => by
  rcases List.mem_cons.mp (I.stkSub b hb) with e | hb
  · rw [e]; exact I.free
  · obtain ⟨_, o, ho, _⟩ := I.ok.funs.mem hb
    exact I.base.free b o ho (I.ok.frf b hb) fun z => I.ok.exfs b z hb
theorem Inv.step {g' : Array GenState} {t' : Nat} {d' : Drawn} {ch : List Addr} (I : Inv X pins σ H s)
    (hch : ∀ b ∈ ch, (b ∈ X.ex ∨ X.s₀.heap.objs.size ≤ b) ∧ b ≠ X.env.locals ∧ (∀ x c, X.env.cells.lookup x = some c → c ≠ b) ∧ ∀ p ∈ X.pn ++ pins, p.1 ≠ b)
    (keep : ∀ b o, b ≠ X.env.locals → b ∉ X.fs → b ∉ ch → s.heap.get? b = some o → H b = none → h'.get? b = some o)
    (slot : ∀ b o, b ≠ X.env.locals → b ∈ X.fs → b ∉ ch → s.heap.get? b = some o → H b = none → ∃ sl, h'.get? b = some { o with slots := sl }) (free : ∀ b o, b ∉ ch → s.heap.get? b = some o → H b = none → H' b = none)
    (there : ∀ b o, b ∉ ch → s.heap.get? b = some o → ∃ o', h'.get? b = some o')
    (tups : ∀ b xs, H b = some (.tup xs) → H' b = some (.tup xs)) (frzs : ∀ b o u, H b = some (.frz o u) → H' b = some (.frz o u)) (tbls : ∀ b ps, H b = some (.tbl ps) → ∃ more, H' b = some (.tbl (ps ++ more)))
    (ns : ∀ m, s.heap.Ns X.env.locals m → h'.Ns X.env.locals m) (hok : HOk X.prog X.w H' h') (hg : AllBare g') :
    Inv X pins σ H' { s with heap := h', gens := g', drawn := d', toks := t' } := by
  have neL : ∀ b o, X.s₀.heap.get? b = some o → b ≠ X.env.locals := fun b o e => Nat.ne_of_lt (Nat.lt_of_lt_of_le (Heap.lt_size e) I.ok.above)
  have neC : ∀ b o, X.s₀.heap.get? b = some o → b ∉ X.ex → b ∉ ch := fun b o e hx hb => by
    rcases (hch b hb).1 with z | z
    · exact hx z
    · exact absurd (Nat.lt_of_lt_of_le (Heap.lt_size e) z) (Nat.lt_irrefl _)
  have cellK : ∀ x c, X.env.cells.lookup x = some c → ∀ v, s.heap.IsCell c v → h'.IsCell c v := fun x c e v ⟨o, ho, hd⟩ => by
    have nch : c ∉ ch := fun z => (hch c z).2.2.1 x c e rfl
    by_cases hc : c ∈ X.fs
    · obtain ⟨sl, q⟩ := slot c o (I.cne x c e) hc nch ho (I.freeC x c e)
      exact ⟨_, q, hd⟩
    · exact ⟨o, keep c o (I.cne x c e) hc nch ho (I.freeC x c e), hd⟩
  refine ⟨I.ok, I.os, hg, ⟨fun b o e n hb hx => ?_, fun b o e n hb hx => ?_, fun b o e n hx => ?_, fun b o e hx => ?_, fun b xs e => tups b xs (I.base.tups b xs e), fun b o xs e => frzs b o xs (I.base.frzs b o xs e), fun b ps e => ?_⟩, ?_, fun x c e => ?_, ?_, fun x c e => ?_, fun p hp => ?_, hok, I.len⟩
  · exact keep b o (neL b o e) hb (neC b o e hx) (I.base.keep b o e n hb hx) (I.base.free b o e n hx)
  · obtain ⟨sl, e1⟩ := I.base.slot b o e n hb hx
    obtain ⟨sl', e2⟩ := slot b _ (neL b o e) hb (neC b o e hx) e1 (I.base.free b o e n hx)
    exact ⟨sl', e2⟩
  · obtain ⟨o', e1⟩ := I.base.there b o e hx
    exact free b o' (neC b o e hx) e1 (I.base.free b o e n hx)
  · obtain ⟨o', e1⟩ := I.base.there b o e hx
    exact there b o' (neC b o e hx) e1
  · obtain ⟨m1, e1⟩ := I.base.tbls b ps e
    obtain ⟨m2, e2⟩ := tbls b _ e1
    exact ⟨m1 ++ m2, by rw [e2, Array.append_assoc]⟩
  · obtain ⟨m, hn, hl⟩ := I.loc
    refine ⟨m, ns m hn, fun i x v e1 e2 e3 => ?_⟩
    obtain ⟨u, r, l⟩ := hl i x v e1 e2 e3
    refine ⟨u, r, ?_⟩
    rcases l with l | ⟨k, c, e, z⟩
    · exact .inl l
    · exact .inr ⟨k, c, e, cellK x c e _ z⟩
  · obtain ⟨v, z⟩ := I.cell x c e
    exact ⟨v, cellK x c e v z⟩
  · obtain ⟨m, ⟨o, _, _, ho, _⟩, _⟩ := I.loc
    exact free _ o (fun z => (hch _ z).2.1 rfl) ho I.free
  · obtain ⟨v, o, ho, hd⟩ := I.cell x c e
    exact free c o (fun z => (hch c z).2.2.1 x c e rfl) ho (I.freeC x c e)
  · obtain ⟨e, n, ne, nf, d⟩ := I.pin p hp
    have nch : p.1 ∉ ch := fun z => (hch p.1 z).2.2.2 p hp rfl
    exact ⟨keep p.1 p.2 ne nf nch e n, free p.1 p.2 nch e n, ne, nf, d⟩
theorem Inv.un {t' : Nat} (I : Inv X pins σ H s) (u : Un X.fs [] H H' s.heap h') (hok : HOk X.prog X.w H' h') : Inv X pins σ H' { s with heap := h', toks := t' } := by
  obtain ⟨m, ⟨o, es, ep, ho, r⟩, _⟩ := id I.loc
  obtain ⟨sl, hL⟩ := u.any ho I.free (by simp)
  exact I.step (g' := s.gens) (d' := s.drawn) (ch := []) (fun _ z => nomatch z) (fun b o _ hb _ e n => u.keep b o e n hb (by simp)) (fun b o _ hb _ e n => u.slot b o e n hb (by simp)) (fun b o _ e n => u.free b o e n (by simp)) (fun b o _ e => u.there b o e (by simp)) u.tups u.frzs u.tbls (fun m' hm => by
    obtain ⟨o', es', ep', ho', r'⟩ := hm
    rw [ho] at ho'; cases ho'
    exact ⟨_, es', ep', hL, r'⟩) hok I.bare
theorem Inv.call {g' : Array GenState} {t' : Nat} {d' : Drawn} {ch : List Addr} (I : Inv X pins σ H s) (u : Un (frs X.stack) ch H H' s.heap h') (hok : HOk X.prog X.w H' h') (hg : AllBare g')
    (hch : ∀ b ∈ ch, (b ∈ X.ex ∨ X.s₀.heap.objs.size ≤ b) ∧ b ≠ X.env.locals ∧ (∀ x c, X.env.cells.lookup x = some c → c ≠ b) ∧ ∀ p ∈ X.pn ++ pins, p.1 ≠ b) :
    Inv X pins σ H' { s with heap := h', gens := g', drawn := d', toks := t' } := by
  obtain ⟨m, ⟨o, es, ep, ho, r⟩, _⟩ := id I.loc
  obtain ⟨sl, hL⟩ := u.any ho I.free fun z => (hch _ z).2.1 rfl
  exact I.step (ch := ch) hch (fun b o hL hb hc e n => u.keep b o e n (fun z => (List.mem_cons.mp (I.stkSub b z)).elim hL hb) hc) (fun b o _ _ hc e n => u.any e n hc) (fun b o hc e n => u.free b o e n hc) (fun b o hc e => u.there b o e hc) u.tups u.frzs u.tbls (fun m' hm => by
    obtain ⟨o', es', ep', ho', r'⟩ := hm
    rw [ho] at ho'; cases ho'
    exact ⟨_, es', ep', hL, r'⟩) hok hg
theorem Inv.turned {t' : Nat} {it : Addr} (I : Inv X pins σ H s) (k : ∀ b o, b ≠ it → s.heap.get? b = some o → h'.get? b = some o) (hn : H it = none) (hL : it ≠ X.env.locals)
    (h1 : it ∈ X.ex ∨ X.s₀.heap.objs.size ≤ it) (h2 : ∀ x c, X.env.cells.lookup x = some c → c ≠ it) (h3 : ∀ p ∈ X.pn ++ pins, p.1 ≠ it) : Inv X pins σ H { s with heap := h', toks := t' } := by
  have nit : ∀ b u, H b = some u → b ≠ it := fun b u e z => by rw [z, hn] at e; cases e
  refine I.step (g' := s.gens) (d' := s.drawn) (ch := [it]) (fun b hb => ?_) (fun b o _ _ hc e _ => k b o (fun z => hc (by simp [z])) e) (fun b o _ _ hc e _ => ⟨o.slots, k b o (fun z => hc (by simp [z])) e⟩) (fun _ _ _ _ n => n)
    (fun b o hc e => ⟨o, k b o (fun z => hc (by simp [z])) e⟩) (fun _ _ e => e) (fun _ _ _ e => e) (fun b ps e => ⟨#[], by rw [e]; simp⟩) (fun m hm => ?_) (fun b u e => ?_) I.bare
  · have e : b = it := by simpa using hb
    subst e
    exact ⟨h1, hL, h2, h3⟩
  · obtain ⟨o, es, ep, ho, r⟩ := hm
    exact ⟨o, es, ep, k _ o (Ne.symm hL) ho, r⟩
  · refine (I.hok b u e).stay (fun c v hc q => k c v ?_ q) (fun _ q => q) fun _ _ q => q
    rcases hc with z | z
    · rw [z]; exact nit b u e
    · exact nit c _ z
theorem Inv.tok (I : Inv X pins σ H s) (t : Nat) : Inv X pins σ H { s with toks := t } := I.un (h' := s.heap) (t' := t) Un.refl I.hok
theorem Inv.kept {t' : Nat} (I : Inv X pins σ H s) (k : ∀ b u, s.heap.get? b = some u → h'.get? b = some u) : Inv X pins σ H { s with heap := h', toks := t' } := I.un (Un.kept k) (I.hok.kept k)
theorem Inv.laid {a : Addr} {o : HO} {t' : Nat} (I : Inv X pins σ H s) (k : ∀ b u, s.heap.get? b = some u → h'.get? b = some u) (hp : s.heap.objs.size ≤ a) (new : ObjOk X.prog X.w (upd H a o) h' a o) :
    Inv X pins σ (upd H a o) { s with heap := h', toks := t' } := I.un (Un.laid k hp (I.hok.fresh hp)) (I.hok.laid k hp new)
theorem Inv.write {x e : Addr} {o : HO} {t' : Nat} (I : Inv X pins σ H s) (mu : Mut (H x)) (he : e = x ∨ H e = some (.own x)) (k : ∀ b u, b ≠ e → s.heap.get? b = some u → h'.get? b = some u) (heo : ∃ u, h'.get? e = some u)
    (new : ObjOk X.prog X.w (upd H x o) h' x o) : Inv X pins σ (upd H x o) { s with heap := h', toks := t' } := I.un (Un.write mu he k heo) (I.hok.write mu he k heo new)
theorem Inv.weak {σ' : List (Option V)} (I : Inv X pins σ H s) (hl : σ'.length = σ.length) (w : ∀ (i : Nat) v, σ'[i]? = some (some v) → σ[i]? = some (some v)) : Inv X pins σ' H s :=
  ⟨I.ok, I.os, I.bare, I.base, let ⟨m, hn, hl'⟩ := I.loc; ⟨m, hn, fun i x v e1 e2 e3 => hl' i x v e1 (w i v e2) e3⟩, I.cell, I.free, I.freeC, I.pin, I.hok, hl.trans I.len⟩
theorem Inv.pins_of {pins' : List (Addr × Obj)} (I : Inv X pins σ H s) (h : ∀ p ∈ pins', s.heap.get? p.1 = some p.2 ∧ H p.1 = none ∧ p.1 ≠ X.env.locals ∧ p.1 ∉ X.fs ∧ ∀ v, p.2.data ≠ .cell v) : Inv X pins' σ H s :=
  ⟨I.ok, I.os, I.bare, I.base, I.loc, I.cell, I.free, I.freeC, fun p hp => (List.mem_append.mp hp).elim (fun z => I.pin p (List.mem_append_left _ z)) (h p), I.hok, I.len⟩
theorem nodup_ix {N : List Str} (hN : N.Nodup) {i j : Nat} {x : Str} (a : N[i]? = some x) (b : N[j]? = some x) : i = j := by
  obtain ⟨h1, e1⟩ := List.getElem?_eq_some_iff.mp a
  obtain ⟨h2, e2⟩ := List.getElem?_eq_some_iff.mp b
  exact (List.getElem_inj hN).mp (e1.trans e2.symm)
theorem store_ok2 {M : Model} {A : Around} {E : Value → Shared → Prop} {i : Nat} {x : Str} {v : V} {u : Value} {Q : Unit → Shared → Prop} (I : Inv X pins σ H s) (hN : X.N.Nodup) (hi : X.N[i]? = some x) (hx : Loc X.env.scope x) (r : RelV v u)
    (h : ∀ s', Inv X pins (σ.set i (some v)) H s' → (∃ a, Heap.SameBut a s.heap s'.heap ∧ (a = X.env.locals ∨ X.env.cells.lookup x = some a)) → Q () s') (hf : X.fn x = true ∨ X.env.scope.names.lookup x = some .local := by first | exact .inl rfl | exact .inr rfl | assumption) : wpAny M A (storeName X.env x u) Q E s := by
  obtain ⟨m, hn, hl⟩ := id I.loc
  have hcls : (X.env.scope.kind == .class || (X.env.scope.kind == .module && X.env.locals != X.env.globals)) = false := by rw [I.ok.kind]; rfl
  have hiσ : i < σ.length := by rw [I.len]; exact (List.getElem?_eq_some_iff.mp hi).1
  have cne := I.cne
  have tracked : ∀ {a : Addr} {h' : Heap}, (∃ o, s.heap.get? a = some o ∧ H a = none) → Heap.SameBut a s.heap h' → HOk X.prog X.w H h' := fun {a h'} ha hs b ob e => by
    obtain ⟨_, _, hfree⟩ := ha
    refine (I.hok b ob e).stay (fun c w' hc q => (hs.2 c ?_).trans q) (fun _ q => q) fun _ _ q => q
    rintro rfl
    rcases hc with rfl | hc
    · rw [hfree] at e; cases e
    · rw [hfree] at hc; cases hc
  rcases hx with hk | hk
  · refine wpAny_storeName_local hk hn (fun h' hn' hs => ?_) hcls
    obtain ⟨oL, _, _, hoL, _⟩ := id hn
    refine h _ ⟨I.ok, I.os, I.bare, ⟨fun b o e n hb hx => ?_, fun b o e n hb hx => ?_, I.base.free, fun b o e hx => ?_, I.base.tups, I.base.frzs, I.base.tbls⟩, ⟨_, hn', fun j y v' e1 e2 e3 => ?_⟩, fun y c e => ?_, I.free, I.freeC, fun p hp => ?_, tracked ⟨oL, hoL, I.free⟩ hs, by simpa using I.len⟩ ⟨_, hs, .inl rfl⟩
    · exact (hs.2 b (Nat.ne_of_lt (Nat.lt_of_lt_of_le (Heap.lt_size e) I.ok.above))).trans (I.base.keep b o e n hb hx)
    · obtain ⟨sl, e1⟩ := I.base.slot b o e n hb hx
      exact ⟨sl, (hs.2 b (Nat.ne_of_lt (Nat.lt_of_lt_of_le (Heap.lt_size e) I.ok.above))).trans e1⟩
    · obtain ⟨o', e1⟩ := I.base.there b o e hx
      exact ⟨o', (hs.2 b (Nat.ne_of_lt (Nat.lt_of_lt_of_le (Heap.lt_size e) I.ok.above))).trans e1⟩
    · by_cases hj : j = i
      · subst hj
        rw [hi] at e1; cases e1
        rw [List.getElem?_set_self hiσ] at e2
        cases e2
        exact ⟨u, r, .inl ⟨hk, by simp⟩⟩
      · rw [List.getElem?_set_ne (Ne.symm hj)] at e2
        obtain ⟨u', r', q⟩ := hl j y v' e1 e2 e3
        refine ⟨u', r', ?_⟩
        rcases q with ⟨k, e⟩ | ⟨k, c, e, z⟩
        · refine .inl ⟨k, ?_⟩
          have : y ≠ x := fun e => hj (nodup_ix hN e1 (e ▸ hi))
          simp [this, e]
        · exact .inr ⟨k, c, e, z.sameBut hs (cne y c e)⟩
    · obtain ⟨w', z⟩ := I.cell y c e
      exact ⟨w', z.sameBut hs (cne y c e)⟩
    · obtain ⟨e, n, ne, nf, d⟩ := I.pin p hp
      exact ⟨(hs.2 p.1 ne).trans e, n, ne, nf, d⟩
  · have hfn : X.fn x = true := by
      rcases hf with z | z
      · exact z
      · rw [z] at hk; cases hk
    obtain ⟨c, hc⟩ := I.ok.has x (.inl hk)
    obtain ⟨w', z⟩ := I.cell x c hc
    refine wpAny_storeName_cell I.ok.kind hk hc z (fun h' hc' hs => ?_)
    obtain ⟨oc, hoc, hocd⟩ := id z
    refine h { s with heap := h' } ⟨I.ok, I.os, I.bare, ⟨fun b o e n hb hx => ?_, fun b o e n hb hx => ?_, I.base.free, fun b o e hx => ?_, I.base.tups, I.base.frzs, I.base.tbls⟩, ⟨m, hn.sameBut hs (Ne.symm (cne x c hc)), fun j y v' e1 e2 e3 => ?_⟩, fun y c' e => ?_, I.free, I.freeC, fun p hp => ?_, tracked ⟨oc, hoc, I.freeC x c hc⟩ hs, by simpa using I.len⟩ ⟨c, hs, .inr hc⟩
    · exact (hs.2 b (Nat.ne_of_lt (Nat.lt_of_lt_of_le (Heap.lt_size e) (I.ok.cab x c hfn hc)))).trans (I.base.keep b o e n hb hx)
    · obtain ⟨sl, e1⟩ := I.base.slot b o e n hb hx
      exact ⟨sl, (hs.2 b (Nat.ne_of_lt (Nat.lt_of_lt_of_le (Heap.lt_size e) (I.ok.cab x c hfn hc)))).trans e1⟩
    · obtain ⟨o', e1⟩ := I.base.there b o e hx
      exact ⟨o', (hs.2 b (Nat.ne_of_lt (Nat.lt_of_lt_of_le (Heap.lt_size e) (I.ok.cab x c hfn hc)))).trans e1⟩
    · by_cases hj : j = i
      · subst hj
        rw [hi] at e1; cases e1
        rw [List.getElem?_set_self hiσ] at e2
        cases e2
        exact ⟨u, r, .inr ⟨.inl hk, c, hc, hc'⟩⟩
      · rw [List.getElem?_set_ne (Ne.symm hj)] at e2
        obtain ⟨u', r', q⟩ := hl j y v' e1 e2 e3
        refine ⟨u', r', ?_⟩
        rcases q with q | ⟨k, c', e, z'⟩
        · exact .inl q
        · refine .inr ⟨k, c', e, z'.sameBut hs ?_⟩
          rintro rfl
          exact hj (nodup_ix hN e1 (I.ok.inj _ _ _ e hc ▸ hi))
    · by_cases hcc : c' = c
      · subst hcc; exact ⟨_, hc'⟩
      · obtain ⟨w2, z2⟩ := I.cell y c' e
        exact ⟨w2, z2.sameBut hs hcc⟩
    · obtain ⟨e, n, ne, nf, d⟩ := I.pin p hp
      refine ⟨(hs.2 p.1 ?_).trans e, n, ne, nf, d⟩
      intro q
      rw [q, hoc] at e
      have q' : oc = p.2 := Option.some.inj e
      exact d w' (by rw [← q']; exact hocd)
theorem store_ok {M : Model} {A : Around} {E : Value → Shared → Prop} {i : Nat} {x : Str} {v : V} {u : Value} {Q : Unit → Shared → Prop} (I : Inv X pins σ H s) (hN : X.N.Nodup) (hi : X.N[i]? = some x) (hx : Loc X.env.scope x) (r : RelV v u)
    (h : ∀ s', Inv X pins (σ.set i (some v)) H s' → Q () s') (hf : X.fn x = true ∨ X.env.scope.names.lookup x = some .local := by first | exact .inl rfl | exact .inr rfl | assumption) : wpAny M A (storeName X.env x u) Q E s :=
  store_ok2 I hN hi hx r (fun s' I' _ => h s' I') hf
theorem Inv.call' {s' : Shared} {ch : List Addr} (I : Inv X pins σ H s) (ho : s'.os = s.os) (u : Un (frs X.stack) ch H H' s.heap s'.heap) (hok : HOk X.prog X.w H' s'.heap) (hg : AllBare s'.gens)
    (hch : ∀ b ∈ ch, (b ∈ X.ex ∨ X.s₀.heap.objs.size ≤ b) ∧ b ≠ X.env.locals ∧ (∀ x c, X.env.cells.lookup x = some c → c ≠ b) ∧ ∀ p ∈ X.pn ++ pins, p.1 ≠ b) : Inv X pins σ H' s' := by
  obtain ⟨h', g', d', t', o'⟩ := s'
  have e : o' = s.os := ho
  subst e
  exact I.call (g' := g') (t' := t') (d' := d') u hok hg hch
end
abbrev XK := Value → Option Addr → Hp → Prop
abbrev St := List (Option V)
abbrev VK := V → Hp → Prop
abbrev TE := St → Hp → VK → Prop
abbrev TT := St → Hp → (Bool → Hp → Prop) → Prop
abbrev TA := St → Hp → (List V → Hp → Prop) → Prop
structure Ends where
  nx : St → Hp → Prop
  rt : VK
  bk : St → Hp → Prop := fun _ _ => False
  ct : St → Hp → Prop := fun _ _ => False
abbrev TS := Ends → St → Hp → Prop
def EP (X : Cx) (pins : List (Addr × Obj)) (σ : St) (Q : VK) (u : Value) (s' : Shared) : Prop := ∃ v H', Inv X pins σ H' s' ∧ RelV v u ∧ Q v H'
def TP (X : Cx) (pins : List (Addr × Obj)) (σ : St) (Q : Bool → Hp → Prop) (b : Bool) (s' : Shared) : Prop := ∃ H', Inv X pins σ H' s' ∧ Q b H'
def AP (X : Cx) (pins : List (Addr × Obj)) (σ : St) (Q : List V → Hp → Prop) (us : List Value) (s' : Shared) : Prop := ∃ vs H', Inv X pins σ H' s' ∧ Vals vs us ∧ Q vs H'
def SP (X : Cx) (pins : List (Addr × Obj)) (D : Ends) (f : Flow) (s' : Shared) : Prop :=
  match f with
  | .next => ∃ σ' H', Inv X pins σ' H' s' ∧ D.nx σ' H'
  | .brk => ∃ σ' H', Inv X pins σ' H' s' ∧ D.bk σ' H'
  | .cont => ∃ σ' H', Inv X pins σ' H' s' ∧ D.ct σ' H'
  | .ret u => ∃ v σ' H', Inv X pins σ' H' s' ∧ RelV v u ∧ D.rt v H'
def PE (X : Cx) (e : Expr) (t : TE) : Prop :=
  ∀ (pins : List (Addr × Obj)) (s : Shared) (σ : St) (H : Hp) (Q : VK), Inv X pins σ H s → t σ H Q → wpAny (model X.prog X.w) X.A (eval e X.env) (EP X pins σ Q) X.xe s
def PT (X : Cx) (e : Expr) (t : TT) : Prop :=
  ∀ (pins : List (Addr × Obj)) (s : Shared) (σ : St) (H : Hp) (Q : Bool → Hp → Prop), Inv X pins σ H s → t σ H Q → wpAny (model X.prog X.w) X.A (isTrue e X.env (eval e X.env)) (TP X pins σ Q) X.xe s
def PW (X : Cx) (e : Expr) (t : TT) : Prop :=
  ∀ (whole : Sem Value) (pins : List (Addr × Obj)) (s : Shared) (σ : St) (H : Hp) (Q : Bool → Hp → Prop), Inv X pins σ H s → t σ H Q → wpAny (model X.prog X.w) X.A (isTrue e X.env whole) (TP X pins σ Q) X.xe s
theorem PW.pt {X : Cx} {e : Expr} {t : TT} (h : PW X e t) : PT X e t := h _
def PA (X : Cx) (es : List Expr) (t : TA) : Prop :=
  ∀ (pos : Pos) (pins : List (Addr × Obj)) (s : Shared) (σ : St) (H : Hp) (Q : List V → Hp → Prop), Inv X pins σ H s → t σ H Q → wpAny (model X.prog X.w) X.A (spliced (backTo pos (starEach es X.env))) (AP X pins σ Q) X.xe s
def PS (X : Cx) (st : Stmt) (t : TS) : Prop :=
  ∀ (pins : List (Addr × Obj)) (s : Shared) (σ : St) (H : Hp) (D : Ends), Inv X pins σ H s → t D σ H → wpAny (model X.prog X.w) X.A (exec st X.env) (SP X pins D) X.xe s
def PSs (X : Cx) (st : List Stmt) (t : TS) : Prop :=
  ∀ (pins : List (Addr × Obj)) (s : Shared) (σ : St) (H : Hp) (D : Ends), Inv X pins σ H s → t D σ H → wpAny (model X.prog X.w) X.A (execs st X.env) (SP X pins D) X.xe s
theorem thn {α : Type} {t : Sem α} {Q Q' : α → Shared → Prop} {M : Model} {A : Around} {E : Value → Shared → Prop} {s : Shared} (h : wpAny M A t Q E s) (hQ : ∀ a s, Q a s → Q' a s) : wpAny M A t Q' E s := wpAny_mono h hQ fun _ _ x => x
end L2
namespace L2
open PySem PySem.Spec PyProof.Rows
section
variable {X : Cx}
def tVar (i : Nat) : TE := fun σ H Q => ∃ v, σ[i]? = some (some v) ∧ Q v H
def tC (v : V) : TE := fun _ H Q => Q v H
theorem pe_var {i : Nat} {x : Str} {pos : Pos} (hN : X.N[i]? = some x) (hv : Vis X.env.scope x) (hd : (x == ("__debug__" : Str)) = false := by decide) (hcd : (x == ("__classdict__" : Str)) = false := by decide) : PE X (.Name x pos) (tVar i) := by
  intro pins s σ H Q I h
  obtain ⟨v, e, h⟩ := h
  obtain ⟨m, hn, hl⟩ := I.loc
  obtain ⟨u, r, l⟩ := hl i x v hN e hv
  have fin : EP X pins σ Q u s := ⟨v, H, I, r, h⟩
  rcases l with ⟨hk, hm⟩ | ⟨hk, c, hc, hcell⟩
  · exact wpAny_Name (wpAny_loadName_local I.ok.kind hk hn hm fin) hd
  · rcases hk with hk | hk
    · exact wpAny_Name (wpAny_loadName_cell I.ok.kind hk hc hcell fin) hd
    · exact wpAny_Name (wpAny_loadName_free I.ok.kind hk hc hcell fin hcd) hd
theorem pe_int {i j pos} : PE X (.Constant (.int i) j pos) (tC (.int i)) := fun _ _ _ H _ I h => wpAny_Constant_int ⟨.int i, H, I.tok _, ⟨_, rfl⟩, h⟩
theorem pe_bl {b j pos} : PE X (.Constant (.bool b) j pos) (tC (.bl b)) := fun _ _ _ H _ I h => Constant_bool ⟨.bl b, H, I, rfl, h⟩
theorem pe_non {j pos} : PE X (.Constant .none j pos) (tC .non) := fun _ _ _ H _ I h => Constant_none ⟨.non, H, I, rfl, h⟩
theorem pe_str {x j pos} : PE X (.Constant (.str x) j pos) (tC (.str x)) := fun _ _ _ H _ I h => Calls.Constant_str ⟨.str x, H, I.tok _, ⟨_, rfl⟩, h⟩
def Gl (X : Cx) (x : Str) : Prop := X.env.kindOf x = some .globalImplicit
theorem ld_glob {E : Value → Shared → Prop} {pins : List (Addr × Obj)} {s : Shared} {σ : St} {H : Hp} {x : Str} {u : Value} {pos : Pos} {Q : Value → Shared → Prop} (I : Inv X pins σ H s) (hg : Gl X x) (hm : X.mg x = some u) (h : Q u s)
    (hd : (x == ("__debug__" : Str)) = false := by decide) : wpAny (model X.prog X.w) X.A (eval (.Name x pos) X.env) Q E s :=
  Calls.Name_function_global I.ok.kind hg (Calls.loadGlobal_global (by rw [I.ok.glob]; exact I.mod.glob.keeps I.bk) hm h) hd
theorem ld_blt {E : Value → Shared → Prop} {pins : List (Addr × Obj)} {s : Shared} {σ : St} {H : Hp} {x : Str} {u : Value} {pos : Pos} {Q : Value → Shared → Prop} (I : Inv X pins σ H s) (hg : Gl X x) (hm : X.mg x = none) (hv : bootBuiltins x = some u) (h : Q u s)
    (hn : x ≠ "__name__" := by decide) (hd : (x == ("__debug__" : Str)) = false := by decide) : wpAny (model X.prog X.w) X.A (eval (.Name x pos) X.env) Q E s := by
  obtain ⟨mb, h1, h2⟩ := I.mod.blt
  exact Calls.Name_function_global I.ok.kind hg (Calls.loadGlobal_builtin (by rw [I.ok.glob]; exact I.mod.glob.keeps I.bk) hm (by rw [I.ok.blt]; exact h1.keeps I.bk) ((h2 x hn).trans hv) h) hd
theorem pe_glob {x : Str} {v : V} {u : Value} {pos : Pos} (hg : Gl X x) (hm : X.mg x = some u) (r : RelV v u) (hd : (x == ("__debug__" : Str)) = false := by decide) : PE X (.Name x pos) (tC v) :=
  fun _ _ _ H _ I h => ld_glob I hg hm ⟨v, H, I, r, h⟩ hd
theorem pe_bltn {x : Str} {v : V} {u : Value} {pos : Pos} (hg : Gl X x) (hm : X.mg x = none) (hv : bootBuiltins x = some u) (r : RelV v u) (hn : x ≠ "__name__" := by decide) (hd : (x == ("__debug__" : Str)) = false := by decide) : PE X (.Name x pos) (tC v) :=
  fun _ _ _ H _ I h => ld_blt I hg hm hv ⟨v, H, I, r, h⟩ hn hd
variable {a b : Expr} {ta tb : TE} {pos : Pos}
def PC (X : Cx) (op : CmpOp) (a b : Expr) (t : TE) : Prop :=
  ∀ (pins : List (Addr × Obj)) (s : Shared) (σ : St) (H : Hp) (Q : VK), Inv X pins σ H s → t σ H Q →
    wpAny (model X.prog X.w) X.A (eval a X.env) (fun v s₁ => wpAny (model X.prog X.w) X.A (eval b X.env) (fun u s₂ => wpAny (model X.prog X.w) X.A (compareOp op v u) (EP X pins σ Q) X.xe s₂) X.xe s₁) X.xe s
theorem nobehind (b : Expr) {op : CmpOp} (h : op ≠ .In) (h2 : op ≠ .NotIn) : behindInMarks op b = false := by
  have e1 : (op == CmpOp.In) = false := by cases op <;> first | rfl | exact absurd rfl h
  have e2 : (op == CmpOp.NotIn) = false := by cases op <;> first | rfl | exact absurd rfl h2
  cases b <;> simp [behindInMarks, e1, e2]
def tIsN (ta : TE) : TE := fun σ H Q => ta σ H fun x H1 => Q (.bl (decide (x = .non))) H1
def tNotN (ta : TE) : TE := fun σ H Q => ta σ H fun x H1 => Q (.bl (!decide (x = .non))) H1
theorem RelV.none_iff {x : V} {v : Value} (r : RelV x v) : (v == Value.none) = decide (x = .non) := by
  cases x with
  | non => cases r; rfl
  | bl _ => cases r; rfl
  | int _ => obtain ⟨t, rfl⟩ := r; rfl
  | str _ => obtain ⟨t, rfl⟩ := r; rfl
  | byt _ => obtain ⟨t, rfl⟩ := r; rfl
  | flt _ => obtain ⟨t, rfl⟩ := r; rfl
  | ref _ => cases r; rfl
  | ty _ => cases r; rfl
theorem pc_isN {j pos'} (ha : PE X a ta) : PC X .Is a (.Constant .none j pos') (tIsN ta) := by
  intro pins s σ H Q I h
  refine thn (ha pins s σ H _ I h) fun v s1 ⟨x, H1, I1, r1, q1⟩ => ?_
  exact Constant_none (is_none_gen ⟨.bl _, H1, I1, by rw [r1.none_iff]; rfl, q1⟩)
theorem pc_notN {j pos'} (ha : PE X a ta) : PC X .IsNot a (.Constant .none j pos') (tNotN ta) := by
  intro pins s σ H Q I h
  refine thn (ha pins s σ H _ I h) fun v s1 ⟨x, H1, I1, r1, q1⟩ => ?_
  exact Constant_none (isnot_none_gen ⟨.bl _, H1, I1, by rw [r1.none_iff]; rfl, q1⟩)
def tB (t : TE) : TT := fun σ H Q => t σ H fun x H1 => ∃ c, x = .bl c ∧ Q c H1
theorem pe_cmp {op : CmpOp} {t : TE} (h : PC X op a b t) (h1 : behindInMarks op b = false := by first | exact nobehind _ (by decide) (by decide) | rfl) : PE X (.Compare a [op] [b] pos) t := fun pins s σ H Q I hw => wpAny_Compare1 (h pins s σ H Q I hw) h1
theorem pt_cmp {op : CmpOp} {t : TE} (h : PC X op a b t) (h1 : behindInMarks op b = false := by first | exact nobehind _ (by decide) (by decide) | rfl) : PT X (.Compare a [op] [b] pos) (tB t) := by
  intro pins s σ H Q I hw
  refine wpAny_isTrue_Compare1 (thn (h pins s σ H _ I hw) fun v s1 h1 => thn h1 fun u s2 h2 => thn h2 fun c s3 ⟨x, H1, I1, r1, q1⟩ => ?_) h1
  obtain ⟨d, rfl, q⟩ := q1
  cases r1
  exact wpAny_truthy_bool ⟨H1, I1, q⟩
theorem pt_val {e : Expr} {t : TE} (h : PE X e t) (he : ∀ whole, isTrue e X.env whole = (do let v ← whole; standAt e.pos; holding [v] (truthy v)) := by intro _; rfl) : PT X e (tB t) := by
  intro pins s σ H Q I hw
  refine isTrue_plain (thn (h pins s σ H _ I hw) fun v s1 ⟨x, H1, I1, r1, q1⟩ => ?_) (he _)
  obtain ⟨d, rfl, q⟩ := q1
  cases r1
  exact wpAny_truthy_bool ⟨H1, I1, q⟩
variable {tA tB' : TT} {rest : List Expr}
def tAnd (t u : TT) : TT := fun σ H Q => t σ H fun c H1 => if c = true then u σ H1 Q else Q false H1
def tOr (t u : TT) : TT := fun σ H Q => t σ H fun c H1 => if c = true then Q true H1 else u σ H1 Q
def tNot (t : TT) : TT := fun σ H Q => t σ H fun c H1 => Q (!c) H1
theorem pw_and1 (ha : PT X a tA) : PW X (.BoolOp .And [a] pos) tA := by
  intro wh pins s σ H Q I h
  refine isTrue_and (thn (ha pins s σ H Q I h) fun c s1 e => ?_)
  cases c with
  | true => exact isTrue_and_nil e
  | false => exact e
theorem pw_or1 (ha : PT X a tA) : PW X (.BoolOp .Or [a] pos) tA := by
  intro wh pins s σ H Q I h
  refine isTrue_or (thn (ha pins s σ H Q I h) fun c s1 e => ?_)
  cases c with
  | false => exact isTrue_or_nil e
  | true => exact e
theorem pw_and (ha : PT X a tA) (hb : PW X (.BoolOp .And (b :: rest) pos) tB') : PW X (.BoolOp .And (a :: b :: rest) pos) (tAnd tA tB') := by
  intro wh pins s σ H Q I h
  refine isTrue_and (thn (ha pins s σ H _ I h) fun c s1 ⟨H1, I1, q1⟩ => ?_)
  cases c with
  | true => exact hb wh pins s1 σ H1 Q I1 q1
  | false => exact ⟨H1, I1, q1⟩
theorem pw_or (ha : PT X a tA) (hb : PW X (.BoolOp .Or (b :: rest) pos) tB') : PW X (.BoolOp .Or (a :: b :: rest) pos) (tOr tA tB') := by
  intro wh pins s σ H Q I h
  refine isTrue_or (thn (ha pins s σ H _ I h) fun c s1 ⟨H1, I1, q1⟩ => ?_)
  cases c with
  | true => exact ⟨H1, I1, q1⟩
  | false => exact hb wh pins s1 σ H1 Q I1 q1
theorem pt_not (ha : PT X a tA) : PT X (.UnaryOp .Not a pos) (tNot tA) := by
  intro pins s σ H Q I h
  exact isTrue_not (ha pins s σ H (fun c H1 => Q (!c) H1) I h)
def tAndV (ta tb : TE) : TE := fun σ H Q => ta σ H fun x H1 => ∃ c, x = .bl c ∧ if c = true then tb σ H1 Q else Q (.bl false) H1
def tOrV (ta tb : TE) : TE := fun σ H Q => ta σ H fun x H1 => ∃ c, x = .bl c ∧ if c = true then Q (.bl true) H1 else tb σ H1 Q
def tNotV (ta : TE) : TE := fun σ H Q => ta σ H fun x H1 => ∃ c, x = .bl c ∧ Q (.bl (!c)) H1
theorem pe_one {op} {t : TE} (h : PE X a t) : PE X (.BoolOp op [a] pos) t := fun pins s σ H Q I hw => BoolOp_one (h pins s σ H Q I hw)
theorem pe_and (ha : PE X a ta) (hb : PE X (.BoolOp .And (b :: rest) pos) tb) : PE X (.BoolOp .And (a :: b :: rest) pos) (tAndV ta tb) := by
  intro pins s σ H Q I h
  refine BoolOp_and (thn (ha pins s σ H _ I h) fun v s1 ⟨x, H1, I1, r1, q1⟩ => ?_)
  obtain ⟨c, rfl, q1⟩ := q1
  cases r1
  refine wpAny_truthy_bool ?_
  cases c with
  | true => exact hb pins s1 σ H1 Q I1 q1
  | false => exact ⟨.bl false, H1, I1, rfl, q1⟩
theorem pe_or (ha : PE X a ta) (hb : PE X (.BoolOp .Or (b :: rest) pos) tb) : PE X (.BoolOp .Or (a :: b :: rest) pos) (tOrV ta tb) := by
  intro pins s σ H Q I h
  refine BoolOp_or (thn (ha pins s σ H _ I h) fun v s1 ⟨x, H1, I1, r1, q1⟩ => ?_)
  obtain ⟨c, rfl, q1⟩ := q1
  cases r1
  refine wpAny_truthy_bool ?_
  cases c with
  | false => exact hb pins s1 σ H1 Q I1 q1
  | true => exact ⟨.bl true, H1, I1, rfl, q1⟩
theorem pe_not (ha : PE X a ta) : PE X (.UnaryOp .Not a pos) (tNotV ta) := by
  intro pins s σ H Q I h
  refine UnaryOp_ (thn (ha pins s σ H _ I h) fun v s1 ⟨x, H1, I1, r1, q1⟩ => ?_)
  obtain ⟨c, rfl, q1⟩ := q1
  cases r1
  exact not_of (wpAny_truthy_bool ⟨.bl (!c), H1, I1, rfl, q1⟩)
def tIf (t : TT) (ta tb : TE) : TE := fun σ H Q => t σ H fun c H1 => if c = true then ta σ H1 Q else tb σ H1 Q
theorem pe_ifExp {c : Expr} (hc : PT X c tA) (ha : PE X a ta) (hb : PE X b tb) : PE X (.IfExp c a b pos) (tIf tA ta tb) := by
  intro pins s σ H Q I h
  refine wpAny_IfExp (thn (hc pins s σ H _ I h) fun d s1 ⟨H1, I1, q1⟩ => ?_)
  cases d with
  | true => exact ha pins s1 σ H1 Q I1 q1
  | false => exact hb pins s1 σ H1 Q I1 q1
end
end L2
namespace L2
open PySem PySem.Spec PyProof.Rows
def SqL (K : PySem.W.Frag) (H : Hp) (a : Addr) (xs : List V) : Prop :=
  Rd H a (.lst xs) ∨
    ∃ (o : Obj) (its : Array Value) (n : Nat), K.lookup a = some o ∧ o.cls = .type "list" ∧ o.dict = none ∧ o.data = .seq its n ∧ its.size ≤ sizeLine ∧ Vals xs its.toList
def SqT (K : PySem.W.Frag) (H : Hp) (a : Addr) (xs : List V) : Prop :=
  Rd H a (.tup xs) ∨
    ∃ (o : Obj) (its : Array Value) (n : Nat), K.lookup a = some o ∧ o.cls = .type "tuple" ∧ o.data = .seq its n ∧ its.size ≤ sizeLine ∧ Vals xs its.toList
def absV : Value → Option V
  | .none => some .non
  | .bool b => some (.bl b)
  | .int i _ => some (.int i)
  | .str x _ => some (.str x)
  | .bytes b _ => some (.byt b)
  | .float b _ => some (.flt b)
  | .ref a => some (.ref a)
  | .type n => some (.ty n)
  | _ => none
theorem RelV.abs {x : V} {u : Value} (r : RelV x u) : absV u = some x := by
  cases x with
  | non => cases r; rfl
  | bl _ => cases r; rfl
  | int _ => obtain ⟨t, rfl⟩ := r; rfl
  | str _ => obtain ⟨t, rfl⟩ := r; rfl
  | byt _ => obtain ⟨t, rfl⟩ := r; rfl
  | flt _ => obtain ⟨t, rfl⟩ := r; rfl
  | ref _ => cases r; rfl
  | ty _ => cases r; rfl
theorem RelV.inj {x y : V} {u : Value} (r : RelV x u) (q : RelV y u) : x = y := Option.some.inj (r.abs.symm.trans q.abs)
theorem Vals.inj : ∀ {xs ys : List V} {us : List Value}, Vals xs us → Vals ys us → xs = ys
  | _, _, _, .nil, .nil => rfl
  | _, _, _, .cons r t, .cons r' t' => by rw [r.inj r', Vals.inj t t']
section
variable {X : Cx} {pins : List (Addr × Obj)} {σ : St} {H : Hp} {s : Shared} {a : Addr} {xs ys : List V}
theorem SqL.of {K : PySem.W.Frag} (h : H a = some (.lst xs)) : SqL K H a xs := .inl (.inl h)
theorem SqT.of {K : PySem.W.Frag} (h : H a = some (.tup xs)) : SqT K H a xs := .inl (.inl h)
theorem Inv.list (I : Inv X pins σ H s) (h : SqL X.K H a xs) : ∃ its : List Value, Vals xs its ∧ PlainL s.heap a its.toArray ∧ xs.length ≤ sizeLine := by
  rcases h with h | ⟨o, its, n, hk, hc, hd, hs, hz, r⟩
  · obtain ⟨z, its, n, r, e⟩ := h.ok I.hok
    exact ⟨its, r, ⟨_, n, e, rfl, rfl, rfl⟩, z⟩
  · refine ⟨its.toList, r, ⟨o, n, I.kIn a o hk, hc, hd, by simpa using hs⟩, ?_⟩
    have e := r.length
    simp only [Array.length_toList] at e
    omega
theorem Inv.tuple (I : Inv X pins σ H s) (h : SqT X.K H a xs) : ∃ its : List Value, Vals xs its ∧ IsTup s.heap a its.toArray ∧ xs.length ≤ sizeLine := by
  rcases h with h | ⟨o, its, n, hk, hc, hs, hz, r⟩
  · obtain ⟨z, its, r, p⟩ := h.ok I.hok
    exact ⟨its, r, p, z⟩
  · refine ⟨its.toList, r, ⟨o, I.kIn a o hk, hc, n, by simpa using hs⟩, ?_⟩
    have e := r.length
    simp only [Array.length_toList] at e
    omega
theorem Inv.list_inj (I : Inv X pins σ H s) (h : SqL X.K H a xs) (h' : SqL X.K H a ys) : xs = ys := by
  obtain ⟨its, r, ⟨o, n, e, _, _, d⟩, _⟩ := I.list h
  obtain ⟨its', r', ⟨o', n', e', _, _, d'⟩, _⟩ := I.list h'
  rw [e] at e'; cases e'
  rw [d] at d'
  injection d' with d1 _
  have : its = its' := by simpa using congrArg Array.toList d1
  subst this
  exact r.inj r'
end
abbrev Cx.wish (X : Cx) (E : Value → Shared → Prop) : Cx := { X with xe := E }
abbrev Cx.nox (X : Cx) : Cx := X.wish fun _ _ => False
theorem Cx.Ok.wish {X : Cx} (ok : X.Ok) (E : Value → Shared → Prop) : (X.wish E).Ok :=
  ⟨ok.mod, ok.kind, ok.glob, ok.blt, ok.above, ok.inj, ok.has, ok.cab, ok.hd, ok.frames, ok.stk, ok.exf, ok.bs, ok.bsz, ok.noex, ok.exfs, ok.funs, ok.frf⟩
theorem Cx.Ok.unwish {X : Cx} {E : Value → Shared → Prop} (ok : (X.wish E).Ok) : X.Ok :=
  ⟨ok.mod, ok.kind, ok.glob, ok.blt, ok.above, ok.inj, ok.has, ok.cab, ok.hd, ok.frames, ok.stk, ok.exf, ok.bs, ok.bsz, ok.noex, ok.exfs, ok.funs, ok.frf⟩
section
variable {X : Cx} {pins : List (Addr × Obj)} {σ : St} {H : Hp} {s : Shared} {E : Value → Shared → Prop}
theorem Inv.wish (I : Inv X pins σ H s) (E : Value → Shared → Prop) : Inv (X.wish E) pins σ H s := ⟨I.ok.wish E, I.os, I.bare, I.base, I.loc, I.cell, I.free, I.freeC, I.pin, I.hok, I.len⟩
theorem Inv.unwish (I : Inv (X.wish E) pins σ H s) : Inv X pins σ H s := ⟨I.ok.unwish, I.os, I.bare, I.base, I.loc, I.cell, I.free, I.freeC, I.pin, I.hok, I.len⟩
theorem SP.unwish {D : Ends} {f : Flow} {s' : Shared} (h : SP (X.wish E) pins D f s') : SP X pins D f s' := by
  cases f with
  | next => obtain ⟨σ', H', I, q⟩ := h; exact ⟨σ', H', I.unwish, q⟩
  | brk => obtain ⟨σ', H', I, q⟩ := h; exact ⟨σ', H', I.unwish, q⟩
  | cont => obtain ⟨σ', H', I, q⟩ := h; exact ⟨σ', H', I.unwish, q⟩
  | ret u => obtain ⟨v, σ', H', I, r, q⟩ := h; exact ⟨v, σ', H', I.unwish, r, q⟩
theorem PE.nox {e : Expr} {t : TE} (h : PE X.nox e t) : PE X e t := fun pins s σ H Q I hw =>
  wpAny_mono (h pins s σ H Q (I.wish _) hw) (fun _ _ ⟨v, H', I', r, q⟩ => ⟨v, H', I'.unwish, r, q⟩) fun _ _ z => False.elim z
theorem PT.nox {e : Expr} {t : TT} (h : PT X.nox e t) : PT X e t := fun pins s σ H Q I hw =>
  wpAny_mono (h pins s σ H Q (I.wish _) hw) (fun _ _ ⟨H', I', q⟩ => ⟨H', I'.unwish, q⟩) fun _ _ z => False.elim z
theorem PSs.nox {st : List Stmt} {t : TS} (h : PSs X.nox st t) : PSs X st t := fun pins s σ H D I hw =>
  wpAny_mono (h pins s σ H D (I.wish _) hw) (fun _ _ q => q.unwish) fun _ _ z => False.elim z
end
section
variable {X : Cx} {st : Stmt} {rest : List Stmt} {t u : TS} {e : Expr} {te : TE} {pos : Pos}
def tNext : TS := fun D σ H => D.nx σ H
def tSeq (t u : TS) : TS := fun D σ H => t { D with nx := u D } σ H
theorem pss_nil : PSs X [] tNext := fun _ _ σ H _ I h => wpAny_execs_nil ⟨σ, H, I, h⟩
theorem pss_cons (h1 : PS X st t) (h2 : PSs X rest u) : PSs X (st :: rest) (tSeq t u) := by
  intro pins s σ H D I h
  refine wpAny_execs_cons (thn (h1 pins s σ H { D with nx := u D } I h) fun f s1 q => ?_)
  cases f with
  | next =>
    obtain ⟨σ', H', I', q⟩ := q
    exact h2 pins s1 σ' H' D I' q
  | ret v => exact q
  | brk => exact q
  | cont => exact q
theorem pss_one (h1 : PS X st t) : PSs X [st] t := by
  intro pins s σ H D I h
  refine wpAny_execs_cons (thn (h1 pins s σ H D I h) fun f s1 q => ?_)
  cases f with
  | next => exact wpAny_execs_nil q
  | ret v => exact q
  | brk => exact q
  | cont => exact q
theorem Inv.quiet {pins : List (Addr × Obj)} {σ : St} {H : Hp} {s : Shared} (I : Inv X pins σ H s) : interactive X.env = false := by simp [interactive, I.ok.kind]
def tDrop (te : TE) : TS := fun D σ H => te σ H fun _ H1 => D.nx σ H1
theorem ps_expr (he : PE X e te) (hs : swapsWith e none pos.line X.env = pure false := by rfl) : PS X (.Expr e pos) (tDrop te) := by
  intro pins s σ H D I h
  exact wpAny_Expr_any (thn (he pins s σ H _ I h) fun v s1 ⟨x, H1, I1, r1, q1⟩ => ⟨σ, H1, I1, q1⟩) I.quiet hs
def tRet (te : TE) : TS := fun D σ H => te σ H D.rt
theorem ps_ret (he : PE X e te) : PS X (.Return (some e) pos) (tRet te) := by
  intro pins s σ H D I h
  exact wpAny_Return_some (thn (he pins s σ H _ I h) fun v s1 ⟨x, H1, I1, r1, q1⟩ => ⟨x, σ, H1, I1, r1, q1⟩)
def tIfS (c : TT) (t u : TS) : TS := fun D σ H => c σ H fun b H1 => if b = true then t D σ H1 else u D σ H1
theorem ps_if {c : Expr} {a b : List Stmt} {tc : TT} (hc : PT X c tc) (ha : PSs X a t) (hb : PSs X b u) : PS X (.If c a b pos) (tIfS tc t u) := by
  intro pins s σ H D I h
  refine wpAny_If (thn (hc pins s σ H _ I h) fun d s1 ⟨H1, I1, q1⟩ => ?_)
  cases d with
  | true => exact ha pins s1 σ H1 D I1 q1
  | false => exact hb pins s1 σ H1 D I1 q1
def tNever : TS := fun _ _ _ => False
theorem pss_never {sts : List Stmt} : PSs X sts tNever := fun _ _ _ _ _ _ h => h.elim
end
abbrev TG := V → St → Hp → (St → Hp → Prop) → Prop
abbrev TGs := List V → St → Hp → (St → Hp → Prop) → Prop
def PG (X : Cx) (target : Expr) (t : TG) : Prop :=
  ∀ (pins : List (Addr × Obj)) (s : Shared) (σ : St) (H : Hp) (v : V) (u : Value) (Q : St → Hp → Prop), Inv X pins σ H s → RelV v u → t v σ H Q →
    wpAny (model X.prog X.w) X.A (assign target X.env u) (fun _ s' => ∃ σ' H', Inv X pins σ' H' s' ∧ Q σ' H') X.xe s
def PGs (X : Cx) (ts : List Expr) (t : TGs) : Prop :=
  ∀ (pins : List (Addr × Obj)) (s : Shared) (σ : St) (H : Hp) (vs : List V) (us : List Value) (Q : St → Hp → Prop), Inv X pins σ H s → Vals vs us → t vs σ H Q →
    wpAny (model X.prog X.w) X.A (assignInOrder ((assignEach ts X.env).map (·.2)) us) (fun _ s' => ∃ σ' H', Inv X pins σ' H' s' ∧ Q σ' H') X.xe s
abbrev TIp := V → V → Hp → VK → Prop
def PIp (X : Cx) (op : Operator) (t : TIp) : Prop :=
  ∀ (pins : List (Addr × Obj)) (s : Shared) (σ : St) (H : Hp) (x y : V) (v u : Value) (Q : VK), Inv X pins σ H s → RelV x v → RelV y u → t x y H Q →
    wpAny (model X.prog X.w) X.A (inplaceOp op v u) (EP X pins σ Q) X.xe s
section
variable {X : Cx} {pos : Pos}
def gName (i : Nat) : TG := fun v σ H Q => Q (σ.set i (some v)) H
theorem pg_name {i : Nat} {x : Str} (hN : X.N.Nodup) (hi : X.N[i]? = some x) (hx : Loc X.env.scope x) (hf : X.fn x = true ∨ X.env.scope.names.lookup x = some .local := by first | exact .inl rfl | exact .inr rfl | assumption) : PG X (.Name x pos) (gName i) := by
  intro pins s σ H v u Q I r h
  exact wpAny_assign_Name (store_ok I hN hi hx r (fun s' I' => ⟨_, H, I', h⟩) hf)
def gNil : TGs := fun vs σ H Q => vs = [] ∧ Q σ H
def gCons (t : TG) (u : TGs) : TGs := fun vs σ H Q => ∃ v r, vs = v :: r ∧ t v σ H fun σ' H' => u r σ' H' Q
theorem pgs_nil : PGs X [] gNil := by
  intro pins s σ H vs us Q I r h
  obtain ⟨e, h⟩ := h
  subst e
  cases r
  exact assignInOrder_nil ⟨σ, H, I, h⟩
theorem pgs_cons {e : Expr} {es : List Expr} {t : TG} {u : TGs} (h1 : PG X e t) (h2 : PGs X es u)
    (hs : (assignEach (e :: es) X.env).map (·.2) = assign e X.env :: (assignEach es X.env).map (·.2) := by rfl) : PGs X (e :: es) (gCons t u) := by
  intro pins s σ H vs us Q I r h
  obtain ⟨v, vr, e1, h⟩ := h
  subst e1
  cases r with
  | cons r rr =>
    rw [hs]
    refine assignInOrder_cons (thn (h1 pins s σ H _ _ _ I r h) fun _ s1 ⟨σ1, H1, I1, q1⟩ => ?_)
    exact h2 pins s1 σ1 H1 _ _ Q I1 rr q1
def gTup (K : PySem.W.Frag) (n : Nat) (t : TGs) : TG := fun v σ H Q => ∃ a xs, v = .ref a ∧ SqT K H a xs ∧ xs.length = n ∧ t xs σ H Q
theorem pg_tup {es : List Expr} {k : Nat} {t : TGs} {n : Nat} (hc : X.calm = true) (h : PGs X es t)
    (hn : (assignEach es X.env).length = n := by rfl) (hst : (assignEach es X.env).findIdx? (·.1) = none := by rfl) : PG X (.Tuple es k pos) (gTup X.K n t) := by
  intro pins s σ H v u Q I r hw
  obtain ⟨a, xs, e1, hq, hl, hw⟩ := hw
  subst e1
  cases r
  obtain ⟨its, rv, ht, hz⟩ := I.tuple hq
  refine assign_Tuple_tuple (I.ok.hd hc) ht (by simp [hn, ← hl, rv.length]) hst fun h' hx => ?_
  have I1 : Inv X pins σ H { s with heap := h' } := I.kept (t' := s.toks) fun b o e => hx b o (Nat.ne_of_lt (Heap.lt_size e)) e
  exact h pins _ σ H xs _ Q I1 (by simpa using rv) hw
def tAsg (te : TE) (g : TG) : TS := fun D σ H => te σ H fun x H1 => g x σ H1 D.nx
theorem ps_set {i : Nat} {x : Str} {e : Expr} {te : TE} {pos' : Pos} (hN : X.N.Nodup) (hi : X.N[i]? = some x) (hx : Loc X.env.scope x) (he : PE X e te) (hs : swapsWith e (some (.Name x pos')) pos.line X.env = pure false := by rfl) (hf : X.fn x = true ∨ X.env.scope.names.lookup x = some .local := by first | exact .inl rfl | exact .inr rfl | assumption) :
    PS X (.Assign [.Name x pos'] e pos) (tAsg te (gName i)) := by
  intro pins s σ H D I h
  refine wpAny_Assign_Name (thn (he pins s σ H _ I h) fun v s1 ⟨y, H1, I1, r1, q1⟩ => ?_) hs
  exact store_ok I1 hN hi hx r1 (fun s2 I2 => ⟨_, H1, I2, q1⟩) hf
def tAug (i : Nat) (te : TE) (ti : TIp) : TS := fun D σ H => ∃ x, σ[i]? = some (some x) ∧ te σ H fun y H1 => ti x y H1 fun z H2 => D.nx (σ.set i (some z)) H2
theorem ps_aug {i : Nat} {x : Str} {e : Expr} {te : TE} {op : Operator} {ti : TIp} {pos' : Pos} (hN : X.N.Nodup) (hi : X.N[i]? = some x) (hx : Loc X.env.scope x) (he : PE X e te) (ho : PIp X op ti) (hf : X.fn x = true ∨ X.env.scope.names.lookup x = some .local := by first | exact .inl rfl | exact .inr rfl | assumption) :
    PS X (.AugAssign (.Name x pos') op e pos) (tAug i te ti) := by
  intro pins s σ H D I h
  obtain ⟨v, e1, h⟩ := h
  obtain ⟨m, hn, hl⟩ := I.loc
  have vis : Vis X.env.scope x := by rcases hx with k | k; exact .inl k; exact .inr (.inl k)
  obtain ⟨u, r, l⟩ := hl i x v hi e1 vis
  refine wpAny_AugAssign_Name ?_
  have go : wpAny (model X.prog X.w) X.A (eval e X.env) (fun w s₂ => wpAny (model X.prog X.w) X.A (inplaceOp op u w) (fun r s₃ => wpAny (model X.prog X.w) X.A (storeName X.env x r) (fun _ => SP X pins D .next) X.xe s₃) X.xe s₂) X.xe s := by
    refine thn (he pins s σ H _ I h) fun w s1 ⟨y, H1, I1, r1, q1⟩ => ?_
    refine thn (ho pins s1 σ H1 v y u w _ I1 r r1 q1) fun z s2 ⟨zv, H2, I2, r2, q2⟩ => ?_
    exact store_ok I2 hN hi hx r2 (fun s3 I3 => ⟨_, H2, I3, q2⟩) hf
  rcases l with ⟨hk, hm⟩ | ⟨hk, c, hc, hcell⟩
  · exact wpAny_loadName_local I.ok.kind hk hn hm go
  · rcases hk with hk | hk
    · exact wpAny_loadName_cell I.ok.kind hk hc hcell go
    · rcases hx with k | k
      · have : X.env.scope.names.lookup x = some .free := hk
        rw [k] at this; cases this
      · have : X.env.scope.names.lookup x = some .free := hk
        rw [k] at this; cases this
def ipI (f : Int → Int → Int) : TIp := fun x y H Q => ∃ i j, x = .int i ∧ y = .int j ∧ Q (.int (f i j)) H
theorem ip_add : PIp X .Add (ipI fun i j => i + j) := by
  intro pins s σ H x y v u Q I r1 r2 h
  obtain ⟨i, j, e1, e2, q⟩ := h
  subst e1; subst e2
  obtain ⟨t, rfl⟩ := r1
  obtain ⟨t', rfl⟩ := r2
  exact iadd_int ⟨.int _, H, I.tok _, ⟨_, rfl⟩, q⟩
end
section
variable {X : Cx} {pos : Pos}
def tWhile (c : TT) (tb : TS) : TS := fun D σ H => ∃ W : Nat → St → Hp → Prop, (∃ m, W m σ H) ∧ ∀ m σ H, W m σ H →
  c σ H fun b H1 => if b = true then ∃ N : St → Hp → Prop, (∀ σ' H', N σ' H' → ∃ m', m' < m ∧ W m' σ' H') ∧ tb { D with nx := N, ct := N, bk := D.nx } σ H1 else D.nx σ H1
theorem ps_while {c : Expr} {body : List Stmt} {tc : TT} {tb : TS} (hp : PassesOwn (model X.prog X.w) X.A X.env X.xe) (hc : PT X c tc) (hb : PSs X body tb) : PS X (.While c body [] pos) (tWhile tc tb) := by
  intro pins s σ H D I h
  obtain ⟨W, ⟨m0, w0⟩, turn⟩ := h
  refine wpAny_While (codeAny_whileLoop (fun n s' => ∃ σ' H', Inv X pins σ' H' s' ∧ W n σ' H') ?_ m0 ⟨σ, H, I, w0⟩)
  rintro n s1 ⟨σ1, H1, I1, w1⟩
  refine wpAny_passesOwn hp (thn (hc pins s1 σ1 H1 _ I1 (turn n σ1 H1 w1)) fun b s2 ⟨H2, I2, q2⟩ => ?_)
  cases b with
  | true =>
    obtain ⟨N, hN, q2⟩ := q2
    rw [if_pos rfl]
    refine wpAny_passesOwn hp (thn (hb pins s2 σ1 H2 _ I2 q2) fun f s3 q3 => ?_)
    cases f with
    | next =>
      obtain ⟨σ3, H3, I3, n3⟩ := q3
      obtain ⟨m', hm, w3⟩ := hN σ3 H3 n3
      exact ⟨m', hm, σ3, H3, I3, w3⟩
    | cont =>
      obtain ⟨σ3, H3, I3, n3⟩ := q3
      obtain ⟨m', hm, w3⟩ := hN σ3 H3 n3
      exact ⟨m', hm, σ3, H3, I3, w3⟩
    | brk => exact q3
    | ret v => exact q3
  | false =>
    rw [if_neg Bool.false_ne_true]
    exact wpAny_execs_nil ⟨σ1, H2, I2, q2⟩
end
structure It where
  go : Nat → Hp → Prop
  yld : Nat → Hp → V → Hp → Prop
  stop : Nat → Hp → Prop
def FpOk (X : Cx) (pins : List (Addr × Obj)) (H : Hp) (b : Addr) : Prop :=
  H b = none ∧ b ≠ X.env.locals ∧ b ∉ X.fs ∧ (b ∈ X.ex ∨ X.s₀.heap.objs.size ≤ b) ∧ (∀ x c, X.env.cells.lookup x = some c → c ≠ b) ∧ ∀ p ∈ X.pn ++ pins, p.1 ≠ b
theorem Inv.fpOk {X : Cx} {pins : List (Addr × Obj)} {σ : St} {H H' : Hp} {s : Shared} {b : Addr} (I : Inv X pins σ H s) (hb : s.heap.objs.size ≤ b) (hn : H' b = none) : FpOk X pins H' b := by
  refine ⟨hn, Nat.ne_of_gt (Nat.lt_of_lt_of_le I.lt hb), I.nofs hb, .inr (Nat.le_trans I.sz hb), fun x c e z => ?_, fun p hp z => ?_⟩
  · obtain ⟨v, q⟩ := I.cell x c e
    exact absurd (Nat.lt_of_lt_of_le q.lt (by rw [z]; exact hb)) (Nat.lt_irrefl _)
  · exact absurd (Nat.lt_of_lt_of_le (Heap.lt_size (I.pin p hp).1) (by rw [z]; exact hb)) (Nat.lt_irrefl _)
structure Turn (P : Program) (w : World) (K : PySem.W.Frag) (tg : Expr) (J : It) (fp : List Addr) (it : Addr) (tn : Nat → Heap → Prop) : Prop where
  mem : it ∈ fp
  obj : ∀ i h, tn i h → ∀ b ∈ fp, ∃ o, h.get? b = some o ∧ ∀ v, o.data ≠ .cell v
  keep : ∀ i h h', tn i h → (∀ b ∈ fp, ∀ o, h.get? b = some o → h'.get? b = some o) → tn i h'
  item : ∀ (X : Cx), X.prog = P → X.w = w → X.K = K → X.calm = true → ∀ (i : Nat) (pins : List (Addr × Obj)) (s : Shared) (σ : St) (H : Hp) (E : Value → Shared → Prop), Inv X pins σ H s → (∀ b ∈ fp, FpOk X pins H b) → tn i s.heap → J.go i H →
    wpAny (model P w) X.A (pyNext (.ref it)) (fun r s1 => ∃ u, r = some u ∧
      wpAny (model P w) X.A (letOwnedTupleGo tg (.ref it) u) (fun _ s2 => ∃ x H', Inv X pins σ H' s2 ∧ RelV x u ∧ J.yld i H x H' ∧ tn (i + 1) s2.heap ∧ ∀ b ∈ fp, H' b = none) E s1) E s
  done : ∀ (X : Cx), X.prog = P → X.w = w → X.K = K → X.calm = true → ∀ (i : Nat) (pins : List (Addr × Obj)) (s : Shared) (σ : St) (H : Hp) (E : Value → Shared → Prop), Inv X pins σ H s → (∀ b ∈ fp, FpOk X pins H b) → tn i s.heap → J.stop i H →
    wpAny (model P w) X.A (pyNext (.ref it)) (fun r s1 => r = none ∧ Inv X pins σ H s1) E s
  self : ∀ (A : Around) (i : Nat) (s : Shared) (Q : Value → Shared → Prop) (E : Value → Shared → Prop), tn i s.heap → Q (.ref it) s → wpAny (model P w) A (pyIter (.ref it)) Q E s
abbrev TI := St → Hp → (It → Hp → Prop) → Prop
def PIE (X : Cx) (pins : List (Addr × Obj)) (σ : St) (tg : Expr) (R : It → Hp → Prop) (itv : Value) (s2 : Shared) : Prop :=
  ∃ (it : Addr) (fp : List Addr) (tn : Nat → Heap → Prop) (J : It) (H' : Hp), itv = .ref it ∧ Inv X pins σ H' s2 ∧ Turn X.prog X.w X.K tg J fp it tn ∧ tn 0 s2.heap ∧ (∀ b ∈ fp, FpOk X pins H' b) ∧ R J H'
def PI (X : Cx) (tg iter : Expr) (wi : TI) : Prop :=
  ∀ (pins : List (Addr × Obj)) (s : Shared) (σ : St) (H : Hp) (R : It → Hp → Prop), Inv X pins σ H s → wi σ H R →
    wpAny (model X.prog X.w) X.A (eval iter X.env) (fun v s1 => wpAny (model X.prog X.w) X.A (pyIter v) (PIE X pins σ tg R) X.xe s1) X.xe s
theorem go_of {M : Model} {A : Around} {E : Value → Shared → Prop} {s : Shared} {tg : Expr} {it : Addr} {u : Value} {o : Obj} {n : String} {vs : Array Value} {Q : Unit → Shared → Prop} (ho : s.heap.get? it = some o) (hc : o.cls = .type n) (hd : o.data = .fields vs)
    (hn : ["enumerate", "zip", "dict_itemiterator", "dict_reverseitemiterator", "odict_iterator", "itertools.zip_longest", "itertools.pairwise"].contains n = false) (hQ : Q () s) : wpAny M A (letOwnedTupleGo tg (.ref it) u) Q E s := by
  unfold letOwnedTupleGo
  cases tg <;> first
    | exact wpAny_pure hQ
    | (cases u <;> first
        | exact wpAny_pure hQ
        | (refine wpAny_bind (wpAny_load ho ?_)
           rw [hc, hd]
           show wpAny M A (if (["enumerate", "zip", "dict_itemiterator", "dict_reverseitemiterator", "odict_iterator", "itertools.zip_longest", "itertools.pairwise"].contains n && vs[0]? == some (rawInt _)) = true then _ else _) Q E s
           rw [if_neg (by intro h; rw [hn, Bool.false_and] at h; cases h)]
           exact wpAny_pure hQ))
def Itl (K : PySem.W.Frag) (a : Addr) : It :=
  ⟨fun i H => ∃ xs x, SqL K H a xs ∧ xs[i]? = some x, fun i H x H' => H' = H ∧ ∀ xs, SqL K H a xs → xs[i]? = some x, fun i H => ∃ xs, SqL K H a xs ∧ xs.length ≤ i⟩
def Itr (lo : Int) (n : Nat) : It := ⟨fun i _ => i < n, fun i H x H' => H' = H ∧ x = .int (lo + i), fun i _ => n ≤ i⟩
theorem turn_list {P : Program} {w : World} {K : PySem.W.Frag} {tg : Expr} (a it : Addr) : Turn P w K tg (Itl K a) [it] it (fun i h => h.IsListIter it a i) where
  mem := by simp
  obj := fun i h st b hb => by
    have e : b = it := by simpa using hb
    subst e
    obtain ⟨o, e, c, d⟩ := st
    exact ⟨o, e, fun v z => by rw [d] at z; cases z⟩
  keep := fun i h h' st k => st.at fun o e => k it (by simp) o e
  item := by
    intro X hP hw hK hc i pins s σ H E I hf st hg
    subst hP hw hK
    obtain ⟨xs, x, hq, hx⟩ := hg
    obtain ⟨its, rv, p, hz⟩ := I.list hq
    obtain ⟨u, hu, ru⟩ := rv.get hx
    obtain ⟨f0, f1, f2, f3, f4, f5⟩ := hf it (by simp)
    refine wpAny_pyNext_list_item st p.isList (x := u) (by simpa using hu) fun h' st' sb => ?_
    have I1 : Inv X pins σ H { s with heap := h' } := I.turned (t' := s.toks) (fun b o hb e => (sb.2 b hb).trans e) f0 f1 f3 f4 f5
    obtain ⟨o, e, c, d⟩ := id st'
    exact ⟨u, rfl, go_of (s := { s with heap := h' }) e c d (by decide) ⟨x, H, I1, ru, ⟨rfl, fun ys hy => by rw [I.list_inj hy hq]; exact hx⟩, st', fun b hb => (hf b hb).1⟩⟩
  done := by
    intro X hP hw hK hc i pins s σ H E I hf st hg
    subst hP hw hK
    obtain ⟨xs, hq, hx⟩ := hg
    obtain ⟨its, rv, p, hz⟩ := I.list hq
    obtain ⟨f0, f1, f2, f3, f4, f5⟩ := hf it (by simp)
    have hl := rv.length
    exact wpAny_pyNext_list_end (I.ok.hd hc) st p.isList (by simp; omega) fun h' eb => ⟨rfl, I.turned (t' := s.toks) (fun b o hb e => eb b o hb e) f0 f1 f3 f4 f5⟩
  self := fun _ _ _ _ _ st h => wpAny_pyIter_listiter st h
theorem turn_range {P : Program} {w : World} {K : PySem.W.Frag} {tg : Expr} (it : Addr) (lo : Int) (n : Nat) : Turn P w K tg (Itr lo n) [it] it (fun i h => IsRangeIter h it (lo + (i : Nat) * 1) ((n : Int) - (i : Nat)) 1) where
  mem := by simp
  obj := fun i h st b hb => by
    have e : b = it := by simpa using hb
    subst e
    exact ⟨_, st, fun v z => by
      have z' : Data.fields _ = Data.cell v := z
      cases z'⟩
  keep := fun i h h' st k => k it (by simp) _ st
  item := by
    intro X hP hw hK hc i pins s σ H E I hf st hg
    subst hP hw hK
    obtain ⟨f0, f1, f2, f3, f4, f5⟩ := hf it (by simp)
    have W := Walks.range (prog := X.prog) (w := X.w) (I.ok.hd hc) it lo 1 n
    refine W.item i s _ _ hg st fun v h' tk hv st' kk => ?_
    obtain ⟨t, rfl⟩ := hv
    have I1 : Inv X pins σ H { s with heap := h', toks := tk } := I.turned (fun b o hb e => kk b o (by simpa using hb) e) f0 f1 f3 f4 f5
    refine ⟨_, rfl, go_of (s := { s with heap := h', toks := tk }) (n := "range_iterator") st' rfl rfl (by decide) ⟨.int (lo + i), H, I1, ⟨t, ?_⟩, ⟨rfl, rfl⟩, st', fun b hb => (hf b hb).1⟩⟩
    rw [Int.mul_one]
  done := by
    intro X hP hw hK hc i pins s σ H E I hf st hg
    subst hP hw hK
    obtain ⟨f0, f1, f2, f3, f4, f5⟩ := hf it (by simp)
    exact wpAny_pyNext_range_end (I.ok.hd hc) st (by have : n ≤ i := hg; omega) fun h' eb => ⟨rfl, I.turned (t' := s.toks) (fun b o hb e => eb b o hb e) f0 f1 f3 f4 f5⟩
  self := fun _ _ _ _ _ st h => wpAny_pyIter_rangeiter st h
end L2
namespace L2
open PySem PySem.Spec PyProof.Rows
section
variable {X : Cx} {tg : Expr}
def iList (K : PySem.W.Frag) (tl : TE) : TI := fun σ H R => tl σ H fun x H1 => ∃ a, x = .ref a ∧ (∃ xs, SqL K H1 a xs) ∧ R (Itl K a) H1
theorem pi_list {l : Expr} {tl : TE} (hl : PE X l tl) : PI X tg l (iList X.K tl) := by
  intro pins s σ H R I h
  refine thn (hl pins s σ H _ I h) fun v s1 ⟨x, H1, I1, r1, q1⟩ => ?_
  obtain ⟨a, e, ⟨xs, hq⟩, q⟩ := q1
  subst e
  cases r1
  obtain ⟨its, rv, p, hz⟩ := I1.list hq
  refine wpAny_pyIter_list p.isList ?_
  refine ⟨s1.heap.objs.size, [s1.heap.objs.size], _, _, H1, rfl, I1.kept (t' := s1.toks) fun b o e => Heap.get?_push_of_some _ e, turn_list a _, ⟨_, Heap.get?_push_size _ rfl, rfl, rfl⟩, fun b hb => ?_, q⟩
  have e : b = s1.heap.objs.size := by simpa using hb
  subst e
  exact I1.fpOk (Nat.le_refl _) (I1.hok.fresh (Nat.le_refl _))
theorem range_it {pins : List (Addr × Obj)} {σ : St} {H : Hp} {s : Shared} {R : It → Hp → Prop} {E : Value → Shared → Prop} {lo hi : Int} {t u v : Tok} {tk : Nat} (I : Inv X pins σ H s) (h1 : -(2 ^ 62) ≤ lo) (h2 : lo < 2 ^ 62) (h3 : -(2 ^ 62) ≤ hi) (h4 : hi < 2 ^ 62)
    (q : R (Itr lo (hi - lo).toNat) H) : wpAny (model X.prog X.w) X.A (pyIter (.ref s.heap.objs.size)) (PIE X pins σ tg R) E { s with heap := s.heap.push { cls := .type "range", data := .fields #[.int lo t, .int hi u, .int 1 v] }, toks := tk } := by
  refine wpAny_pyIter_range (IsRange.new ..) (small_one h1 h2 h3 h4) ?_
  have I1 : Inv X pins σ H { s with heap := s.heap.push { cls := .type "range", data := .fields #[.int lo t, .int hi u, .int 1 v] }, toks := tk } := I.kept fun b o e => Heap.get?_push_of_some _ e
  refine ⟨(s.heap.push { cls := .type "range", data := .fields #[.int lo t, .int hi u, .int 1 v] }).objs.size, [(s.heap.push { cls := .type "range", data := .fields #[.int lo t, .int hi u, .int 1 v] }).objs.size], _, _, H, rfl,
    I1.kept (t' := tk) fun b o e => Heap.get?_push_of_some _ e, turn_range _ lo (hi - lo).toNat, ?_, fun b hb => ?_, q⟩
  · have e1 : lo + ((0 : Nat) : Int) * 1 = lo := by simp
    have e2 : (((hi - lo).toNat : Nat) : Int) - ((0 : Nat) : Int) = Builtin.Range.rangeSize lo hi 1 := by rw [rangeSize_one]; split <;> omega
    show IsRangeIter _ _ (lo + ((0 : Nat) : Int) * 1) ((((hi - lo).toNat : Nat) : Int) - ((0 : Nat) : Int)) 1
    rw [e1, e2]
    exact Heap.get?_push_size _ rfl
  · have e : b = (s.heap.push { cls := .type "range", data := .fields #[.int lo t, .int hi u, .int 1 v] }).objs.size := by simpa using hb
    subst e
    exact I1.fpOk (Nat.le_refl _) (I1.hok.fresh (Nat.le_refl _))
def iRng1 (ta : TA) : TI := fun σ H R => ta σ H fun vs H1 => ∃ j : Int, vs = [.int j] ∧ -(2 ^ 62) ≤ j ∧ j < 2 ^ 62 ∧ R (Itr 0 j.toNat) H1
theorem pi_range1 {a : Expr} {ta : TA} {p pos : Pos} (hg : Gl X "range") (hm : X.mg "range" = none) (ha : PA X [a] ta) (hs : starEach [a] X.env = [(false, eval a X.env)] := by rfl) : PI X tg (.Call (.Name "range" p) [a] [] pos) (iRng1 ta) := by
  intro pins s σ H R I h
  refine Call_ (ld_blt I hg hm boot_range (PyProof.Rows.callWith_type1 (thn (ha pos pins s σ H _ I h) fun us s1 ⟨vs, H1, I1, r1, q1⟩ => ?_) hs rfl))
  obtain ⟨j, e, q1, q2, q⟩ := q1
  subst e
  cases r1 with
  | cons r rr =>
    cases rr
    obtain ⟨t, rfl⟩ := r
    exact call_range_1 (range_it I1 (by omega) (by omega) q1 q2 (by simpa using q))
def tFor (wi : TI) (g : TG) (tb : TS) : TS := fun D σ H => wi σ H fun J H1 => ∃ W : Nat → Nat → St → Hp → Prop, (∃ m, W 0 m σ H1) ∧ ∀ i m σ H, W i m σ H →
  (J.stop i H ∧ D.nx σ H) ∨ (J.go i H ∧ ∃ N : St → Hp → Prop, (∀ σ' H', N σ' H' → ∃ m', m' < m ∧ W (i + 1) m' σ' H') ∧ ∀ x H', J.yld i H x H' → g x σ H' fun σ2 H2 => tb { D with nx := N, ct := N, bk := D.nx } σ2 H2)
def pinsAt (fp : List Addr) (h : Heap) : List (Addr × Obj) := fp.filterMap fun b => (h.get? b).map fun o => (b, o)
theorem mem_pinsAt {fp : List Addr} {h : Heap} {b : Addr} {o : Obj} (hb : b ∈ fp) (e : h.get? b = some o) : (b, o) ∈ pinsAt fp h := List.mem_filterMap.mpr ⟨b, hb, by rw [e]; rfl⟩
theorem of_pinsAt {fp : List Addr} {h : Heap} {p : Addr × Obj} (hp : p ∈ pinsAt fp h) : p.1 ∈ fp ∧ h.get? p.1 = some p.2 := by
  obtain ⟨b, hb, e⟩ := List.mem_filterMap.mp hp
  cases q : h.get? b with
  | none => rw [q] at e; cases e
  | some o =>
    rw [q] at e
    have e' : (b, o) = p := Option.some.inj e
    subst e'
    exact ⟨hb, q⟩
theorem Inv.pinned {pins : List (Addr × Obj)} {σ : St} {H : Hp} {s : Shared} {fp : List Addr} (I : Inv X pins σ H s) (hf : ∀ b ∈ fp, FpOk X pins H b) (ho : ∀ b ∈ fp, ∃ o, s.heap.get? b = some o ∧ ∀ v, o.data ≠ .cell v) : Inv X (pins ++ pinsAt fp s.heap) σ H s :=
  I.pins_of fun p hp => (List.mem_append.mp hp).elim (fun z => I.pin p (List.mem_append_right _ z)) fun z => by
    obtain ⟨hb, e⟩ := of_pinsAt z
    obtain ⟨f0, f1, f2, _⟩ := hf p.1 hb
    obtain ⟨o, e', d⟩ := ho p.1 hb
    rw [e] at e'; cases e'
    exact ⟨e, f0, f1, f2, d⟩
theorem Inv.unpinned {pins pl : List (Addr × Obj)} {σ : St} {H : Hp} {s : Shared} (I : Inv X (pins ++ pl) σ H s) : Inv X pins σ H s := I.pins_of fun p hp => I.pin p (List.mem_append_right _ (List.mem_append_left _ hp))
theorem ps_for {iter : Expr} {body : List Stmt} {wi : TI} {g : TG} {tb : TS} {pos : Pos} (hp : PassesOwn (model X.prog X.w) X.A X.env X.xe) (hc : X.calm = true) (hi : PI X tg iter wi) (hg : PG X tg g) (hb : PSs X body tb)
    (hs : ∀ x, foldedSetIterable iter X.env x = pure x := by intro _; rfl) : PS X (.For tg iter body [] pos) (tFor wi g tb) := by
  intro pins s σ H D I h
  refine wpAny_For (thn (hi pins s σ H _ I h) fun v s1 h1 => thn h1 fun itv s2 h2 => ?_) hs
  obtain ⟨it, fp, tn, J, H2, e, I2, T, st2, f2, W, ⟨m0, w0⟩, turn⟩ := h2
  subst e
  have stat : ∀ {H' : Hp}, (∀ b ∈ fp, H' b = none) → ∀ b ∈ fp, FpOk X pins H' b := fun hn b hb => ⟨hn b hb, (f2 b hb).2⟩
  refine codeAny_forLoop_any (fun n s' => ∃ i σ' H', Inv X pins σ' H' s' ∧ tn i s'.heap ∧ (∀ b ∈ fp, H' b = none) ∧ W i n σ' H') ?_ m0 ⟨0, σ, H2, I2, st2, fun b hb => (f2 b hb).1, w0⟩
  rintro n s3 ⟨i, σ3, H3, I3, st3, fr3, w3⟩
  rcases turn i n σ3 H3 w3 with ⟨stop, qn⟩ | ⟨go, N, hN, step⟩
  · refine wpAny_passesOwn hp (thn (T.done X rfl rfl rfl hc i pins s3 σ3 H3 X.xe I3 (stat fr3) st3 stop) fun r s4 ⟨hr, I4⟩ => ?_)
    subst hr
    exact wpAny_execs_nil ⟨σ3, H3, I4, qn⟩
  · refine wpAny_passesOwn hp (thn (T.item X rfl rfl rfl hc i pins s3 σ3 H3 X.xe I3 (stat fr3) st3 go) fun r s4 ⟨u, hr, h4⟩ => ?_)
    subst hr
    refine wpAny_passesOwn hp (thn h4 fun _ s5 ⟨x, H5, I5, r5, y5, st5, fr5⟩ => ?_)
    have I5' := I5.pinned (stat fr5) (T.obj _ _ st5)
    refine wpAny_passesOwn hp (thn (hg _ s5 σ3 H5 x u _ I5' r5 (step x H5 y5)) fun _ s6 ⟨σ6, H6, I6, q6⟩ => ?_)
    refine wpAny_passesOwn hp (thn (hb _ s6 σ6 H6 _ I6 q6) fun f s7 q7 => ?_)
    have again : ∀ {σ7 : St} {H7 : Hp}, Inv X (pins ++ pinsAt fp s5.heap) σ7 H7 s7 → N σ7 H7 → ∃ m, m < n ∧ ∃ i σ' H', Inv X pins σ' H' s7 ∧ tn i s7.heap ∧ (∀ b ∈ fp, H' b = none) ∧ W i m σ' H' := fun {σ7 H7} I7 n7 => by
      obtain ⟨m', hm, w7⟩ := hN σ7 H7 n7
      refine ⟨m', hm, i + 1, σ7, H7, I7.unpinned, T.keep _ _ _ st5 fun b hb o e => (I7.pin (b, o) (List.mem_append_right _ (List.mem_append_right _ (mem_pinsAt hb e)))).1, fun b hb => ?_, w7⟩
      obtain ⟨o, e, d⟩ := T.obj _ _ st5 b hb
      exact (I7.pin (b, o) (List.mem_append_right _ (List.mem_append_right _ (mem_pinsAt hb e)))).2.1
    cases f with
    | next => obtain ⟨σ7, H7, I7, n7⟩ := q7; exact again I7 n7
    | cont => obtain ⟨σ7, H7, I7, n7⟩ := q7; exact again I7 n7
    | brk => obtain ⟨σ7, H7, I7, q7⟩ := q7; exact ⟨σ7, H7, I7.unpinned, q7⟩
    | ret v => obtain ⟨x7, σ7, H7, I7, r7, q7⟩ := q7; exact ⟨x7, σ7, H7, I7.unpinned, r7, q7⟩
end
theorem for_list {K : PySem.W.Frag} {a : Addr} {xs : List V} {g : TG} {tb : TS} {D : Ends} {σ : St} {H : Hp} (Pv : Nat → St → Hp → Prop) (h0 : Pv 0 σ H) (hl : ∀ i σ H, i ≤ xs.length → Pv i σ H → SqL K H a xs)
    (hs : ∀ i x σ H, xs[i]? = some x → Pv i σ H → g x σ H fun σ2 H2 => tb { D with nx := Pv (i + 1), ct := Pv (i + 1), bk := D.nx } σ2 H2) (hd : ∀ σ H, Pv xs.length σ H → D.nx σ H) :
    ∃ W : Nat → Nat → St → Hp → Prop, (∃ m, W 0 m σ H) ∧ ∀ i m σ H, W i m σ H →
      ((Itl K a).stop i H ∧ D.nx σ H) ∨ ((Itl K a).go i H ∧ ∃ N : St → Hp → Prop, (∀ σ' H', N σ' H' → ∃ m', m' < m ∧ W (i + 1) m' σ' H') ∧ ∀ x H', (Itl K a).yld i H x H' → g x σ H' fun σ2 H2 => tb { D with nx := N, ct := N, bk := D.nx } σ2 H2) := by
  refine ⟨fun i m σ H => m = xs.length - i ∧ i ≤ xs.length ∧ Pv i σ H, ⟨xs.length, by simp, Nat.zero_le _, h0⟩, ?_⟩
  rintro i m σ H ⟨rfl, hi, p⟩
  have q := hl i σ H hi p
  by_cases hlt : i < xs.length
  · refine .inr ⟨⟨xs, xs[i], q, by simp [hlt]⟩, Pv (i + 1), fun σ' H' p' => ⟨xs.length - (i + 1), by omega, rfl, hlt, p'⟩, fun x H' y => ?_⟩
    obtain ⟨e, y⟩ := y
    subst e
    exact hs i x σ _ (y xs q) p
  · have e : i = xs.length := by omega
    subst e
    exact .inl ⟨⟨xs, q, Nat.le_refl _⟩, hd σ H p⟩
end L2
namespace L2
open PySem PySem.Spec PyProof.Rows
abbrev R2 := V → V → Hp → VK → Prop
def OpR (X : Cx) (f : Value → Value → Sem Value) (r : R2) : Prop :=
  ∀ (pins : List (Addr × Obj)) (s : Shared) (σ : St) (H : Hp) (x y : V) (v u : Value) (Q : VK), Inv X pins σ H s → RelV x v → RelV y u → r x y H Q →
    wpAny (model X.prog X.w) X.A (f v u) (EP X pins σ Q) X.xe s
def UnR (X : Cx) (f : Value → Sem Value) (r : V → Hp → VK → Prop) : Prop :=
  ∀ (pins : List (Addr × Obj)) (s : Shared) (σ : St) (H : Hp) (x : V) (v : Value) (Q : VK), Inv X pins σ H s → RelV x v → r x H Q →
    wpAny (model X.prog X.w) X.A (f v) (EP X pins σ Q) X.xe s
def CallR (X : Cx) (f : Value) (r : List V → Hp → VK → Prop) : Prop :=
  ∀ (pins : List (Addr × Obj)) (s : Shared) (σ : St) (H : Hp) (xs : List V) (us : List Value) (Q : VK), Inv X pins σ H s → Vals xs us → r xs H Q →
    wpAny (model X.prog X.w) X.A (call f us) (EP X pins σ Q) X.xe s
def TruR (X : Cx) (r : V → Hp → (Bool → Hp → Prop) → Prop) : Prop :=
  ∀ (pins : List (Addr × Obj)) (s : Shared) (σ : St) (H : Hp) (x : V) (v : Value) (Q : Bool → Hp → Prop), Inv X pins σ H s → RelV x v → r x H Q →
    wpAny (model X.prog X.w) X.A (truthy v) (TP X pins σ Q) X.xe s
def tOp (r : R2) (ta tb : TE) : TE := fun σ H Q => ta σ H fun x H1 => tb σ H1 fun y H2 => r x y H2 Q
def tUn (r : V → Hp → VK → Prop) (ta : TE) : TE := fun σ H Q => ta σ H fun x H1 => r x H1 Q
def rI (C : Int → Int → Prop) (g : Int → Int → V) : R2 := fun x y H Q => ∃ i j, x = .int i ∧ y = .int j ∧ C i j ∧ Q (g i j) H
def rI0 (g : Int → Int → V) : R2 := fun x y H Q => ∃ i j, x = .int i ∧ y = .int j ∧ Q (g i j) H
def rU (g : Int → V) : V → Hp → VK → Prop := fun x H Q => ∃ i, x = .int i ∧ Q (g i) H
section
variable {X : Cx} {a b c : Expr} {ta tb tc : TE} {pos : Pos}
theorem binT (ha : PE X a ta) (hb : PE X b tb) {pins : List (Addr × Obj)} {s : Shared} {σ : St} {H : Hp} {R : V → V → Hp → Prop} (I : Inv X pins σ H s)
    (h : ta σ H fun x H1 => tb σ H1 fun y H2 => R x y H2) {Q : Value → Shared → Prop} {f : Value → Value → Sem Value}
    (hf : ∀ v u s2 x y H2, Inv X pins σ H2 s2 → RelV x v → RelV y u → R x y H2 → wpAny (model X.prog X.w) X.A (f v u) Q X.xe s2) :
    wpAny (model X.prog X.w) X.A (eval a X.env) (fun v s₁ => wpAny (model X.prog X.w) X.A (eval b X.env) (fun u s₂ => wpAny (model X.prog X.w) X.A (f v u) Q X.xe s₂) X.xe s₁) X.xe s := by
  refine thn (ha pins s σ H _ I h) fun v s1 ⟨x, H1, I1, r1, q1⟩ => ?_
  refine thn (hb pins s1 σ H1 _ I1 q1) fun u s2 ⟨y, H2, I2, r2, q2⟩ => ?_
  exact hf v u s2 x y H2 I2 r1 r2 q2
theorem pe_op {op : Operator} {r : R2} (ho : OpR X (binaryOp op) r) (ha : PE X a ta) (hb : PE X b tb) : PE X (.BinOp a op b pos) (tOp r ta tb) := by
  intro pins s σ H Q I h
  exact wpAny_BinOp (binT ha hb I h fun v u s2 x y H2 I2 rx ry q => ho pins s2 σ H2 x y v u Q I2 rx ry q)
theorem pe_un {op : UnaryOp} {r : V → Hp → VK → Prop} (ho : UnR X (unaryOp op) r) (ha : PE X a ta) : PE X (.UnaryOp op a pos) (tUn r ta) := by
  intro pins s σ H Q I h
  exact UnaryOp_ (thn (ha pins s σ H _ I h) fun v s1 ⟨x, H1, I1, r1, q1⟩ => ho pins s1 σ H1 x v Q I1 r1 q1)
theorem opI {f : Value → Value → Sem Value} {C : Int → Int → Prop} {g : Int → Int → Int}
    (rule : ∀ (i j : Int) (t u : Tok) (s : Shared) (Q : Value → Shared → Prop) (E : Value → Shared → Prop), C i j → Q (.int (g i j) s.toks) { s with toks := s.toks + 1 } → wpAny (model X.prog X.w) X.A (f (.int i t) (.int j u)) Q E s) :
    OpR X f (rI C fun i j => .int (g i j)) := by
  intro pins s σ H x y v u Q I rx ry h
  obtain ⟨i, j, rfl, rfl, hc, q⟩ := h
  obtain ⟨t, rfl⟩ := rx
  obtain ⟨t', rfl⟩ := ry
  exact rule i j t t' s _ _ hc ⟨.int (g i j), H, I.tok _, ⟨_, rfl⟩, q⟩
theorem opI0 {f : Value → Value → Sem Value} {g : Int → Int → Int}
    (rule : ∀ (i j : Int) (t u : Tok) (s : Shared) (Q : Value → Shared → Prop) (E : Value → Shared → Prop), Q (.int (g i j) s.toks) { s with toks := s.toks + 1 } → wpAny (model X.prog X.w) X.A (f (.int i t) (.int j u)) Q E s) :
    OpR X f (rI0 fun i j => .int (g i j)) := by
  intro pins s σ H x y v u Q I rx ry h
  obtain ⟨i, j, rfl, rfl, q⟩ := h
  obtain ⟨t, rfl⟩ := rx
  obtain ⟨t', rfl⟩ := ry
  exact rule i j t t' s _ _ ⟨.int (g i j), H, I.tok _, ⟨_, rfl⟩, q⟩
theorem opB0 {f : Value → Value → Sem Value} {g : Int → Int → Bool}
    (rule : ∀ (i j : Int) (t u : Tok) (s : Shared) (Q : Value → Shared → Prop) (E : Value → Shared → Prop), Q (.bool (g i j)) s → wpAny (model X.prog X.w) X.A (f (.int i t) (.int j u)) Q E s) :
    OpR X f (rI0 fun i j => .bl (g i j)) := by
  intro pins s σ H x y v u Q I rx ry h
  obtain ⟨i, j, rfl, rfl, q⟩ := h
  obtain ⟨t, rfl⟩ := rx
  obtain ⟨t', rfl⟩ := ry
  exact rule i j t t' s _ _ ⟨.bl (g i j), H, I, rfl, q⟩
def CDiv (i j : Int) : Prop := 0 < j ∧ j < 1073741824
def CPow (i j : Int) : Prop := 0 ≤ j ∧ j ≤ 1000000 ∧ i.natAbs < 2 ^ 64
def CMul (i j : Int) : Prop := (-(2 ^ 64) < i ∧ i < 2 ^ 64) ∨ (-(2 ^ 64) < j ∧ j < 2 ^ 64)
theorem CMul.ok {i j : Int} (h : CMul i j) : IntMulOk i j := by
  rcases h with ⟨h1, h2⟩ | ⟨h1, h2⟩
  · exact .of_left (intBits_le_64 h1 h2)
  · exact .of_right (intBits_le_64 h1 h2)
theorem op_add : OpR X (binaryOp .Add) (rI0 fun i j => .int (i + j)) := opI0 fun _ _ _ _ _ _ _ q => add_int q
theorem op_sub : OpR X (binaryOp .Sub) (rI0 fun i j => .int (i - j)) := opI0 fun _ _ _ _ _ _ _ q => sub_int q
theorem op_mul : OpR X (binaryOp .Mult) (rI CMul fun i j => .int (i * j)) := opI fun _ _ _ _ _ _ _ hc q => mul_int q hc.ok
theorem op_fdiv : OpR X (binaryOp .FloorDiv) (rI CDiv fun i j => .int (i / j)) := opI fun i j _ _ _ _ _ hc q => by
  have h1 : (0 : Int) < j := hc.1
  have h2 : j < 1073741824 := hc.2
  exact floordiv_int (by omega) (by rw [Int.fdiv_eq_ediv_of_nonneg i (by omega)]; exact q) (.inl (PyProof.noPylong_small (by omega)))
theorem op_mod : OpR X (binaryOp .Mod) (rI (fun _ j => 0 < j) fun i j => .int (i % j)) := opI fun i j _ _ _ _ _ hc q => by
  have h1 : (0 : Int) < j := hc
  exact mod_int' (by omega) (by rw [Int.fmod_eq_emod_of_nonneg i (by omega)]; exact q)
theorem op_pow : OpR X (binaryOp .Pow) (rI CPow fun i j => .int (i ^ j.toNat)) := opI fun _ _ _ _ _ _ _ hc q => pow_int_small hc.1 hc.2.1 hc.2.2 q
theorem unI {f : Value → Sem Value} {g : Int → Int}
    (rule : ∀ (i : Int) (t : Tok) (s : Shared) (Q : Value → Shared → Prop) (E : Value → Shared → Prop), Q (.int (g i) s.toks) { s with toks := s.toks + 1 } → wpAny (model X.prog X.w) X.A (f (.int i t)) Q E s) :
    UnR X f (rU fun i => .int (g i)) := by
  intro pins s σ H x v Q I rx h
  obtain ⟨i, rfl, q⟩ := h
  obtain ⟨t, rfl⟩ := rx
  exact rule i t s _ _ ⟨.int (g i), H, I.tok _, ⟨_, rfl⟩, q⟩
theorem un_neg : UnR X (unaryOp .USub) (rU fun i => .int (-i)) := unI fun _ _ _ _ _ q => neg_int q
end
def scal : V → V → Bool
  | .non, .non => true | .non, .int _ => true | .int _, .non => true | .non, .bl _ => true | .bl _, .non => true | .non, .str _ => true | .str _, .non => true
  | .int _, .int _ => true | .bl _, .bl _ => true | .str _, .str _ => true | .byt _, .byt _ => true
  | .int _, .str _ => true | .str _, .int _ => true | .bl _, .str _ => true | .str _, .bl _ => true
  | _, _ => false
def rEq : R2 := fun x y H Q => scal x y = true ∧ Q (.bl (decide (x = y))) H
theorem dec_int {i j : Int} : decide (V.int i = V.int j) = (i == j) := by
  rw [Bool.eq_iff_iff]
  simp
theorem dec_bl {i j : Bool} : decide (V.bl i = V.bl j) = (i == j) := by
  rw [Bool.eq_iff_iff]
  simp
theorem dec_str {i j : Str} : decide (V.str i = V.str j) = (i == j) := by
  rw [Bool.eq_iff_iff]
  simp
theorem dec_byt {i j : Array UInt8} : decide (V.byt i = V.byt j) = (i.toList == j.toList) := by
  rw [Bool.eq_iff_iff]
  cases i
  cases j
  simp
section
variable {X : Cx} {a b c : Expr} {ta tb tc : TE} {pos : Pos}
theorem fin_bl {pins : List (Addr × Obj)} {σ : St} {H : Hp} {s : Shared} {Q : VK} {k k' : Bool} (I : Inv X pins σ H s) (q : Q (.bl k) H) (e : k = k') : EP X pins σ Q (.bool k') s := by
  subst e
  exact ⟨.bl k, H, I, rfl, q⟩
theorem op_eq : OpR X (compareOp .Eq) rEq := by
  intro pins s σ H x y v u Q I rx ry h
  obtain ⟨hs, q⟩ := h
  cases x with
  | non =>
    cases rx
    cases y with
    | non => cases ry; exact PySem.EqNone.eq_none_none (fin_bl I q (by simp))
    | bl j => cases ry; exact PySem.EqNone.eq_none_bool (fin_bl I q (by simp))
    | int j => obtain ⟨t', rfl⟩ := ry; exact PySem.EqNone.eq_none_int (fin_bl I q (by simp))
    | str j => obtain ⟨t', rfl⟩ := ry; exact PySem.EqNone.eq_none_str (fin_bl I q (by simp))
    | _ => exact absurd (show false = true from hs) Bool.false_ne_true
  | bl i =>
    cases rx
    cases y with
    | non => cases ry; exact PySem.EqNone.eq_bool_none (fin_bl I q (by simp))
    | bl j => cases ry; exact eq_bool (fin_bl I q dec_bl)
    | str j => obtain ⟨t', rfl⟩ := ry; exact PySem.EqMixed.eq_bool_str (fin_bl I q (by simp))
    | _ => exact absurd (show false = true from hs) Bool.false_ne_true
  | int i =>
    obtain ⟨t, rfl⟩ := rx
    cases y with
    | non => cases ry; exact PySem.EqNone.eq_int_none (fin_bl I q (by simp))
    | int j => obtain ⟨t', rfl⟩ := ry; exact eq_int (fin_bl I q dec_int)
    | str j => obtain ⟨t', rfl⟩ := ry; exact PySem.EqMixed.eq_int_str (fin_bl I q (by simp))
    | _ => exact absurd (show false = true from hs) Bool.false_ne_true
  | str i =>
    obtain ⟨t, rfl⟩ := rx
    cases y with
    | non => cases ry; exact PySem.EqNone.eq_str_none (fin_bl I q (by simp))
    | bl j => cases ry; exact PySem.EqMixed.eq_str_bool (fin_bl I q (by simp))
    | int j => obtain ⟨t', rfl⟩ := ry; exact PySem.EqMixed.eq_str_int (fin_bl I q (by simp))
    | str j => obtain ⟨t', rfl⟩ := ry; exact eq_str (fin_bl I q dec_str)
    | _ => exact absurd (show false = true from hs) Bool.false_ne_true
  | byt i =>
    obtain ⟨t, rfl⟩ := rx
    cases y with
    | byt j => obtain ⟨t', rfl⟩ := ry; exact PySem.W.eq_bytes (fin_bl I q dec_byt)
    | _ => exact absurd (show false = true from hs) Bool.false_ne_true
  | _ => cases y <;> exact absurd (show false = true from hs) Bool.false_ne_true
theorem op_lt : OpR X (compareOp .Lt) (rI0 fun i j => .bl (decide (i < j))) := opB0 fun _ _ _ _ _ _ _ q => lt_int q
theorem op_le : OpR X (compareOp .LtE) (rI0 fun i j => .bl (decide (i ≤ j))) := opB0 fun _ _ _ _ _ _ _ q => le_int q
theorem op_gt : OpR X (compareOp .Gt) (rI0 fun i j => .bl (decide (j < i))) := opB0 fun _ _ _ _ _ _ _ q => gt_int q
theorem op_in_str : OpR X (compareOp .In) (fun x y H Q => ∃ i j, x = .str i ∧ y = .str j ∧ Q (.bl (!(Builtin.Str.occurrences j i 0 j.length 1).isEmpty)) H) := by
  intro pins s σ H x y v u Q I rx ry h
  obtain ⟨i, j, rfl, rfl, q⟩ := h
  obtain ⟨t, rfl⟩ := rx
  obtain ⟨t', rfl⟩ := ry
  exact in_str (fin_bl I q rfl)
theorem nomark (b : Expr) {op : CmpOp} (h : op ≠ .In := by decide) (h2 : op ≠ .NotIn := by decide) : behindInMarks op b = false := by
  have e1 : (op == CmpOp.In) = false := by cases op <;> first | rfl | exact absurd rfl h
  have e2 : (op == CmpOp.NotIn) = false := by cases op <;> first | rfl | exact absurd rfl h2
  cases b <;> simp [behindInMarks, e1, e2]
theorem pe_cmpR {op : CmpOp} {r : R2} (ho : OpR X (compareOp op) r) (ha : PE X a ta) (hb : PE X b tb) (hm : behindInMarks op b = false) : PE X (.Compare a [op] [b] pos) (tOp r ta tb) := by
  intro pins s σ H Q I h
  exact wpAny_Compare1 (binT ha hb I h fun v u s2 x y H2 I2 rx ry q => ho pins s2 σ H2 x y v u Q I2 rx ry q) hm
def tTest (t : TE) : TT := fun σ H Q => t σ H fun x H' => ∃ k, x = .bl k ∧ Q k H'
theorem pt_cmpR {op : CmpOp} {r : R2} (ho : OpR X (compareOp op) r) (ha : PE X a ta) (hb : PE X b tb) (hm : behindInMarks op b = false) : PT X (.Compare a [op] [b] pos) (tTest (tOp r ta tb)) := by
  intro pins s σ H Q I h
  refine wpAny_isTrue_Compare1 (thn (ha pins s σ H _ I h) fun v s1 ⟨x, H1, I1, r1, q1⟩ => thn (hb pins s1 σ H1 _ I1 q1) fun u s2 ⟨y, H2, I2, r2, q2⟩ =>
    thn (ho pins s2 σ H2 x y v u _ I2 r1 r2 q2) fun c s3 ⟨z, H3, I3, r3, k, e, q3⟩ => ?_) hm
  subst e
  cases r3
  exact wpAny_truthy_bool ⟨H3, I3, q3⟩
def tChain (r r' : R2) (ta tb tc : TE) : TE := fun σ H Q => ta σ H fun x H1 => tb σ H1 fun y H2 => r x y H2 fun z H3 => ∃ k, z = .bl k ∧
  (if k = true then tc σ H3 fun w' H4 => r' y w' H4 Q else Q (.bl false) H3)
theorem pe_chain {op op' : CmpOp} {r r' : R2} (ho : OpR X (compareOp op) r) (ho' : OpR X (compareOp op') r') (ha : PE X a ta) (hb : PE X b tb) (hc : PE X c tc)
    (hm : lastMarks [op, op'] [b, c] = false := by with_unfolding_all rfl) : PE X (.Compare a [op, op'] [b, c] pos) (tChain r r' ta tb tc) := by
  intro pins s σ H Q I h
  refine Compare_chain (thn (ha pins s σ H _ I h) fun v s1 ⟨x, H1, I1, r1, q1⟩ => chain_link (thn (hb pins s1 σ H1 _ I1 q1) fun u s2 ⟨y, H2, I2, r2, q2⟩ =>
    thn (ho pins s2 σ H2 x y v u _ I2 r1 r2 q2) fun d s3 ⟨z, H3, I3, r3, k, e, q3⟩ => ?_)) hm
  subst e
  cases r3
  refine wpAny_truthy_bool ?_
  cases k with
  | false => exact ite_ff ⟨.bl false, H3, I3, rfl, q3⟩
  | true => exact ite_tt (chain_last (thn (hc pins s3 σ H3 _ I3 q3) fun w' s4 ⟨z', H4, I4, r4, q4⟩ => ho' pins s4 σ H4 y z' u w' Q I4 r2 r4 q4))
theorem pt_chain {op op' : CmpOp} {r r' : R2} (ho : OpR X (compareOp op) r) (ho' : OpR X (compareOp op') r') (ha : PE X a ta) (hb : PE X b tb) (hc : PE X c tc)
    (hm : lastMarks [op, op'] [b, c] = false := by with_unfolding_all rfl) : PT X (.Compare a [op, op'] [b, c] pos) (tTest (tChain r r' ta tb tc)) := by
  intro pins s σ H Q I h
  refine isTrue_chain (thn (ha pins s σ H _ I h) fun v s1 ⟨x, H1, I1, r1, q1⟩ => test_link (thn (hb pins s1 σ H1 _ I1 q1) fun u s2 ⟨y, H2, I2, r2, q2⟩ =>
    thn (ho pins s2 σ H2 x y v u _ I2 r1 r2 q2) fun d s3 ⟨z, H3, I3, r3, k, e, q3⟩ => ?_)) hm
  subst e
  cases r3
  refine wpAny_truthy_bool ?_
  cases k with
  | false =>
    obtain ⟨k', e', q'⟩ := q3
    cases e'
    exact ite_ff ⟨H3, I3, q'⟩
  | true =>
    refine ite_tt (test_last (thn (hc pins s3 σ H3 _ I3 q3) fun w' s4 ⟨z', H4, I4, r4, q4⟩ => thn (ho' pins s4 σ H4 y z' u w' _ I4 r2 r4 q4) fun d' s5 ⟨z2, H5, I5, r5, k2, e2, q5⟩ => ?_))
    subst e2
    cases r5
    exact wpAny_truthy_bool ⟨H5, I5, q5⟩
def TruV (K : PySem.W.Frag) (x : V) (H : Hp) (k : Bool) : Prop :=
  match x with
  | .non => k = false
  | .bl b => k = b
  | .int i => k = (i != 0)
  | .str y => y.length ≤ sizeLine ∧ k = ((y.length : Int) != 0)
  | .byt y => y.size ≤ sizeLine ∧ k = ((y.size : Int) != 0)
  | .ref p => (∃ xs, SqL K H p xs ∧ k = !xs.isEmpty) ∨ (∃ xs, SqT K H p xs ∧ k = !xs.isEmpty) ∨ ∃ kvs, H p = some (.dK kvs) ∧ k = !kvs.isEmpty
  | _ => False
theorem isEmpty_kv {κ : Type} {kvs : List (κ × V)} {vs : List (κ × Value)} (r : KV kvs vs) : (!vs.isEmpty) = !kvs.isEmpty := by
  cases r <;> rfl
theorem isEmpty_of {xs : List V} {its : List Value} (r : Vals xs its) : (!its.toArray.isEmpty) = !xs.isEmpty := by
  cases r <;> simp
theorem line63 : (sizeLine : Nat) < 2 ^ 63 := by rw [sizeLine_eq]; decide
theorem tru_ok : TruR X (fun x H Q => ∃ k, TruV X.K x H k ∧ Q k H) := by
  intro pins s σ H x v Q I rx h
  obtain ⟨k, e, q⟩ := h
  have hl := line63
  have hs : sizeLine = 16777216 := sizeLine_eq
  cases x with
  | non =>
    cases rx
    have e' : k = false := e
    subst e'
    exact truthy_none ⟨H, I, q⟩
  | bl b =>
    cases rx
    have e' : k = b := e
    subst e'
    exact wpAny_truthy_bool ⟨H, I, q⟩
  | int i =>
    obtain ⟨t, rfl⟩ := rx
    have e' : k = (i != 0) := e
    subst e'
    exact PySem.P.truthy_int ⟨H, I, q⟩
  | str y =>
    obtain ⟨t, rfl⟩ := rx
    obtain ⟨hy, e'⟩ : y.length ≤ sizeLine ∧ k = ((y.length : Int) != 0) := e
    subst e'
    exact PySem.P.truthy_str (by omega) ⟨H, I.tok _, q⟩
  | byt y =>
    obtain ⟨t, rfl⟩ := rx
    obtain ⟨hy, e'⟩ : y.size ≤ sizeLine ∧ k = ((y.size : Int) != 0) := e
    subst e'
    exact PySem.W.truthy_bytes (by omega) ⟨H, I.tok _, q⟩
  | ref p =>
    cases rx
    have e' : (∃ xs, SqL X.K H p xs ∧ k = !xs.isEmpty) ∨ (∃ xs, SqT X.K H p xs ∧ k = !xs.isEmpty) ∨ ∃ kvs, H p = some (.dK kvs) ∧ k = !kvs.isEmpty := e
    rcases e' with ⟨xs, hx, e'⟩ | ⟨xs, hx, e'⟩ | ⟨kvs, hx, e'⟩
    · subst e'
      obtain ⟨its, r, pl, hz⟩ := I.list hx
      have hlen := r.length
      exact wpAny_truthy_list pl.isList (by simp only [List.size_toArray]; omega) ⟨H, I.tok _, by rw [isEmpty_of r]; exact q⟩
    · subst e'
      obtain ⟨its, r, pl, hz⟩ := I.tuple hx
      have hlen := r.length
      exact truthy_tuple pl (by simp only [List.size_toArray]; omega) ⟨H, I.tok _, by rw [isEmpty_of r]; exact q⟩
    · subst e'
      obtain ⟨hz, hS, vs, r, m⟩ : kvs.length ≤ sizeLine ∧ (p == sysModules) = false ∧ ∃ vs, KV kvs vs ∧ s.heap.DictOf (mixKind X.prog X.w) p vs := I.hok p _ hx
      have hlen : kvs.length = vs.length := Paired.length r
      exact wpAny_truthy_dict hS m (by omega) ⟨H, I.tok _, by rw [isEmpty_kv r]; exact q⟩
  | _ => exact (show False from e).elim
theorem pt_truth (ha : PE X a ta) (he : ∀ whole, isTrue a X.env whole = (do let v ← whole; standAt a.pos; holding [v] (truthy v))) :
    PT X a (fun σ H Q => ta σ H fun x H' => ∃ k, TruV X.K x H' k ∧ Q k H') := by
  intro pins s σ H Q I h
  exact isTrue_plain (thn (ha pins s σ H _ I h) fun v s1 ⟨x, H1, I1, r1, q1⟩ => tru_ok pins s1 σ H1 x v Q I1 r1 q1) (he _)
theorem vals1 {x : V} {us : List Value} (r : Vals [x] us) : ∃ u, us = [u] ∧ RelV x u := by
  cases r with
  | cons r1 r2 => cases r2; exact ⟨_, rfl, r1⟩
theorem vals2 {x y : V} {us : List Value} (r : Vals [x, y] us) : ∃ u w', us = [u, w'] ∧ RelV x u ∧ RelV y w' := by
  cases r with
  | cons r1 r2 =>
    cases r2 with
    | cons r3 r4 => cases r4; exact ⟨_, _, rfl, r1, r3⟩
theorem call_str_int : CallR X (.type "str") (fun xs H Q => ∃ i, xs = [.int i] ∧ i.natAbs.log2 < 1920 ∧ Q (.str (toString i)) H) := by
  intro pins s σ H xs us Q I r h
  obtain ⟨i, rfl, hz, q⟩ := h
  obtain ⟨u, rfl, t, rfl⟩ := vals1 r
  exact PySem.P.str_of_int hz ⟨.str _, H, I.tok _, ⟨_, rfl⟩, q⟩
end
end L2
namespace L2
open PySem PySem.Spec PyProof.Rows
section
variable {prog : Program} {w : World} {A : Around} {E : Value → Shared → Prop} {s : Shared} {K : PySem.W.Frag} {x dx C f : Addr} {mA : Str → Option Value} {name : Str} {v : Value}
end
theorem RelO.some_of {v : V} {o : Option Value} (r : RelO (some v) o) : ∃ u, o = some u ∧ RelV v u := by
  cases o with
  | none => exact (show False from r).elim
  | some u => exact ⟨u, rfl, r⟩
section
variable {P : Program} {w : World} {H H' : Hp} {h h' : Heap} {a C dx : Addr} {fs fs' : List (Str × V)}
end
structure Cls (K : PySem.W.Frag) (C : Addr) : Prop where
  pg : PySem.W.plainGet K C Str.empty = true
  hd : PySem.W.hasDictIn K C = true
  po : PySem.W.plainOver K C = true
  sa : PySem.W.findIn K (.ref C) "__setattr__" = some (some (.builtin "object.__setattr__"))
theorem Cls.get {K : PySem.W.Frag} {C : Addr} (c : Cls K C) (f : Str) : PySem.W.plainGet K C f = true := c.pg
section
variable {X : Cx} {pins : List (Addr × Obj)} {σ : St} {H : Hp} {s : Shared} {a C dx : Addr} {fs : List (Str × V)} {f : Str} {v : V} {A : Around} {E : Value → Shared → Prop}
end
section
variable {X : Cx} {o e value : Expr} {f : Str} {pos pos' tpos : Pos} {ta tv : TE}
end
section
variable {X : Cx} {pins : List (Addr × Obj)} {σ : St} {H : Hp} {s : Shared} {A : Around} {E : Value → Shared → Prop} {Q : Value → Shared → Prop} {c : Value} {b : Bool}
end
end L2
namespace L2
open PySem PySem.Spec PyProof.Rows
structure Room (k : Nat) (A : Around) : Prop where
  hd : A.handled = none
  dp : A.depth + 3 * k + 5 < recursionLimit
  un : A.units + 16 * k + 200 < cLine
theorem Room.mono {j k : Nat} {A : Around} (r : Room k A) (h : j ≤ k) : Room j A := ⟨r.hd, by have := r.dp; omega, by have := r.un; omega⟩
theorem Room.deeper {k : Nat} {A : Around} (r : Room (k + 1) A) (env : Env) : Room k (A.deeper env) :=
  ⟨r.hd, by have := r.dp; show A.depth + 1 + 3 * k + 5 < _; omega, by have := r.un; show A.units + 3 + 16 * k + 200 < _; omega⟩
theorem Room.in1 {k : Nat} {A : Around} (r : Room (k + 1) A) : Room k A.in1 :=
  ⟨r.hd, by have := r.dp; show A.depth + 3 * k + 5 < _; omega, by have := r.un; show A.units + 1 + 16 * k + 200 < _; omega⟩
theorem Room.depth {k : Nat} {A : Around} (r : Room k A) : A.depth < recursionLimit := by have := r.dp; omega
theorem Room.units {k : Nat} {A : Around} (r : Room k A) : A.units + 64 < cLine := by have := r.un; omega
def tNil : TA := fun _ H Q => Q [] H
def tCons (ta : TE) (tr : TA) : TA := fun σ H Q => ta σ H fun x H1 => tr σ H1 fun xs H2 => Q (x :: xs) H2
section
variable {X : Cx} {e : Expr} {es : List Expr} {te : TE} {t : TA} {pos : Pos}
theorem pa_nil : PA X [] tNil := fun _ _ _ _ H Q I h => Calls.spliced_nil ⟨[], H, I, .nil, h⟩
theorem pa_cons (ha : PE X e te) (hr : PA X es t) (hs : starEach (e :: es) X.env = (false, eval e X.env) :: starEach es X.env := by rfl) : PA X (e :: es) (tCons te t) := by
  intro pos pins s σ H Q I h
  rw [hs]
  show wpAny _ _ (spliced ((false, eval e X.env) :: backTo pos (starEach es X.env))) _ _ s
  refine Calls.spliced_cons (thn (ha pins s σ H _ I h) fun u s1 ⟨x, H1, I1, r1, q1⟩ => ?_)
  exact thn (hr pos pins s1 σ H1 _ I1 q1) fun us s2 ⟨xs, H2, I2, r2, q2⟩ => ⟨x :: xs, H2, I2, .cons r1 r2, q2⟩
def tTup (t : TA) : TE := fun σ H Q => t σ H fun xs H1 => xs.length ≤ sizeLine ∧ ∀ p, H1 p = none → Q (.ref p) (upd H1 p (.tup xs))
def tLst (t : TA) : TE := fun σ H Q => t σ H fun xs H1 => xs.length ≤ sizeLine ∧ ∀ p, H1 p = none → Q (.ref p) (upd H1 p (.lst xs))
theorem pe_tup {x1} (h : PA X es t) : PE X (.Tuple es x1 pos) (tTup t) := by
  intro pins s σ H Q I hq
  refine wpAny_Tuple_spliced (thn (h pos pins s σ H _ I hq) fun us s1 ⟨xs, H1, I1, r, z, q⟩ => ⟨by rw [← r.length]; exact z, ?_⟩)
  have hf : H1 s1.heap.objs.size = none := I1.hok.fresh (Nat.le_refl _)
  refine ⟨.ref s1.heap.objs.size, upd H1 s1.heap.objs.size (.tup xs), I1.laid (t' := s1.toks) (fun b u e => Heap.get?_push_of_some _ e) (Nat.le_refl _) ?_, rfl, q _ hf⟩
  exact ⟨z, us, r, ⟨_, Heap.get?_push_size _ rfl, rfl, _, rfl⟩⟩
theorem pe_lst (h : PA X es t) : PE X (.List es pos) (tLst t) := by
  intro pins s σ H Q I hq
  refine wpAny_List_spliced (thn (h pos pins s σ H _ I hq) fun us s1 ⟨xs, H1, I1, r, z, q⟩ => ⟨by rw [← r.length]; exact z, ?_⟩)
  have hf : H1 s1.heap.objs.size = none := I1.hok.fresh (Nat.le_refl _)
  refine ⟨.ref s1.heap.objs.size, upd H1 s1.heap.objs.size (.lst xs), I1.laid (t' := s1.toks) (fun b u e => Heap.get?_push_of_some _ e) (Nat.le_refl _) ?_, rfl, q _ hf⟩
  exact ⟨z, us, 0, r, Heap.get?_push_size _ rfl⟩
end
abbrev Sp := List V → Hp → VK → XK → Prop
abbrev CXT := List Env → Hp → Shared → XK → Value → Shared → Prop
structure Env0 (P : Program) (w : World) (K : PySem.W.Frag) (mg : Str → Option Value) (base : Heap) (A : Around) (outer : List Env) (s : Shared) (H : Hp) : Prop where
  frames : A.frames = some outer
  mod : Mod K mg base
  bs : ∀ b o, base.get? b = some o → s.heap.get? b = some o ∧ H b = none
  bsz : base.objs.size ≤ s.heap.objs.size
  funs : s.heap.FunFrames base outer
  frf : ∀ b ∈ frs outer, H b = none
  hok : HOk P w H s.heap
  bare : AllBare s.gens
def CE (outer : List Env) (P : Program) (w : World) (H : Hp) (s : Shared) (Q : VK) (u : Value) (s' : Shared) : Prop :=
  ∃ v H', s'.os = s.os ∧ AllBare s'.gens ∧ Un (frs outer) [] H H' s.heap s'.heap ∧ HOk P w H' s'.heap ∧ RelV v u ∧ Q v H'
def CR (CX : CXT) (outer : List Env) (P : Program) (w : World) (H : Hp) (s : Shared) (Q : VK) (E : XK) (r : Result) (s' : Shared) : Prop :=
  match r with
  | .ok (.ret u) => CE outer P w H s Q u s'
  | .ok _ => False
  | .error e => CX outer H s E e s'
structure FnOk (P : Program) (w : World) (K : PySem.W.Frag) (mg : Str → Option Value) (base : Heap) (CX : CXT) (k : Nat) (f : Addr) (fd : FuncData) (ps : List Str) (sp : Sp) : Prop where
  len : ∀ vs H Q E, sp vs H Q E → vs.length = ps.length
  run : ∀ (A : Around) (outer : List Env) (s : Shared) (H : Hp) (args : Args) (us : List Value) (vs : List V) (Q : VK) (E : XK), Room k A → Env0 P w K mg base A outer s H → BindsTo s fd args (ps.zip us) → Vals vs us → sp vs H Q E →
    codeAny (model P w) A (.call (.ref f) args) (CR CX outer P w H s Q E) s
theorem FnOk.mono {P : Program} {w : World} {K : PySem.W.Frag} {mg : Str → Option Value} {base : Heap} {CX : CXT} {j k : Nat} {f : Addr} {fd : FuncData} {ps : List Str} {sp : Sp} (F : FnOk P w K mg base CX j f fd ps sp) (h : j ≤ k) :
    FnOk P w K mg base CX k f fd ps sp := ⟨F.len, fun A outer s H args us vs Q E hr => F.run A outer s H args us vs Q E (hr.mono h)⟩
theorem FnOk.imp {P : Program} {w : World} {K : PySem.W.Frag} {mg : Str → Option Value} {base : Heap} {CX : CXT} {k : Nat} {f : Addr} {fd : FuncData} {ps : List Str} {sp sp' : Sp} (F : FnOk P w K mg base CX k f fd ps sp)
    (h : ∀ vs H Q E, sp' vs H Q E → sp vs H Q E) : FnOk P w K mg base CX k f fd ps sp' :=
  ⟨fun vs H Q E q => F.len vs H Q E (h _ _ _ _ q), fun A outer s H args us vs Q E hr he hb hv hs => F.run A outer s H args us vs Q E hr he hb hv (h _ _ _ _ hs)⟩
theorem Env0.in1 {P : Program} {w : World} {K : PySem.W.Frag} {mg : Str → Option Value} {base : Heap} {A : Around} {outer : List Env} {s : Shared} {H : Hp} (e : Env0 P w K mg base A outer s H) :
    Env0 P w K mg base A.in1 outer s H := ⟨e.frames, e.mod, e.bs, e.bsz, e.funs, e.frf, e.hok, e.bare⟩
section
variable {X : Cx} {pins : List (Addr × Obj)} {σ : St} {H : Hp} {s s' : Shared}
theorem Inv.env0 (I : Inv X pins σ H s) : Env0 X.prog X.w X.K X.mg X.base X.A X.stack s H :=
  ⟨I.ok.frames, I.ok.mod, I.bs, Nat.le_trans I.ok.bsz I.sz, I.stack, I.stkFree, I.hok, I.bare⟩
theorem Inv.after {Q : VK} {u : Value} (I : Inv X pins σ H s) (h : CE X.stack X.prog X.w H s Q u s') : EP X pins σ Q u s' := by
  obtain ⟨v, H', os, bare, un, hok, r, q⟩ := h
  obtain ⟨hh, g, d, t, os'⟩ := s'
  obtain rfl : os' = s.os := os
  exact ⟨v, H', I.call (h' := hh) (g' := g) (d' := d) (t' := t) (ch := []) un hok bare (fun b z => absurd z (by simp)), r, q⟩
end
def tCall (sp : Sp) (dvs : List V) (E : XK) (t : TA) : TE := fun σ H Q => t σ H fun vs H1 => sp (vs ++ dvs) H1 Q E
def Binds (K : PySem.W.Frag) (fd : FuncData) (ps : List Str) (ds : List Value) : Prop :=
  ∀ (s : Shared) (us : List Value), K.In s.heap → (us ++ ds).length = ps.length → BindsTo s fd ⟨us, []⟩ (ps.zip (us ++ ds))
theorem Binds.all {K : PySem.W.Frag} {fd : FuncData} {ps : List Str} (h : ∀ us : List Value, us.length = ps.length → bindArgs fd ⟨us, []⟩ = pure (ps.zip us)) : Binds K fd ps [] := fun s us _ hl => by
  rw [List.append_nil] at hl ⊢
  exact .of_eq (h us hl)
def Passes (CX : CXT) (X : Cx) (E : XK) : Prop := ∀ (pins : List (Addr × Obj)) (σ : St) (H : Hp) (s : Shared) (e : Value) (s' : Shared), Inv X pins σ H s → CX X.stack H s E e s' → X.xe e s'
section
variable {X : Cx} {CX : CXT} {k : Nat} {f C : Addr} {fd : FuncData} {ps : List Str} {sp : Sp} {dvs : List V} {ds : List Value} {E : XK} {x m : Str} {p pos apos : Pos} {e o : Expr} {es : List Expr} {ta : TE} {t : TA}
theorem run_fn {pins : List (Addr × Obj)} {σ : St} {H : Hp} {s : Shared} {Q : VK} {us : List Value} {vs : List V} (F : FnOk X.prog X.w X.K X.mg X.base CX k f fd ps sp) (hr : Room k X.A) (hb : Binds X.K fd ps ds) (hd : Vals dvs ds) (hx : Passes CX X E)
    (I : Inv X pins σ H s) (r : Vals vs us) (h : sp (vs ++ dvs) H Q E) : wpAny (model X.prog X.w) X.A (call (.ref f) us) (EP X pins σ Q) X.xe s := by
  have r2 : Vals (vs ++ dvs) (us ++ ds) := r.append hd
  have hl : (us ++ ds).length = ps.length := by rw [← r2.length]; exact F.len _ _ _ _ h
  refine wpAny_call (codeAny_mono (F.run X.A X.stack s H ⟨us, []⟩ (us ++ ds) (vs ++ dvs) Q E hr I.env0 (hb s us I.kIn hl) r2 h) fun r s' hq => ?_)
  cases r with
  | error e => exact hx pins σ H s e s' I hq
  | ok fl =>
    cases fl with
    | ret u => exact I.after hq
    | next => exact False.elim hq
    | brk => exact False.elim hq
    | cont => exact False.elim hq
theorem pe_call (F : FnOk X.prog X.w X.K X.mg X.base CX k f fd ps sp) (hr : Room k X.A) (hg : Gl X x) (hm : X.mg x = some (.ref f)) (hk : PySem.W.keepIn X.K (.ref f) = true) (hb : Binds X.K fd ps ds) (hd : Vals dvs ds) (hx : Passes CX X E)
    (ha : PA X (e :: es) t) (hdb : (x == ("__debug__" : Str)) = false := by decide) (he : starEach (e :: es) X.env = (false, eval e X.env) :: starEach es X.env := by rfl) (hpl : (backTo pos (starEach es X.env)).any (·.1) = false := by rfl) :
    PE X (.Call (.Name x p) (e :: es) [] pos) (tCall sp dvs E t) := by
  intro pins s σ H Q I h
  refine wpAny_Call_Name_kw (ld_glob I hg hm ?_ hdb)
  refine PySem.W.callWith_K (h₀ := X.base) I.ok.mod.kin hk (thn (ha pos pins s σ H _ I h) fun us s1 ⟨vs, H1, I1, r, q⟩ => ⟨I1.kIn, ?_⟩) he hpl
  exact run_fn F hr hb hd hx I1 r q
end
section
variable {X : Cx} {CX : CXT} {k : Nat} {f C : Addr} {fd : FuncData} {ps ks : List Str} {sp : Sp} {E : XK} {x m : Str} {p pos apos kpos : Pos} {e o : Expr} {es : List Expr} {kws : List Keyword} {te ta : TE} {t tk : TA} {nm : Option Str}
variable {g : List Value → List Value → List Value} {gV : List V → List V → List V}
end
structure FnScope (N P : List Str) (sc : Scope) : Prop where
  kind : sc.kind = .function
  co : sc.isCoroutine = false
  gen : sc.isGenerator = false
  nd : N.Nodup
  pre : N.take P.length = P
  par : ∀ x ∈ P, sc.names.lookup x = some .local ∨ sc.names.lookup x = some .cell
  nofree : ∀ y ∈ sc.names, y.2 ≠ .free
theorem bindL_out {kindOf : Str → Option NameKind} {x : Str} : ∀ {binds : List (Str × Value)} {m : Str → Option Value}, (∀ v, (x, v) ∉ binds) → bindL kindOf binds m x = m x
  | [], _, _ => rfl
  | (n, v) :: r, m, h => by
    unfold bindL
    rw [bindL_out fun w hw => h w (List.mem_cons_of_mem _ hw)]
    split
    · have : x ≠ n := by rintro rfl; exact h v List.mem_cons_self
      simp [this]
    · rfl
theorem bindC_out {kindOf : Str → Option NameKind} {x : Str} : ∀ {binds : List (Str × Value)} {m : Str → Option Value}, (∀ v, (x, v) ∉ binds) → bindC kindOf binds m x = m x
  | [], _, _ => rfl
  | (n, v) :: r, m, h => by
    unfold bindC
    rw [bindC_out fun w hw => h w (List.mem_cons_of_mem _ hw)]
    split
    · rfl
    · have : x ≠ n := by rintro rfl; exact h v List.mem_cons_self
      simp [this]
theorem bindL_get {kindOf : Str → Option NameKind} {x : Str} {v : Value} : ∀ {P : List Str} {vs : List Value} {i : Nat} {m : Str → Option Value}, P.Nodup → P[i]? = some x → vs[i]? = some v → kindOf x = some .local →
    bindL kindOf (P.zip vs) m x = some v
  | [], _, _, _, _, h, _, _ => by simp at h
  | _ :: _, [], _, _, _, _, h, _ => by simp at h
  | p :: P, w :: vs, 0, m, nd, h1, h2, hk => by
    simp at h1 h2; subst h1; subst h2
    show bindL kindOf ((p, w) :: P.zip vs) m p = _
    unfold bindL
    rw [bindL_out fun v hv => (List.nodup_cons.mp nd).1 (List.of_mem_zip hv).1, if_pos hk]
    simp
  | p :: P, w :: vs, i + 1, m, nd, h1, h2, hk => by
    show bindL kindOf ((p, w) :: P.zip vs) m x = _
    unfold bindL
    exact bindL_get (i := i) (List.nodup_cons.mp nd).2 (by simpa using h1) (by simpa using h2) hk
theorem bindC_get {kindOf : Str → Option NameKind} {x : Str} {v : Value} : ∀ {P : List Str} {vs : List Value} {i : Nat} {m : Str → Option Value}, P.Nodup → P[i]? = some x → vs[i]? = some v → kindOf x ≠ some .local →
    bindC kindOf (P.zip vs) m x = some v
  | [], _, _, _, _, h, _, _ => by simp at h
  | _ :: _, [], _, _, _, _, h, _ => by simp at h
  | p :: P, w :: vs, 0, m, nd, h1, h2, hk => by
    simp at h1 h2; subst h1; subst h2
    show bindC kindOf ((p, w) :: P.zip vs) m p = _
    unfold bindC
    rw [bindC_out fun v hv => (List.nodup_cons.mp nd).1 (List.of_mem_zip hv).1, if_neg hk]
    simp
  | p :: P, w :: vs, i + 1, m, nd, h1, h2, hk => by
    show bindC kindOf ((p, w) :: P.zip vs) m x = _
    unfold bindC
    exact bindC_get (i := i) (List.nodup_cons.mp nd).2 (by simpa using h1) (by simpa using h2) hk
def start (N : List Str) (vs : List V) : St := vs.map some ++ List.replicate (N.length - vs.length) none
def cxOf (CX : CXT) (P : Program) (w : World) (K : PySem.W.Frag) (mg : Str → Option Value) (base : Heap) (N : List Str) (qual : Str) (scope : Scope) (f : Addr) (cd : Value) (A : Around) (outer : List Env) (s : Shared) (H : Hp) (E : XK) : Cx where
  prog := P
  w := w
  K := K
  mg := mg
  base := base
  A := A.deeper (envOfC qual scope s.heap.objs.size f cd)
  N := N
  s₀ := s
  H₀ := H
  env := envOfC qual scope s.heap.objs.size f cd
  outer := outer
  stack := envOfC qual scope s.heap.objs.size f cd :: outer
  ex := []
  calm := true
  fn := fun _ => true
  pn := []
  xe := fun e s' => wpAny (model P w) (A.deeper (envOfC qual scope s.heap.objs.size f cd)) (leaving (envOfC qual scope s.heap.objs.size f cd) e) (fun _ s'' => CX outer H s E e s'') (fun e' s'' => CX outer H s E e' s'') s'
theorem cell_has {sc : Scope} {n : Nat} {x : Str} (h : sc.names.lookup x = some .cell) : ∃ c, (cellsFrom n sc.names []).lookup x = some c := by
  have q := PySem.W.cellsFrom_some sc.names n [] (.inl h)
  exact Option.isSome_iff_exists.mp q
theorem inv_start {CX : CXT} {P : Program} {w : World} {K : PySem.W.Frag} {mg : Str → Option Value} {base : Heap} {N ps : List Str} {qual : Str} {scope : Scope} {f : Addr} {cd : Value} {A : Around} {outer : List Env} {s s1 : Shared} {H : Hp} {E : XK} {us : List Value} {vs : List V}
    (S : FnScope N ps scope) (hd : A.handled = none) (e0 : Env0 P w K mg base A outer s H) (hl : vs.length = ps.length) (r : Vals vs us)
    (x : InCallC s s.heap.objs.size (bindL (envOfC qual scope s.heap.objs.size f cd).kindOf (ps.zip us) fun _ => none) (cellsFrom (s.heap.objs.size + 1) scope.names []) (bindC (envOfC qual scope s.heap.objs.size f cd).kindOf (ps.zip us) fun _ => none) s1) :
    Inv (cxOf CX P w K mg base N qual scope f cd A outer s H E) [] (start N vs) H s1 := by
  have hpl : ps.length ≤ N.length := by have := congrArg List.length S.pre; rw [List.length_take] at this; omega
  obtain ⟨h1, tk, rfl, hk⟩ := x.done
  have noA : ∀ b : Addr, b ∉ (cxOf CX P w K mg base N qual scope f cd A outer s H E).ex := fun b z => absurd (show b ∈ ([] : List Addr) from z) (by simp)
  refine ⟨⟨e0.mod, S.kind, rfl, rfl, Nat.le_refl _, fun y z c h1 h2 => ?_, fun y hy => ?_, fun y c _ h => ?_, fun _ => hd, Around.frames_deeper e0.frames, .inr ⟨rfl, rfl⟩, fun b z => absurd z (noA b), e0.bs, e0.bsz, fun b _ _ => noA b, fun b z => absurd z (noA b), e0.funs, e0.frf⟩,
    rfl, e0.bare, Un.kept hk, ⟨_, x.toInCall.ns, fun i y v h1 h2 h3 => ?_⟩, fun y c h => ⟨_, x.cell y c h⟩, e0.hok.fresh (Nat.le_refl _), fun y c h => ?_, fun p hp => absurd (show p ∈ ([] : List (Addr × Obj)) from hp) (by simp), e0.hok.kept hk, ?_⟩
  · exact name_of_addr x.apart (PySem.mem_of_lookup h1) (PySem.mem_of_lookup h2)
  · have hy : scope.names.lookup y = some .cell ∨ scope.names.lookup y = some .free := hy
    rcases hy with hy | hy
    · exact cell_has hy
    · exact absurd rfl (S.nofree _ (PySem.mem_of_lookup hy))
  · exact Nat.le_of_lt (x.above y c (PySem.mem_of_lookup h))
  · have hi : i < vs.length := by
      unfold start at h2
      by_cases hi : i < vs.length
      · exact hi
      · rw [List.getElem?_append_right (by simpa using hi)] at h2
        rw [List.getElem?_replicate] at h2
        split at h2 <;> cases h2
    have ha : vs[i]? = some v := by
      unfold start at h2
      rw [List.getElem?_append_left (by simpa using hi), List.getElem?_map] at h2
      cases e : vs[i]? with
      | none => rw [e] at h2; cases h2
      | some a => rw [e] at h2; cases h2; rfl
    obtain ⟨u, hu, rv⟩ := r.get ha
    have hp : ps[i]? = some y := by
      rw [← S.pre, List.getElem?_take_of_lt (by omega)]; exact h1
    have ndP : ps.Nodup := by rw [← S.pre]; exact S.nd.sublist (List.take_sublist _ _)
    refine ⟨u, rv, ?_⟩
    rcases S.par y (List.mem_of_getElem? hp) with k | k
    · exact .inl ⟨k, bindL_get ndP hp hu k⟩
    · obtain ⟨c, e⟩ := cell_has (n := s.heap.objs.size + 1) k
      refine .inr ⟨.inl k, c, e, ?_⟩
      have q := x.cell y c e
      rw [bindC_get ndP hp hu (by show scope.names.lookup y ≠ _; rw [k]; decide)] at q
      exact q
  · exact e0.hok.fresh (Nat.le_of_lt (x.above y c (PySem.mem_of_lookup h)))
  · unfold start
    show _ = N.length
    rw [List.length_append, List.length_map, List.length_replicate]
    omega
theorem fn_of {CX : CXT} {P : Program} {w : World} {K : PySem.W.Frag} {mg : Str → Option Value} {base : Heap} {k : Nat} {f : Addr} {name qual : Str} {params : Arguments} {body : List Stmt} {scope : Scope} {dV kV doc pm cdv ct oc : Value} {an od : Option Addr}
    {osl : Array (Option Value)} {N ps : List Str} {sp : Sp} (lk : K.lookup f = some ⟨oc, od, .func (PySem.W.fnOf name qual params body scope dV kV doc pm an cdv ct), osl⟩) (hcd : PySem.W.codeIn K cdv qual = true) (S : FnScope N ps scope)
    (len : ∀ vs H Q E, sp vs H Q E → vs.length = ps.length)
    (hbody : ∀ (A : Around) (outer : List Env) (s : Shared) (H : Hp) (vs : List V) (Q : VK) (E : XK), Room k (A.deeper (envOfC qual scope s.heap.objs.size f cdv)) → sp vs H Q E →
      ∃ t, PSs (cxOf CX P w K mg base N qual scope f cdv A outer s H E) body t ∧ t { nx := fun _ H' => Q .non H', rt := Q } (start N vs) H) :
    FnOk P w K mg base CX (k + 1) f (PySem.W.fnOf name qual params body scope dV kV doc pm an cdv ct) ps sp := by
  refine ⟨len, fun A outer s H args us vs Q E hr e0 hb r hsp => ?_⟩
  have hl := len _ _ _ _ hsp
  have KX : K.In s.heap := e0.mod.kin.keeps fun b o e => (e0.bs b o e).1
  have lim : s.heap.NoLimit := e0.mod.nolimit.keeps fun b o e => (e0.bs b o e).1
  have hkind : ∀ y ∈ ps.zip us, scope.names.lookup y.1 = some .local ∨ (scope.names.lookup y.1 = some .cell ∧ ((cellsFrom (s.heap.objs.size + 1) scope.names []).lookup y.1).isSome = true) := fun ⟨n, v⟩ hy => by
    rcases S.par n (List.of_mem_zip hy).1 with q | q
    · exact .inl q
    · exact .inr ⟨q, PySem.W.cellsFrom_some _ _ _ (.inl q)⟩
  refine codeAny_call_function hr.depth (KX _ _ lk) rfl S.co S.gen rfl (PySem.W.codeRec_of KX hcd) (hb _ _ _ _ ?_)
  refine wpAny_newFunctionEnv_cells S.kind hkind fun env he s1 x => ?_
  subst he
  refine ⟨lim.keeps x.toInCall.keep, codeAny_func ?_⟩
  obtain ⟨t, ht, hq⟩ := hbody A outer s H vs Q E (hr.deeper _) hsp
  have I : Inv (cxOf CX P w K mg base N qual scope f cdv A outer s H E) [] (start N vs) H s1 := inv_start S hr.hd e0 hl r x
  refine wpAny_mono (ht [] s1 (start N vs) H _ I hq) (fun fl s' hs => ?_) fun e s' hs => hs
  have fin : ∀ {σ' : St} {H' : Hp} {v : V} {u : Value}, Inv (cxOf CX P w K mg base N qual scope f cdv A outer s H E) [] σ' H' s' → RelV v u → Q v H' → CE outer P w H s Q u s' :=
    fun {σ' H' v u} J rv q => ⟨v, H', J.os, J.bare, J.base, J.hok, rv, q⟩
  cases fl with
  | ret u =>
    obtain ⟨v, σ', H', J, rv, q⟩ := hs
    exact fin J rv q
  | next =>
    obtain ⟨σ', H', J, q⟩ := hs
    exact fin (v := V.non) (u := Value.none) J rfl q
  | brk =>
    obtain ⟨_, _, _, q⟩ := hs
    exact False.elim q
  | cont =>
    obtain ⟨_, _, _, q⟩ := hs
    exact False.elim q
end L2
namespace L2
open PySem PySem.Spec PyProof.Rows
section
variable {X : Cx} {x : Str} {p pos : Pos} {e : Expr} {es : List Expr} {t : TA} {id T : String} {r : List V → Hp → VK → Prop}
def tCB (r : List V → Hp → VK → Prop) (t : TA) : TE := fun σ H Q => t σ H fun vs H1 => r vs H1 Q
theorem pe_callB (hc : CallR X (.builtin id) r) (hg : Gl X x) (hm : X.mg x = none) (hv : bootBuiltins x = some (.builtin id)) (ha : PA X (e :: es) t) (hn : x ≠ "__name__" := by decide) (hdb : (x == ("__debug__" : Str)) = false := by decide)
    (he : starEach (e :: es) X.env = (false, eval e X.env) :: starEach es X.env := by rfl) (hpl : (backTo pos (starEach es X.env)).any (·.1) = false := by rfl) : PE X (.Call (.Name x p) (e :: es) [] pos) (tCB r t) := by
  intro pins s σ H Q I h
  refine wpAny_Call_Name_kw (ld_blt I hg hm hv ?_ hn hdb)
  exact PyProof.Rows.callWith_builtin1 (thn (ha pos pins s σ H _ I h) fun us s1 ⟨vs, H1, I1, r1, q1⟩ => hc pins s1 σ H1 vs us Q I1 r1 q1) he hpl
theorem pe_callTy (hc : CallR X (.type T) r) (hg : Gl X x) (hm : X.mg x = none) (hv : bootBuiltins x = some (.type T)) (ha : PA X (e :: es) t) (hn : x ≠ "__name__" := by decide) (hdb : (x == ("__debug__" : Str)) = false := by decide)
    (he : starEach (e :: es) X.env = (false, eval e X.env) :: starEach es X.env := by rfl) (hpl : (backTo pos (starEach es X.env)).any (·.1) = false := by rfl) : PE X (.Call (.Name x p) (e :: es) [] pos) (tCB r t) := by
  intro pins s σ H Q I h
  refine wpAny_Call_Name_kw (ld_blt I hg hm hv ?_ hn hdb)
  exact PyProof.Rows.callWith_type1 (thn (ha pos pins s σ H _ I h) fun us s1 ⟨vs, H1, I1, r1, q1⟩ => hc pins s1 σ H1 vs us Q I1 r1 q1) he hpl
end
end L2
namespace HT
open PySem PyProof.Rows
section
open PySem.SeqAt
open PySem.AutoSeq1 (wpAny_loadPart')
open PySem.MeetsSeq PySem.MeetsSeq2 PySem.MeetsSeq3
end
section
variable {prog : Program} {w : World} {A : Around} {E : Value → Shared → Prop} {s : Shared}
theorem cat_tup {t b : Addr} {vs ws : List Value} {Q : Value → Shared → Prop} (ht : IsTup s.heap t vs.toArray) (hb : IsTup s.heap b ws.toArray) (hv : vs ≠ [])
    (h1 : ws = [] → Q (.ref t) s) (h2 : ws ≠ [] → Q (.ref s.heap.objs.size) { s with heap := s.heap.push { cls := .type "tuple", data := .seq (vs ++ ws).toArray } })
    (hsz : vs.length + ws.length ≤ sizeLine) : wpAny (model prog w) A (binaryOp .Add (.ref t) (.ref b)) Q E s := by
  obtain ⟨⟨cls, dd, data, sl⟩, ho, hc, n, hd⟩ := id ht
  obtain ⟨⟨cls2, dd2, data2, sl2⟩, ho2, hc2, n2, hd2⟩ := id hb
  simp only at hc hd hc2 hd2
  subst hc hd hc2 hd2
  have e : vs.toArray ++ ws.toArray = (vs ++ ws).toArray := by simp
  by_cases hw : ws = []
  · exact concat_meets ⟨_, ho, rfl⟩ ⟨_, ho2, rfl⟩ noFill_tuple_add seq_tuple_add PySem.F.slot_tuple_add PySem.F.entry_tuple_add (PySem.F.args_tuple_add_2 _ _)
      (tuple_addW1 t b vs.toArray ws.toArray n n2 dd dd2 sl sl2 (by simpa using hv) (by simp [hw])) ⟨ho, ho2, h1 hw⟩
  · refine concat_meets ⟨_, ho, rfl⟩ ⟨_, ho2, rfl⟩ noFill_tuple_add seq_tuple_add PySem.F.slot_tuple_add PySem.F.entry_tuple_add (PySem.F.args_tuple_add_2 _ _)
      (tuple_addW2 t b vs.toArray ws.toArray n n2 dd dd2 sl sl2 (by simpa using hv) (by simpa using hw) (by rw [List.size_toArray, List.size_toArray]; exact hsz)) ⟨ho, ho2, ?_⟩
    rw [e]
    exact h2 hw
def sIx (n d : Nat) : Option Int → Nat
  | none => d
  | some v => if v < 0 then (v + (n : Int)).toNat else min v.toNat n
theorem sIx_nat (n d k : Nat) : sIx n d (some (k : Int)) = min k n := by
  show (if (k : Int) < 0 then ((k : Int) + (n : Int)).toNat else min (k : Int).toNat n) = min k n
  rw [if_neg (by omega), Int.toNat_natCast]
end
end HT
namespace L2
open PySem PySem.Spec PyProof.Rows
abbrev TO := St → Hp → (Option Int → Hp → Prop) → Prop
def PO (X : Cx) (e : Option Expr) (t : TO) : Prop :=
  ∀ (pins : List (Addr × Obj)) (s : Shared) (σ : St) (H : Hp) (Q : Option Int → Hp → Prop), Inv X pins σ H s → t σ H Q →
    wpAny (model X.prog X.w) X.A (evalPart e X.env) (fun u s' => ∃ o H', Inv X pins σ H' s' ∧ IsPart u o ∧ Q o H') X.xe s
def tNoPart : TO := fun _ H Q => Q none H
def tPart (t : TE) : TO := fun σ H Q => t σ H fun x H1 => ∃ i, x = .int i ∧ Q (some i) H1
theorem intsAre_of {ns : List Int} : ∀ {us : List Value}, Vals (ns.map V.int) us → IntsAre us ns := by
  induction ns with
  | nil => intro us r; rw [List.map_nil] at r; cases r; exact .nil
  | cons n ns ih =>
    intro us r
    rw [List.map_cons] at r
    cases r with
    | cons r1 r2 =>
      obtain ⟨t, e⟩ := r1
      subst e
      exact .cons n t (ih r2)
section
variable {X : Cx} {e : Expr} {te : TE} {lo hi : Option Expr} {tl th : TO} {pos p2 : Pos}
theorem po_none : PO X none tNoPart := by
  intro pins s σ H Q I h
  rw [evalPart_none]
  exact wpAny_pure ⟨none, H, I, .none, h⟩
theorem po_some (h : PE X e te) : PO X (some e) (tPart te) := by
  intro pins s σ H Q I hw
  rw [evalPart_some]
  refine thn (h pins s σ H _ I hw) fun u s1 ⟨x, H1, I1, r1, q1⟩ => ?_
  obtain ⟨i, rfl, q⟩ := q1
  obtain ⟨t, rfl⟩ := r1
  exact ⟨some i, H1, I1, .int i t, q⟩
def SlR (X : Cx) (r : V → Option Int → Option Int → Hp → VK → Prop) : Prop :=
  ∀ (pins : List (Addr × Obj)) (s : Shared) (σ : St) (H : Hp) (x : V) (v vl vu : Value) (lo hi : Option Int) (sl : Addr) (Q : VK), Inv X pins σ H s → RelV x v → s.heap.IsSliceOf sl vl vu .none → IsPart vl lo → IsPart vu hi → r x lo hi H Q →
    ∃ T id, typeLookup (.type T) "__getitem__" = pure (some (.builtin id)) ∧ s.TypeIs v T ∧ wpAny (model X.prog X.w) X.A (getItem v (.ref sl)) (EP X pins σ Q) X.xe s
def tSl (r : V → Option Int → Option Int → Hp → VK → Prop) (te : TE) (tl th : TO) : TE := fun σ H Q => te σ H fun x H1 => tl σ H1 fun l H2 => th σ H2 fun u H3 => r x l u H3 Q
theorem pe_slice {r : V → Option Int → Option Int → Hp → VK → Prop} (hr : SlR X r) (he : PE X e te) (hl : PO X lo tl) (hu : PO X hi th) : PE X (.Subscript e (.Slice lo hi none p2) pos) (tSl r te tl th) := by
  intro pins s σ H Q I h
  refine Subscript_ (thn (he pins s σ H _ I h) fun v s1 ⟨x, H1, I1, r1, q1⟩ => ?_)
  refine wpAny_Slice (thn (hl pins s1 σ H1 _ I1 q1) fun vl s2 ⟨l, H2, I2, pl, q2⟩ => thn (hu pins s2 σ H2 _ I2 q2) fun vu s3 ⟨u, H3, I3, pu, q3⟩ => ?_)
  rw [evalPart_none]
  refine wpAny_pure ?_
  have I4 : Inv X pins σ H3 { s3 with heap := s3.heap.push { cls := .type "slice", data := .fields #[vl, vu, .none] } } := I3.kept (t' := s3.toks) fun b ob q => Heap.get?_push_of_some _ q
  obtain ⟨T, id, hT, ht, hg⟩ := hr pins { s3 with heap := s3.heap.push { cls := .type "slice", data := .fields #[vl, vu, .none] } } σ H3 x v vl vu l u s3.heap.objs.size Q I4 r1 (Heap.IsSliceOf.new ..) pl pu q3
  show wpAny (model X.prog X.w) X.A (subscriptTail e (.Slice lo hi none p2) v (.ref s3.heap.objs.size)) (EP X pins σ Q) X.xe { s3 with heap := s3.heap.push { cls := .type "slice", data := .fields #[vl, vu, .none] } }
  exact tail_any (ops := [.ref s3.heap.objs.size, v]) ht hT hg (by with_unfolding_all rfl)
def cutV (xs : List V) (lo hi : Option Int) : List V := (xs.drop (HT.sIx xs.length 0 lo)).take (HT.sIx xs.length xs.length hi - HT.sIx xs.length 0 lo)
theorem cutV_length (xs : List V) (lo hi : Option Int) : (cutV xs lo hi).length ≤ xs.length := by
  unfold cutV
  rw [List.length_take, List.length_drop]
  omega
def rCatT (K : PySem.W.Frag) : R2 := fun x y H Q => ∃ a b xs ys, x = .ref a ∧ y = .ref b ∧ SqT K H a xs ∧ SqT K H b ys ∧ xs ≠ [] ∧ xs.length + ys.length ≤ sizeLine ∧
  (ys = [] → Q (.ref a) H) ∧ (ys ≠ [] → ∀ p, H p = none → Q (.ref p) (upd H p (.tup (xs ++ ys))))
theorem Vals.nil_iff {xs : List V} {us : List Value} (r : Vals xs us) : us = [] ↔ xs = [] := by
  cases r with
  | nil => simp
  | cons _ _ => simp
theorem op_catT : OpR X (binaryOp .Add) (rCatT X.K) := by
  intro pins s σ H x y v u Q I rx ry h
  obtain ⟨a, b, xs, ys, rfl, rfl, ha, hb, hx, hz, q1, q2⟩ := h
  cases rx
  cases ry
  obtain ⟨its, r1, p1, _⟩ := I.tuple ha
  obtain ⟨its2, r2, p2, _⟩ := I.tuple hb
  refine HT.cat_tup p1 p2 (fun z => hx (r1.nil_iff.mp z)) (fun z => ⟨.ref a, H, I, rfl, q1 (r2.nil_iff.mp z)⟩) (fun z => ?_) (by rw [← r1.length, ← r2.length]; exact hz)
  refine ⟨.ref s.heap.objs.size, _, I.laid (t' := s.toks) (o := .tup (xs ++ ys)) (fun b ob q => Heap.get?_push_of_some _ q) (Nat.le_refl _) ?_, rfl, q2 (fun w => z (r2.nil_iff.mpr w)) _ (I.hok.fresh (Nat.le_refl _))⟩
  exact ⟨by rw [List.length_append]; exact hz, _, r1.append r2, IsTup.new _ _⟩
end
end L2
namespace L2
open PySem PySem.Spec PyProof.Rows
def ixN (n : Nat) (i : Int) : Option Nat := if 0 ≤ i then (if i < n then some i.toNat else none) else if -(n : Int) ≤ i then some (i + n).toNat else none
def atI {α : Type} (xs : List α) (i : Int) : Option α := (ixN xs.length i).bind fun j => xs[j]?
theorem ixN_seq {n : Nat} {i : Int} {j : Nat} (h : ixN n i = some j) : seqIndex? i n = some j ∧ j < n ∧ -(n : Int) ≤ i ∧ i < n := by
  unfold ixN at h
  by_cases h0 : 0 ≤ i
  · rw [if_pos h0] at h
    by_cases h1 : i < n
    · rw [if_pos h1] at h
      have e : i.toNat = j := Option.some.inj h
      exact ⟨by rw [seqIndex_of h0 h1, e], by omega, by omega, h1⟩
    · rw [if_neg h1] at h; cases h
  · rw [if_neg h0] at h
    by_cases h1 : -(n : Int) ≤ i
    · rw [if_pos h1] at h
      have e : (i + n).toNat = j := Option.some.inj h
      exact ⟨by rw [seqIndex_neg (by omega) h1, e], by omega, h1, by omega⟩
    · rw [if_neg h1] at h; cases h
theorem atI_get {α : Type} {xs : List α} {i : Int} {v : α} (h : atI xs i = some v) : ∃ j, seqIndex? i xs.length = some j ∧ xs[j]? = some v ∧ j < xs.length ∧ -(xs.length : Int) ≤ i ∧ i < xs.length := by
  unfold atI at h
  cases e : ixN xs.length i with
  | none => rw [e] at h; cases h
  | some j =>
    rw [e] at h
    obtain ⟨h1, h2, h3, h4⟩ := ixN_seq e
    exact ⟨j, h1, h, h2, h3, h4⟩
theorem atI_nat {α : Type} {xs : List α} {j : Nat} {v : α} (h : xs[j]? = some v) : atI xs (j : Int) = some v := by
  have hj : j < xs.length := (List.getElem?_eq_some_iff.mp h).1
  have e : ixN xs.length (j : Int) = some j := by
    unfold ixN
    rw [if_pos (by omega), if_pos (by omega)]; simp
  unfold atI; rw [e]; exact h
theorem atI_last {α : Type} (xs : List α) (v : α) : atI (xs ++ [v]) (-1) = some v := by
  have hl : (xs ++ [v]).length = xs.length + 1 := by simp
  have e : ixN (xs ++ [v]).length (-1) = some xs.length := by
    unfold ixN
    rw [hl, if_neg (by decide), if_pos (by omega)]
    congr 1
    omega
  unfold atI
  rw [e]
  show (xs ++ [v])[xs.length]? = some v
  simp
def PlainIx (b : Expr) : Prop := ∀ o i, subscripted b false o i = operate [o, i] (getItem o i)
def IxR (X : Cx) (r : R2) : Prop :=
  ∀ (value slice : Expr) (pins : List (Addr × Obj)) (s : Shared) (σ : St) (H : Hp) (x y : V) (v u : Value) (Q : VK), Inv X pins σ H s → RelV x v → RelV y u → r x y H Q →
    subscripted slice false v u = operate [v, u] (getItem v u) → wpAny (model X.prog X.w) X.A (subscriptTail value slice v u) (EP X pins σ Q) X.xe s
def MtR (X : Cx) (id : String) (r : V → List V → Hp → VK → Prop) : Prop :=
  ∀ (pins : List (Addr × Obj)) (s : Shared) (σ : St) (H : Hp) (x : V) (xs : List V) (v : Value) (us : List Value) (Q : VK), Inv X pins σ H s → RelV x v → Vals xs us → r x xs H Q →
    wpAny (model X.prog X.w) X.A (call (.builtin id) (v :: us)) (EP X pins σ Q) X.xe s
section
variable {X : Cx} {a b : Expr} {ta tb : TE} {pos : Pos}
theorem pe_ix {r : R2} (hr : IxR X r) (ha : PE X a ta) (hb : PE X b tb) (hs : PlainIx b) : PE X (.Subscript a b pos) (tOp r ta tb) := by
  intro pins s σ H Q I h
  exact Subscript_ (binT ha hb I h fun v u s2 x y H2 I2 rx ry q => hr a b pins s2 σ H2 x y v u Q I2 rx ry q (hs _ _))
def rIxL (K : PySem.W.Frag) : R2 := fun x y H Q => ∃ p xs i v, x = .ref p ∧ y = .int i ∧ SqL K H p xs ∧ atI xs i = some v ∧ Q v H
theorem ix_list : IxR X (rIxL X.K) := by
  intro value slice pins s σ H x y v u Q I rx ry h hs
  obtain ⟨p, xs, i, z, rfl, rfl, hq, he, q⟩ := h
  cases rx
  obtain ⟨t, rfl⟩ := ry
  obtain ⟨its, r, pl, hz⟩ := I.list hq
  obtain ⟨j, h1, h2, h3, h4, h5⟩ := atI_get he
  obtain ⟨w, ew, rw'⟩ := r.get h2
  have hl := r.length
  have hn := line63
  have fin : EP X pins σ Q w s := ⟨z, H, I, rw', q⟩
  by_cases h0 : 0 ≤ i
  · have hj : i.toNat = j := by
      rw [seqIndex_of h0 h5] at h1
      exact Option.some.inj h1
    exact item_listR pl.isList h0 (by omega) (by rw [hj]; simpa using ew) fin hs
  · have hj : (i + (its.toArray.size : Int)).toNat = j := by
      rw [seqIndex_neg (by omega) h4] at h1
      rw [List.size_toArray, ← hl]
      exact Option.some.inj h1
    exact subscriptTail_builtinR (x := w) pl.isList.typeIs slot_list_getitem.lookup
      (wpAny_getItem_list_neg (Q := fun r s' => r = w ∧ EP X pins σ Q r s') pl.isList (by omega) (by rw [List.size_toArray] <;> omega) (by omega) (by rw [hj]; simpa using ew) ⟨rfl, fin⟩) hs
theorem Inv.lst {pins : List (Addr × Obj)} {σ : St} {H : Hp} {s : Shared} {p : Addr} {xs : List V} (I : Inv X pins σ H s) (h : H p = some (.lst xs)) :
    ∃ (its : List Value) (n : Nat), Vals xs its ∧ s.heap.get? p = some { cls := .type "list", data := .seq its.toArray n } ∧ xs.length ≤ sizeLine := by
  obtain ⟨z, its, n, r, e⟩ := I.hok p _ h
  exact ⟨its, n, r, e, z⟩
theorem slice_bounds (lo hi : Option Int) (n : Nat) : (sliceBounds lo hi none n).1 = ((HT.sIx n 0 lo : Nat) : Int) ∧ (sliceBounds lo hi none n).2.1 = ((HT.sIx n n hi : Nat) : Int) ∧ (sliceBounds lo hi none n).2.2 = 1 := by
  refine ⟨?_, ?_, rfl⟩
  · cases lo with
    | none => simp [sliceBounds, HT.sIx]
    | some i =>
      simp only [sliceBounds, HT.sIx, Option.getD_none, show (1 : Int) > 0 by decide, if_true]
      by_cases h : i < 0
      · simp only [h, if_true] <;> omega
      · simp only [h, if_false] <;> omega
  · cases hi with
    | none => simp [sliceBounds, HT.sIx]
    | some i =>
      simp only [sliceBounds, HT.sIx, Option.getD_none, show (1 : Int) > 0 by decide, if_true]
      by_cases h : i < 0
      · simp only [h, if_true] <;> omega
      · simp only [h, if_false] <;> omega
theorem slicePick_cut (its : List Value) (lo hi : Option Int) : slicePick its.toArray lo hi none = ((its.drop (HT.sIx its.length 0 lo)).take (HT.sIx its.length its.length hi - HT.sIx its.length 0 lo)).toArray := by
  obtain ⟨h1, h2, h3⟩ := slice_bounds lo hi its.toArray.size
  unfold slicePick
  rw [h1, h2, h3]
  simp only [sliceRange_one, pick_run, List.size_toArray] <;> rfl
def rSlL (K : PySem.W.Frag) : V → Option Int → Option Int → Hp → VK → Prop := fun x lo hi H Q => ∃ a xs, x = .ref a ∧ SqL K H a xs ∧ ∀ p, H p = none → Q (.ref p) (upd H p (.lst (cutV xs lo hi)))
theorem sl_list : SlR X (rSlL X.K) := by
  intro pins s σ H x v vl vu lo hi sl Q I rx hs pl pu h
  obtain ⟨a, xs, rfl, hx, q⟩ := h
  cases rx
  obtain ⟨its, r, ht, hz⟩ := I.list hx
  have hlen := r.length
  refine ⟨"list", _, slot_list_getitem.lookup, ht.isList.typeIs, ?_⟩
  refine wpAny_getItem_list_slice ht.isList hs pl pu .none (by simp) ?_ (by rw [List.size_toArray] <;> omega)
  rw [slicePick_cut, ← hlen]
  refine ⟨.ref s.heap.objs.size, _, I.laid (t' := s.toks) (o := .lst (cutV xs lo hi)) (fun b ob q => Heap.get?_push_of_some _ q) (Nat.le_refl _) ?_, rfl, q _ (I.hok.fresh (Nat.le_refl _))⟩
  exact ⟨Nat.le_trans (cutV_length xs lo hi) hz, _, 0, (r.drop (HT.sIx xs.length 0 lo)).take (HT.sIx xs.length xs.length hi - HT.sIx xs.length 0 lo), Heap.get?_push_size _ rfl⟩
def flatV : V → Bool
  | .non => true
  | .bl _ => true
  | .int _ => true
  | .str _ => true
  | _ => false
def eqV : V → V → Bool
  | .non, .non => true
  | .bl a, .bl b => a == b
  | .bl a, .int b => (if a then 1 else 0) == b
  | .int a, .bl b => a == (if b then 1 else 0)
  | .int a, .int b => a == b
  | .str a, .str b => a == b
  | _, _ => false
theorem eqAt_V {A : Around} {s : Shared} {y x : V} {u v : Value} (ry : RelV y u) (rx : RelV x v) (fy : flatV y = true) (fx : flatV x = true) : SeqAt.EqAt A s u v (eqV y x) := by
  cases y with
  | non =>
    cases ry
    cases x with
    | non => cases rx; exact SeqAt.EqAt.same _
    | bl b => cases rx; exact SeqAt.EqAt.none_bool b
    | int b => obtain ⟨t, rfl⟩ := rx; exact SeqAt.EqAt.none_int b t
    | str b => obtain ⟨t, rfl⟩ := rx; exact SeqAt.EqAt.none_str b t
    | _ => exact absurd (show false = true from fx) Bool.false_ne_true
  | bl a =>
    cases ry
    cases x with
    | non => cases rx; exact SeqAt.EqAt.bool_none a
    | bl b => cases rx; exact SeqAt.EqAt.bool_bool a b
    | int b => obtain ⟨t, rfl⟩ := rx; exact SeqAt.EqAt.bool_int a b t
    | str b => obtain ⟨t, rfl⟩ := rx; exact SeqAt.EqAt.bool_str a b t
    | _ => exact absurd (show false = true from fx) Bool.false_ne_true
  | int a =>
    obtain ⟨t', rfl⟩ := ry
    cases x with
    | non => cases rx; exact SeqAt.EqAt.int_none a t'
    | bl b => cases rx; exact SeqAt.EqAt.int_bool a t' b
    | int b => obtain ⟨t, rfl⟩ := rx; exact SeqAt.EqAt.int_int a t' b t
    | str b => obtain ⟨t, rfl⟩ := rx; exact SeqAt.EqAt.int_str a t' b t
    | _ => exact absurd (show false = true from fx) Bool.false_ne_true
  | str a =>
    obtain ⟨t', rfl⟩ := ry
    cases x with
    | non => cases rx; exact SeqAt.EqAt.str_none a t'
    | bl b => cases rx; exact SeqAt.EqAt.str_bool a t' b
    | int b => obtain ⟨t, rfl⟩ := rx; exact SeqAt.EqAt.str_int a t' b t
    | str b => obtain ⟨t, rfl⟩ := rx; exact SeqAt.EqAt.str_str a t' b t
    | _ => exact absurd (show false = true from fx) Bool.false_ne_true
  | _ => exact absurd (show false = true from fy) Bool.false_ne_true
def eqU (x : V) (u : Value) : Bool := match u with
  | .none => eqV .non x
  | .bool b => eqV (.bl b) x
  | .int i _ => eqV (.int i) x
  | .str z _ => eqV (.str z) x
  | _ => false
theorem eqU_of {x y : V} {u : Value} (r : RelV y u) (f : flatV y = true) : eqU x u = eqV y x := by
  cases y with
  | non => cases r; rfl
  | bl b => cases r; rfl
  | int i => obtain ⟨t, rfl⟩ := r; rfl
  | str z => obtain ⟨t, rfl⟩ := r; rfl
  | _ => exact absurd (show false = true from f) Bool.false_ne_true
theorem any_eqU {x : V} : ∀ {xs : List V} {us : List Value}, Vals xs us → xs.all flatV = true → us.any (eqU x) = xs.any fun y => eqV y x
  | _, _, .nil, _ => rfl
  | y :: xs, u :: us, .cons r t, f => by
    rw [List.all_cons, Bool.and_eq_true] at f
    rw [List.any_cons, List.any_cons, eqU_of r f.1, any_eqU t f.2]
theorem mem_eqAt {A : Around} {s : Shared} {x : V} {v : Value} (rx : RelV x v) (fx : flatV x = true) : ∀ {xs : List V} {us : List Value}, Vals xs us → xs.all flatV = true → ∀ u ∈ us, SeqAt.EqAt A s u v (eqU x u)
  | _, _, .nil, _ => fun u hu => by cases hu
  | y :: xs, u :: us, .cons r t, f => fun u' hu => by
    rw [List.all_cons, Bool.and_eq_true] at f
    rcases List.mem_cons.mp hu with rfl | hu
    · rw [eqU_of r f.1]; exact eqAt_V r rx f.1 fx
    · exact mem_eqAt rx fx t f.2 u' hu
def inV (x : V) (xs : List V) : Bool := xs.any fun y => eqV y x
def rIn (K : PySem.W.Frag) (neg : Bool) : R2 := fun x y H Q => ∃ p xs, y = .ref p ∧ (SqL K H p xs ∨ SqT K H p xs) ∧ flatV x = true ∧ xs.all flatV = true ∧ Q (.bl (if neg then !inV x xs else inV x xs)) H
theorem op_in_seq : OpR X (compareOp .In) (rIn X.K false) := by
  intro pins s σ H x y v u Q I rx ry h
  obtain ⟨p, xs, rfl, hq, fx, fs, q⟩ := h
  cases ry
  rcases hq with hq | hq
  · obtain ⟨its, r, pl, hz⟩ := I.list hq
    refine SeqAt.in_listAt (eqU x) pl.isList (fun w hw => mem_eqAt rx fx r fs w (by simpa using hw)) ⟨.bl _, H, I, rfl, ?_⟩
    rw [show its.toArray.any (eqU x) = its.any (eqU x) by simp, any_eqU r fs]
    exact q
  · obtain ⟨its, r, pl, hz⟩ := I.tuple hq
    refine SeqAt.in_tupleAt (eqU x) pl (fun w hw => mem_eqAt rx fx r fs w (by simpa using hw)) ⟨.bl _, H, I, rfl, ?_⟩
    rw [show its.toArray.any (eqU x) = its.any (eqU x) by simp, any_eqU r fs]
    exact q
theorem op_notIn_seq : OpR X (compareOp .NotIn) (rIn X.K true) := by
  intro pins s σ H x y v u Q I rx ry h
  obtain ⟨p, xs, rfl, hq, fx, fs, q⟩ := h
  cases ry
  rcases hq with hq | hq
  · obtain ⟨its, r, pl, hz⟩ := I.list hq
    refine SeqAt.notIn_listAt (eqU x) pl.isList (fun w hw => mem_eqAt rx fx r fs w (by simpa using hw)) ⟨.bl _, H, I, rfl, ?_⟩
    rw [show its.toArray.any (eqU x) = its.any (eqU x) by simp, any_eqU r fs]
    exact q
  · obtain ⟨its, r, pl, hz⟩ := I.tuple hq
    refine SeqAt.notIn_tupleAt (eqU x) pl (fun w hw => mem_eqAt rx fx r fs w (by simpa using hw)) ⟨.bl _, H, I, rfl, ?_⟩
    rw [show its.toArray.any (eqU x) = its.any (eqU x) by simp, any_eqU r fs]
    exact q
theorem call_len_seq : CallR X (.builtin "len") (fun xs H Q => ∃ p ys, xs = [.ref p] ∧ (SqL X.K H p ys ∨ SqT X.K H p ys) ∧ Q (.int ys.length) H) := by
  intro pins s σ H xs us Q I r h
  obtain ⟨p, ys, rfl, hq, q⟩ := h
  obtain ⟨u, rfl, rx⟩ := vals1 r
  cases rx
  have hn := line63
  rcases hq with hq | hq
  · obtain ⟨its, r', pl, hz⟩ := I.list hq
    have hlen := r'.length
    exact Calls.call_len_list pl.isList (by simp only [List.size_toArray] <;> omega) ⟨.int ys.length, H, I.tok _, ⟨s.toks + 1, by rw [List.size_toArray, hlen]⟩, q⟩
  · obtain ⟨its, r', pl, hz⟩ := I.tuple hq
    have hlen := r'.length
    exact len_tuple pl (by simp only [List.size_toArray] <;> omega) ⟨.int ys.length, H, I.tok _, ⟨s.toks + 1, by rw [List.size_toArray, hlen]⟩, q⟩
theorem call_list_of : CallR X (.type "list") (fun xs H Q => ∃ p ys, xs = [.ref p] ∧ (SqL X.K H p ys ∨ SqT X.K H p ys) ∧ ∀ l, H l = none → Q (.ref l) (upd H l (.lst ys))) := by
  intro pins s σ H xs us Q I r h
  obtain ⟨p, ys, rfl, hq, q⟩ := h
  obtain ⟨u, rfl, rx⟩ := vals1 r
  cases rx
  have fin : ∀ (its : List Value), Vals ys its → ys.length ≤ sizeLine → ∀ (h' : Heap) (c' : Nat), (∀ b o', s.heap.get? b = some o' → h'.get? b = some o') →
      h'.get? s.heap.objs.size = some { cls := .type "list", dict := none, data := .seq its.toArray c', slots := #[] } → EP X pins σ Q (.ref s.heap.objs.size) { s with heap := h' } := fun its r' hz h' c' kp e =>
    ⟨.ref s.heap.objs.size, _, I.laid (t' := s.toks) kp (Nat.le_refl _) (show ObjOk X.prog X.w _ h' _ (.lst ys) from ⟨hz, its, c', r', e⟩), rfl, q _ (I.hok.fresh (Nat.le_refl _))⟩
  rcases hq with hq | hq
  · obtain ⟨its, r', pl, hz⟩ := I.list hq
    have hlen := r'.length
    obtain ⟨o, ho, hc, n, hd⟩ := pl.isList
    exact call_list_seq p (.inl rfl) ho hc hd (fun h' c' kp e => fin its r' hz h' c' kp e) (by simp only [List.size_toArray] <;> omega)
  · obtain ⟨its, r', pl, hz⟩ := I.tuple hq
    have hlen := r'.length
    obtain ⟨o, ho, hc, n, hd⟩ := pl
    exact call_list_seq p (.inr rfl) ho hc hd (fun h' c' kp e => fin its r' hz h' c' kp e) (by simp only [List.size_toArray] <;> omega)
def tyV (K : PySem.W.Frag) (T : String) (x : V) (H : Hp) : Prop := match x with
  | .str _ => T = "str"
  | .int _ => T = "int"
  | .ref p => (T = "list" ∧ ∃ xs, SqL K H p xs) ∨ (T = "tuple" ∧ ∃ o, K.lookup p = some o ∧ o.cls = .type "tuple" ∧ o.dict = none) ∨
      (T = "dict" ∧ ((∃ kvs, H p = some (.dK kvs)) ∨ ∃ kvs, H p = some (.dT kvs))) ∨ (T = "set" ∧ ∃ S n, H p = some (.set S n))
  | _ => False
theorem tyV_is {pins : List (Addr × Obj)} {σ : St} {H : Hp} {s : Shared} {T : String} {x : V} {v : Value} (I : Inv X pins σ H s) (r : RelV x v) (ty : tyV X.K T x H) :
    s.TypeIs v T ∧ ∀ a, v = .ref a → ∃ ob, s.heap.get? a = some ob ∧ ob.dict = none := by
  cases x with
  | str z =>
    obtain ⟨t, rfl⟩ := r
    cases (show T = "str" from ty)
    exact ⟨typeIs_str s z t, fun _ e => nomatch e⟩
  | int i =>
    obtain ⟨t, rfl⟩ := r
    cases (show T = "int" from ty)
    exact ⟨typeIs_int s i t, fun _ e => nomatch e⟩
  | ref p =>
    cases r
    rcases ty with ⟨rfl, xs, hq⟩ | ⟨rfl, o, hk, hc, hd⟩ | ⟨rfl, hk⟩ | ⟨rfl, S, n, hk⟩
    · obtain ⟨its, _, pl, _⟩ := I.list hq
      refine ⟨pl.isList.typeIs, fun a e => ?_⟩
      cases e
      obtain ⟨o, n, e, c, hd, _⟩ := pl
      exact ⟨o, e, hd⟩
    · refine ⟨⟨o, I.kIn p o hk, hc⟩, fun a e => ?_⟩
      cases e
      exact ⟨o, I.kIn _ o hk, hd⟩
    · have z : ∃ o, s.heap.get? p = some o ∧ o.ExactDict := by
        rcases hk with ⟨kvs, hk⟩ | ⟨kvs, hk⟩
        · obtain ⟨_, _, _, _, o, _, _, e, ex, _⟩ := I.hok p _ hk
          exact ⟨o, e, ex⟩
        · obtain ⟨_, _, _, _, o, _, _, e, ex, _⟩ := I.hok p _ hk
          exact ⟨o, e, ex⟩
      obtain ⟨o, e, ex⟩ := z
      refine ⟨⟨o, e, ex.1⟩, fun a e2 => ?_⟩
      cases e2
      exact ⟨o, e, ex.2.1⟩
    · obtain ⟨o, _, _, _, e, ex, _⟩ := I.hok p _ hk
      refine ⟨⟨o, e, ex.1⟩, fun a e2 => ?_⟩
      cases e2
      exact ⟨o, e, ex.2.1⟩
  | _ => exact False.elim ty
def tBM (K : PySem.W.Frag) (T : String) (r : V → List V → Hp → VK → Prop) (to : TE) (t : TA) : TE := fun σ H Q => to σ H fun x H1 => tyV K T x H1 ∧ t σ H1 fun xs H2 => r x xs H2 Q
variable {o e : Expr} {es : List Expr} {to : TE} {t : TA} {name : Str} {apos cpos : Pos} {T id : String} {r : V → List V → Hp → VK → Prop}
theorem pe_bm (pa : PlainAttrs T) (slot : Slot T name id) (hty : typeOf (.builtin id) = pure (.type "method_descriptor")) (hm : MtR X id r) (ho : PE X o to) (ha : PA X (e :: es) t)
    (hbase : attributeBase o name X.env (eval o X.env) = eval o X.env := by rfl)
    (hfew : ((backTo cpos (starEach (e :: es) X.env)).all (fun x => !x.1) && (backToKw cpos (keywordEach [] X.env)).all (fun x => x.1.isSome)
      && decide ((e :: es).length + ([] : List Keyword).length + (if ([] : List Keyword).isEmpty then 0 else 1) < 30)) = true := by rfl)
    (hline : (apos.endLine == cpos.line) = true := by rfl) (hs : starEach (e :: es) X.env = (false, eval e X.env) :: starEach es X.env := by rfl) (hplain : (backTo cpos (starEach es X.env)).any (·.1) = false := by rfl) :
    PE X (.Call (.Attribute o name apos) (e :: es) [] cpos) (tBM X.K T r to t) := by
  intro pins s σ H Q I h
  refine wpAny_Call_method_late hbase hfew hline rfl (thn (ho pins s σ H _ I h) fun v s1 ⟨x, H1, I1, r1, ty, q1⟩ => ?_)
  obtain ⟨h1, h2⟩ := tyV_is I1 r1 ty
  refine ⟨T, id, pa, slot, hty, h1, h2, ?_⟩
  have hA := ha cpos pins s1 σ H1 _ I1 q1
  rw [hs] at hA ⊢
  refine Calls.callWith_builtin (by show (false || (backTo cpos (starEach es X.env)).any (·.1)) = false; rw [hplain] <;> rfl) (Calls.evalArgs_plain ?_)
  exact thn hA fun us s2 ⟨vs, H2, I2, r2, q2⟩ => hm pins s2 σ H2 x vs v us Q I2 r1 r2 q2
end
end L2
namespace L2
open PySem PySem.Spec PyProof.Rows
def MtM (X : Cx) (id : String) (r : V → List V → Hp → VK → Prop) : Prop :=
  ∀ (pins : List (Addr × Obj)) (s : Shared) (σ : St) (H : Hp) (x : V) (xs : List V) (v : Value) (us : List Value) (Q : VK), Inv X pins σ H s → RelV x v → Vals xs us → r x xs H Q →
    wpAny (model X.prog X.w) X.A (call (.builtin id) (v :: us)) (EP X pins σ Q) X.xe s
theorem Vals.one : ∀ {x : V} {us : List Value}, Vals [x] us → ∃ u, us = [u] ∧ RelV x u
  | _, _, .cons r .nil => ⟨_, rfl, r⟩
theorem Vals.zero : ∀ {us : List Value}, Vals [] us → us = []
  | _, .nil => rfl
section
variable {X : Cx} {pins : List (Addr × Obj)} {σ : St} {H : Hp} {s : Shared} {l b : Addr} {xs ys zs : List V}
theorem Inv.lset {its its' : List Value} {n : Nat} {f : Array Value → Array Value} {t' : Nat} (I : Inv X pins σ H s) (hH : H l = some (.lst xs))
    (e : s.heap.get? l = some { cls := .type "list", data := .seq its.toArray n }) (hf : f its.toArray = its'.toArray) (hv : Vals ys its') (hz : ys.length ≤ sizeLine) :
    Inv X pins σ (upd H l (.lst ys)) { s with heap := s.heap.update l (Obj.mapSeq f), toks := t' } := by
  have q := PySem.IsL.update e f
  rw [hf] at q
  refine I.write (x := l) (e := l) (by rw [hH]; exact trivial) (.inl rfl) (fun b' u hb hu => (Heap.get?_update_other s.heap (Obj.mapSeq f) (Ne.symm hb)).trans hu) ⟨_, q⟩ ?_
  exact ⟨hz, its', _, hv, q⟩
theorem Inv.lnew {its : List Value} {t' : Nat} (I : Inv X pins σ H s) (hv : Vals ys its) (hz : ys.length ≤ sizeLine) :
    Inv X pins σ (upd H s.heap.objs.size (.lst ys)) { s with heap := s.heap.push { cls := .type "list", data := .seq its.toArray }, toks := t' } :=
  I.laid (fun _ _ q => Heap.get?_push_of_some _ q) (Nat.le_refl _) ⟨hz, its, 0, hv, Heap.get?_push_size _ rfl⟩
theorem Inv.fresh (I : Inv X pins σ H s) : H s.heap.objs.size = none := I.hok.fresh (Nat.le_refl _)
theorem Inv.lstM (I : Inv X pins σ H s) (hH : H l = some (.lst xs)) : xs.length ≤ sizeLine ∧ ∃ (its : List Value) (n : Nat), Vals xs its ∧ xs.length = its.length ∧ s.heap.get? l = some { cls := .type "list", data := .seq its.toArray n } := by
  obtain ⟨z, its, n, r, e⟩ := I.hok l _ hH
  exact ⟨z, its, n, r, r.length, e⟩
end
section
variable {X : Cx}
def rAppend : V → List V → Hp → VK → Prop := fun x vs H Q => ∃ l xs y, x = .ref l ∧ vs = [y] ∧ H l = some (.lst xs) ∧ xs.length < sizeLine ∧ Q .non (upd H l (.lst (xs ++ [y])))
theorem mt_append : MtM X "list.append" rAppend := by
  intro pins s σ H x vs v us Q I rx rv h
  obtain ⟨l, xs, y, rfl, rfl, hH, hz, q⟩ := h
  cases rx
  obtain ⟨u, rfl, ru⟩ := rv.one
  obtain ⟨z, its, n, r, hl, e⟩ := I.lstM hH
  refine call_meets F.slot_list_append ⟨_, e, rfl⟩ F.entry_list_append (F.args_list_append_2 _ _) (PySem.list_append l its.toArray n u (by rw [List.size_toArray]; omega)) ⟨e, ?_⟩
  refine ⟨.non, _, I.lset (its' := its ++ [u]) hH e (by simp) (r.append (.cons ru .nil)) ?_, rfl, q⟩
  rw [List.length_append, List.length_singleton]
  omega
def rCat : R2 := fun x y H Q => ∃ l b xs zs, x = .ref l ∧ y = .ref b ∧ H l = some (.lst xs) ∧ H b = some (.lst zs) ∧ xs.length + zs.length ≤ sizeLine ∧ ∀ p, H p = none → Q (.ref p) (upd H p (.lst (xs ++ zs)))
theorem op_cat : OpR X (binaryOp .Add) rCat := by
  intro pins s σ H x y v u Q I rx ry h
  obtain ⟨l, b, xs, zs, rfl, rfl, hH, hB, hz, q⟩ := h
  cases rx
  cases ry
  obtain ⟨z, its, n, r, hl, e⟩ := I.lstM hH
  obtain ⟨z2, its2, n2, r2, hl2, e2⟩ := I.lstM hB
  refine PySem.P.add_list e e2 ?_ (by rw [List.size_toArray, List.size_toArray]; omega)
  have ea : its.toArray ++ its2.toArray = (its ++ its2).toArray := by simp
  rw [ea]
  exact ⟨.ref _, _, I.lnew (t' := s.toks) (r.append r2) (by rw [List.length_append]; omega), rfl, q _ I.fresh⟩
end
section
variable {prog : Program} {w : World} {A : Around} {E : Value → Shared → Prop} {s : Shared}
end
section
variable {X : Cx}
end
end L2
namespace L2
open PySem PySem.Spec PyProof.Rows
section
variable {κ : Type} [DecidableEq κ]
def valV (kvs : List (κ × V)) (k : κ) : Option V := (kvs.find? fun kv => decide (kv.1 = k)).map (·.2)
def putK (kvs : List (κ × V)) (k : κ) (v : V) : List (κ × V) :=
  if (kvs.any fun kv => decide (kv.1 = k)) = true then kvs.map (fun kv => if kv.1 = k then (kv.1, v) else kv) else kvs ++ [(k, v)]
def dropK (kvs : List (κ × V)) (k : κ) : List (κ × V) := kvs.filter fun kv => decide (kv.1 ≠ k)
theorem valV_pos {p : κ × V} {r : List (κ × V)} {k : κ} (e : p.1 = k) : valV (p :: r) k = some p.2 := by simp [valV, List.find?_cons, e]
theorem valV_neg {p : κ × V} {r : List (κ × V)} {k : κ} (e : ¬ p.1 = k) : valV (p :: r) k = valV r k := by simp [valV, List.find?_cons, e]
theorem valV_any (k : κ) : ∀ kvs : List (κ × V), (kvs.any fun kv => decide (kv.1 = k)) = (valV kvs k).isSome
  | [] => rfl
  | p :: r => by
    rw [List.any_cons]
    by_cases e : p.1 = k
    · simp only [valV_pos e, decide_eq_true e, Bool.true_or, Option.isSome_some]
    · rw [valV_neg e, decide_eq_false e, Bool.false_or]; exact valV_any k r
theorem valV_map (k j : κ) (y : V) : ∀ kvs : List (κ × V), valV (kvs.map fun kv => if kv.1 = k then (kv.1, y) else kv) j = (valV kvs j).map fun x => if j = k then y else x
  | [] => rfl
  | p :: r => by
    have ih := valV_map k j y r
    rw [List.map_cons]
    by_cases h : p.1 = k
    · rw [if_pos h]
      by_cases e : p.1 = j
      · rw [valV_pos (p := (p.1, y)) e, valV_pos e, Option.map_some, if_pos (e.symm.trans h)]
      · rw [valV_neg (p := (p.1, y)) e, valV_neg e, ih]
    · rw [if_neg h]
      by_cases e : p.1 = j
      · rw [valV_pos (p := p) e, valV_pos e, Option.map_some, if_neg (fun z => h (e.trans z))]
      · rw [valV_neg (p := p) e, valV_neg e, ih]
theorem valV_snoc (k j : κ) (y : V) : ∀ kvs : List (κ × V), valV kvs k = none → valV (kvs ++ [(k, y)]) j = if j = k then some y else valV kvs j
  | [], _ => by
    by_cases e : k = j
    · rw [if_pos e.symm]; exact valV_pos (p := (k, y)) e
    · rw [if_neg (fun z => e z.symm)]; exact valV_neg (p := (k, y)) e
  | p :: r, hn => by
    rw [List.cons_append]
    have hk : ¬ p.1 = k := fun z => by rw [valV_pos z] at hn; cases hn
    rw [valV_neg hk] at hn
    have ih := valV_snoc k j y r hn
    by_cases e : p.1 = j
    · rw [valV_pos e, valV_pos e, if_neg (fun z => hk (e.trans z))]
    · rw [valV_neg e, valV_neg e, ih]
theorem valV_put (kvs : List (κ × V)) (k j : κ) (y : V) : valV (putK kvs k y) j = if j = k then some y else valV kvs j := by
  unfold putK
  by_cases a : (kvs.any fun kv => decide (kv.1 = k)) = true
  · rw [if_pos a, valV_map]
    rw [valV_any] at a
    by_cases e : j = k
    · obtain ⟨x, hx⟩ := Option.isSome_iff_exists.mp a
      rw [if_pos e, e, hx, Option.map_some, if_pos rfl]
    · rw [if_neg e]
      cases valV kvs j with
      | none => rfl
      | some x => rw [Option.map_some, if_neg e]
  · rw [if_neg a]
    refine valV_snoc k j y kvs ?_
    rw [valV_any] at a
    cases q : valV kvs k with
    | none => rfl
    | some x => rw [q] at a; exact (a rfl).elim
theorem length_putK (kvs : List (κ × V)) (k : κ) (v : V) : (putK kvs k v).length ≤ kvs.length + 1 := by
  unfold putK
  split
  · rw [List.length_map]; omega
  · rw [List.length_append, List.length_cons, List.length_nil]; omega
theorem RelO.isSome_eq {o : Option V} {u : Option Value} (r : RelO o u) : o.isSome = u.isSome := by
  cases o with
  | none => cases u with
    | none => rfl
    | some _ => exact (show False from r).elim
  | some _ => cases u with
    | none => exact (show False from r).elim
    | some _ => rfl
theorem RelO.getD {o : Option V} {u : Option Value} {d : V} {d' : Value} (r : RelO o u) (rd : RelV d d') : RelV (o.getD d) (u.getD d') := by
  cases o with
  | none => cases u with
    | none => exact rd
    | some _ => exact (show False from r).elim
  | some _ => cases u with
    | none => exact (show False from r).elim
    | some _ => exact r
theorem KV.val {kvs : List (κ × V)} {vs : List (κ × Value)} (r : KV kvs vs) (k : κ) : RelO (valV kvs k) (valueAt vs k) := by
  unfold KV at r
  induction r with
  | nil => exact True.intro
  | @cons p q ps qs h t ih =>
    obtain ⟨h1, h2⟩ := h
    by_cases e : p.1 = k
    · have e' : q.1 = k := h1.symm.trans e
      have b : valueAt (q :: qs) k = some q.2 := by simp [valueAt, List.find?_cons, e']
      rw [valV_pos e, b]; exact h2
    · have e' : ¬ q.1 = k := fun z => e (h1.trans z)
      have b : valueAt (q :: qs) k = valueAt qs k := by simp [valueAt, List.find?_cons, e']
      rw [valV_neg e, b]; exact ih
theorem KV.any {kvs : List (κ × V)} {vs : List (κ × Value)} (r : KV kvs vs) (k : κ) : (kvs.any fun kv => decide (kv.1 = k)) = vs.any fun kv => decide (kv.1 = k) := by
  unfold KV at r
  induction r with
  | nil => rfl
  | cons h t ih => rw [List.any_cons, List.any_cons, ih, h.1]
theorem KV.repl {kvs : List (κ × V)} {vs : List (κ × Value)} (r : KV kvs vs) (k : κ) {y : V} {u : Value} (ry : RelV y u) :
    KV (kvs.map fun kv => if kv.1 = k then (kv.1, y) else kv) (vs.map fun kv => if kv.1 = k then (kv.1, u) else kv) := by
  unfold KV at r ⊢
  induction r with
  | nil => exact .nil
  | @cons p q ps qs h t ih =>
    rw [List.map_cons, List.map_cons]
    refine .cons ?_ ih
    obtain ⟨h1, h2⟩ := h
    by_cases e : p.1 = k
    · rw [if_pos e, if_pos (h1.symm.trans e)]; exact ⟨h1, ry⟩
    · rw [if_neg e, if_neg (fun z => e (h1.trans z))]; exact ⟨h1, h2⟩
theorem KV.put {kvs : List (κ × V)} {vs : List (κ × Value)} (r : KV kvs vs) (k : κ) {y : V} {u : Value} (ry : RelV y u) : KV (putK kvs k y) (stored vs k u) := by
  unfold putK stored
  rw [r.any k]
  by_cases e : (vs.any fun kv => decide (kv.1 = k)) = true
  · rw [if_pos e, if_pos e]; exact r.repl k ry
  · rw [if_neg e, if_neg e]; exact Paired.snoc r ⟨rfl, ry⟩
theorem KV.drop {kvs : List (κ × V)} {vs : List (κ × Value)} (r : KV kvs vs) (k : κ) : KV (dropK kvs k) (without vs k) := by
  unfold KV at r ⊢
  unfold dropK without
  induction r with
  | nil => exact .nil
  | @cons p q ps qs h t ih =>
    obtain ⟨h1, h2⟩ := h
    rw [List.filter_cons, List.filter_cons]
    by_cases e : p.1 = k
    · have a : ¬ decide (p.1 ≠ k) = true := by simp [e]
      have b : ¬ decide (q.1 ≠ k) = true := by simp [h1.symm.trans e]
      rw [if_neg a, if_neg b]; exact ih
    · have e' : ¬ q.1 = k := fun z => e (h1.trans z)
      have a : decide (p.1 ≠ k) = true := by simp [e]
      have b : decide (q.1 ≠ k) = true := by simp [e']
      rw [if_pos a, if_pos b]; exact .cons ⟨h1, h2⟩ ih
theorem KV.length {kvs : List (κ × V)} {vs : List (κ × Value)} (r : KV kvs vs) : kvs.length = vs.length := Paired.length r
end
theorem kV_is {P : Program} {w : World} {k : Key} {u : Value} (r : RelV (kV k) u) : (mixKind P w).is k u = true := by
  cases k with
  | inl i => obtain ⟨t, e⟩ := (show ∃ t, u = Value.int i t from r); subst e; exact mixKind_int P w i t
  | inr x => obtain ⟨t, e⟩ := (show ∃ t, u = Value.str x t from r); subst e; exact mixKind_str P w x t
theorem items_are {P : Program} {w : World} : ∀ {ks : List Key} {us : List Value}, Vals (ks.map kV) us → ItemsAre (mixKind P w) ks us
  | [], _, r => by rw [List.map_nil] at r; cases r; exact .nil
  | k :: ks, _, r => by
    rw [List.map_cons] at r
    cases r with
    | cons h t => exact .cons (kV_is h) (items_are t)
abbrev KT (H : Hp) : List (List Key × V) → List (List Key × Addr × Value) → Prop := Paired fun p q => p.1 = q.1 ∧ H q.2.1 = some (.tup (p.1.map kV)) ∧ RelV p.2 q.2.2
theorem KT.val {H : Hp} {kvs : List (List Key × V)} {xs : List (List Key × Addr × Value)} (r : KT H kvs xs) (k : List Key) : RelO (valV kvs k) ((atKey xs k).map (·.2)) := by
  induction r with
  | nil => exact True.intro
  | @cons p q ps qs h t ih =>
    obtain ⟨h1, _, h2⟩ := h
    by_cases e : p.1 = k
    · have e' : q.1 = k := h1.symm.trans e
      have b : atKey (q :: qs) k = some q.2 := by simp [atKey, List.find?_cons, e']
      rw [valV_pos e, b]; exact h2
    · have e' : ¬ q.1 = k := fun z => e (h1.trans z)
      have b : atKey (q :: qs) k = atKey qs k := by simp [atKey, List.find?_cons, e']
      rw [valV_neg e, b]; exact ih
theorem KT.repl {H : Hp} {kvs : List (List Key × V)} {xs : List (List Key × Addr × Value)} (r : KT H kvs xs) (k : List Key) {y : V} {u : Value} (ry : RelV y u) :
    KT H (kvs.map fun kv => if kv.1 = k then (kv.1, y) else kv) (xs.map (putAt k u)) := by
  induction r with
  | nil => exact .nil
  | @cons p q ps qs h t ih =>
    rw [List.map_cons, List.map_cons]
    refine .cons ?_ ih
    obtain ⟨h1, h2, h3⟩ := h
    unfold putAt
    by_cases e : p.1 = k
    · rw [if_pos e, if_pos (h1.symm.trans e)]; exact ⟨h1, h2, ry⟩
    · rw [if_neg e, if_neg (fun z => e (h1.trans z))]; exact ⟨h1, h2, h3⟩
theorem KT.put {H : Hp} {kvs : List (List Key × V)} {xs : List (List Key × Addr × Value)} (r : KT H kvs xs) (k : List Key) {b : Addr} {y : V} {u : Value} (hb : H b = some (.tup (k.map kV))) (ry : RelV y u) :
    KT H (putK kvs k y) (storedH xs k b u) := by
  have e : (kvs.any fun kv => decide (kv.1 = k)) = (atKey xs k).isSome := by
    rw [valV_any, (r.val k).isSome_eq, Option.isSome_map]
  unfold putK storedH
  rw [e]
  by_cases q : (atKey xs k).isSome = true
  · rw [if_pos q, if_pos q]; exact r.repl k ry
  · rw [if_neg q, if_neg q]; exact Paired.snoc r ⟨rfl, hb, ry⟩
theorem KT.keeps {H H' : Hp} {kvs : List (List Key × V)} {xs : List (List Key × Addr × Value)} (r : KT H kvs xs) (ht : ∀ b ys, H b = some (.tup ys) → H' b = some (.tup ys)) : KT H' kvs xs :=
  Paired.mapP r fun _ _ z => ⟨z.1, ht _ _ z.2.1, z.2.2⟩
section
variable {P : Program} {w : World} {H : Hp} {h : Heap} {a : Addr}
theorem rd_of {u : HO} (ok : HOk P w H h) (e : Rd H a u) : ObjOk P w H h a u := e.ok ok
theorem dk_rd {kvs : List (Key × V)} (ok : HOk P w H h) (e : Rd H a (.dK kvs)) : kvs.length ≤ sizeLine ∧ (a == sysModules) = false ∧ ∃ vs, KV kvs vs ∧ h.DictOf (mixKind P w) a vs :=
  show ObjOk P w H h a (.dK kvs) from rd_of ok e
theorem dk_of {kvs : List (Key × V)} (ok : HOk P w H h) (e : H a = some (.dK kvs)) : kvs.length ≤ sizeLine ∧ (a == sysModules) = false ∧ ∃ vs, KV kvs vs ∧ h.DictOf (mixKind P w) a vs := dk_rd ok (.inl e)
theorem key_of {ks : List Key} (ok : HOk P w H h) (e : H a = some (.tup (ks.map kV))) : (tupleKind (mixKind P w)).is h ks a := by
  obtain ⟨_, its, r, o, h1, h2, n, h3⟩ := (show ObjOk P w H h a (.tup (ks.map kV)) from ok a _ e)
  exact ⟨o, its.toArray, n, h1, h2, h3, by simpa using items_are r⟩
theorem dt_rd {kvs : List (List Key × V)} (ok : HOk P w H h) (e : Rd H a (.dT kvs)) : kvs.length ≤ sizeLine ∧ (a == sysModules) = false ∧
    ∃ xs, KT H kvs xs ∧ h.DictOfH (tupleKind (mixKind P w)) a xs := by
  obtain ⟨z, y, xs, r, o, es, ep, h1, h2, h3, h4, h5⟩ := (show ObjOk P w H h a (.dT kvs) from rd_of ok e)
  refine ⟨z, y, xs, r, o, es, ep, h1, h2, h3, h4, fun x hx => ?_, h5⟩
  have all : ∀ {l : List (List Key × V)} {m : List (List Key × Addr × Value)}, KT H l m → ∀ x ∈ m, (tupleKind (mixKind P w)).is h x.1 x.2.1 := by
    intro l m q
    induction q with
    | nil => intro x hx; exact nomatch hx
    | @cons p q ps qs hq t ih =>
      intro x hx
      rcases List.mem_cons.mp hx with e | hx
      · subst e
        exact key_of ok (by rw [← hq.1]; exact hq.2.1)
      · exact ih x hx
  exact all r x hx
theorem dt_of {kvs : List (List Key × V)} (ok : HOk P w H h) (e : H a = some (.dT kvs)) : kvs.length ≤ sizeLine ∧ (a == sysModules) = false ∧
    ∃ xs, KT H kvs xs ∧ h.DictOfH (tupleKind (mixKind P w)) a xs := dt_rd ok (.inl e)
end
def DGet (H : Hp) (a : Addr) (y : V) (r : Option V) : Prop :=
  (∃ kvs k, Rd H a (.dK kvs) ∧ y = kV k ∧ r = valV kvs k) ∨ ∃ kvs k b, Rd H a (.dT kvs) ∧ y = .ref b ∧ H b = some (.tup (k.map kV)) ∧ r = valV kvs k
def DPut (H : Hp) (a : Addr) (y v : V) (H' : Hp) : Prop :=
  (∃ kvs k, H a = some (.dK kvs) ∧ y = kV k ∧ kvs.length < sizeLine ∧ H' = upd H a (.dK (putK kvs k v))) ∨
  ∃ kvs k b, H a = some (.dT kvs) ∧ y = .ref b ∧ H b = some (.tup (k.map kV)) ∧ kvs.length < sizeLine ∧ H' = upd H a (.dT (putK kvs k v))
theorem DGet.k {H : Hp} {a : Addr} {kvs : List (Key × V)} {k : Key} (e : H a = some (.dK kvs)) : DGet H a (kV k) (valV kvs k) := .inl ⟨kvs, k, .inl e, rfl, rfl⟩
theorem DGet.t {H : Hp} {a b : Addr} {kvs : List (List Key × V)} {k : List Key} (e : H a = some (.dT kvs)) (eb : H b = some (.tup (k.map kV))) : DGet H a (.ref b) (valV kvs k) := .inr ⟨kvs, k, b, .inl e, rfl, eb, rfl⟩
theorem DPut.k {H : Hp} {a : Addr} {kvs : List (Key × V)} {k : Key} {v : V} (e : H a = some (.dK kvs)) (hl : kvs.length < sizeLine) : DPut H a (kV k) v (upd H a (.dK (putK kvs k v))) := .inl ⟨kvs, k, e, rfl, hl, rfl⟩
theorem DPut.t {H : Hp} {a b : Addr} {kvs : List (List Key × V)} {k : List Key} {v : V} (e : H a = some (.dT kvs)) (eb : H b = some (.tup (k.map kV))) (hl : kvs.length < sizeLine) :
    DPut H a (.ref b) v (upd H a (.dT (putK kvs k v))) := .inr ⟨kvs, k, b, e, rfl, eb, hl, rfl⟩
section
variable {X : Cx} {pins : List (Addr × Obj)} {σ : St} {H : Hp} {s : Shared} {a : Addr} {y v : V} {u r : Value} {o : Option V} {A : Around} {E : Value → Shared → Prop}
theorem Inv.big (I : Inv X pins σ H s) : sysModules < s.heap.objs.size := by
  have h : mainGlobals < s.heap.objs.size := (I.mod.glob.keeps I.bk).lt
  exact Nat.lt_trans (by decide) h
theorem d_getItem {Q : Value → Shared → Prop} (hu : A.units + 1 < cLine) (I : Inv X pins σ H s) (g : DGet H a y (some v)) (ry : RelV y u) (h : ∀ w' s', Inv X pins σ H s' → RelV v w' → Q w' s') :
    wpAny (model X.prog X.w) A (getItem (.ref a) u) Q E s := by
  rcases g with ⟨kvs, k, e, ey, l⟩ | ⟨kvs, k, b, e, ey, eb, l⟩
  · subst ey
    obtain ⟨z, hd, vs, rel, dd⟩ := dk_rd I.hok e
    obtain ⟨w', hw, rw'⟩ := RelO.some_of (v := v) (o := valueAt vs k) (by rw [l]; exact rel.val k)
    exact wpAny_getItem_of (kV_is ry) dd.mapOf hw (h w' _ (I.tok _) rw')
  · subst ey
    cases (show u = Value.ref b from ry)
    obtain ⟨z, hd, xs, rel, dd⟩ := dt_rd I.hok e
    obtain ⟨w', hw, rw'⟩ := RelO.some_of (v := v) (o := (atKey xs k).map (·.2)) (by rw [l]; exact rel.val k)
    obtain ⟨p, hp, hp2⟩ := Option.map_eq_some_iff.mp hw
    refine wpAny_getItem_heap (tupleKind_room_in1 hu) (key_of I.hok eb) dd hp ?_
    rw [hp2]
    exact h w' _ (I.tok _) rw'
theorem d_in {Q : Value → Shared → Prop} (hu : A.units + 1 < cLine) (I : Inv X pins σ H s) (g : DGet H a y o) (ry : RelV y u) (h : ∀ s', Inv X pins σ H s' → Q (.bool o.isSome) s') :
    wpAny (model X.prog X.w) A (compareOp .In u (.ref a)) Q E s := by
  rcases g with ⟨kvs, k, e, ey, l⟩ | ⟨kvs, k, b, e, ey, eb, l⟩
  · subst ey
    obtain ⟨z, hd, vs, rel, dd⟩ := dk_rd I.hok e
    refine wpAny_in_of (kV_is ry) hd dd.mapOf ?_
    rw [← (rel.val k).isSome_eq, ← l]
    exact h _ (I.tok _)
  · subst ey
    cases (show u = Value.ref b from ry)
    obtain ⟨z, hd, xs, rel, dd⟩ := dt_rd I.hok e
    refine wpAny_in_heap (tupleKind_room_in1 hu) (key_of I.hok eb) hd dd ?_
    have q := (rel.val k).isSome_eq
    rw [Option.isSome_map] at q
    rw [← q, ← l]
    exact h _ (I.tok _)
theorem d_write {h' : Heap} {t' : Nat} {ob : HO} (I : Inv X pins σ H s) (mu : Mut (H a)) (hs : Heap.SameBut a s.heap h') (he : ∃ q, h'.get? a = some q) (new : ObjOk X.prog X.w (upd H a ob) h' a ob) :
    Inv X pins σ (upd H a ob) { s with heap := h', toks := t' } :=
  I.write (x := a) (e := a) mu (.inl rfl) (fun b q hb z => (hs.2 b hb).trans z) he new
theorem dk_new {P : Program} {w : World} {H' : Hp} {h' : Heap} {kvs : List (Key × V)} {vs : List (Key × Value)} (z : kvs.length ≤ sizeLine) (hd : (a == sysModules) = false) (rel : KV kvs vs) (dd : h'.DictOf (mixKind P w) a vs) :
    ObjOk P w H' h' a (.dK kvs) := ⟨z, hd, vs, rel, dd⟩
theorem d_setItem {H' : Hp} {Q : Unit → Shared → Prop} (hu : A.units + 1 < cLine) (I : Inv X pins σ H s) (g : DPut H a y v H') (ry : RelV y u) (rv : RelV v r) (h : ∀ s', Inv X pins σ H' s' → Q () s') :
    wpAny (model X.prog X.w) A (setItem (.ref a) u r) Q E s := by
  rcases g with ⟨kvs, k, e, ey, l, eH⟩ | ⟨kvs, k, b, e, ey, eb, l, eH⟩
  · subst ey eH
    obtain ⟨z, hd, vs, rel, dd⟩ := dk_of I.hok e
    have hz : vs.length ≤ sizeLine := by rw [← rel.length]; exact z
    have hl : (putK kvs k v).length ≤ sizeLine := by have := length_putK kvs k v; omega
    refine wpAny_setItem_pairs (hsz := hz) (kV_is ry) dd fun h' dd' hs => h _ ?_
    have he : ∃ q, h'.get? a = some q := let ⟨q, _, _, hq, _⟩ := dd'; ⟨q, hq⟩
    exact d_write I (by rw [e]; exact True.intro) hs he (dk_new hl hd (rel.put k rv) dd')
  · subst ey eH
    cases (show u = Value.ref b from ry)
    obtain ⟨z, hd, xs, rel, dd⟩ := dt_of I.hok e
    have hz : xs.length ≤ sizeLine := by rw [← Paired.length rel]; exact z
    have hl : (putK kvs k v).length ≤ sizeLine := by have := length_putK kvs k v; omega
    refine wpAny_setItem_heap (hsz := hz) (tupleKind_room_in1 hu) (key_of I.hok eb) dd fun h' dd' hs => h _ ?_
    obtain ⟨q, es, ep, hq, h2, h3, h4, _, h5⟩ := dd'
    refine d_write I (by rw [e]; exact True.intro) hs ⟨q, hq⟩ ⟨hl, hd, _, (rel.put k eb rv).keeps fun c ys ec => ?_, q, es, ep, hq, h2, h3, h4, h5⟩
    rw [upd_ne (ne_of ec e (fun z => nomatch z))]
    exact ec
end
section
variable {X : Cx} {pins : List (Addr × Obj)} {σ : St} {H : Hp} {s : Shared} {a : Addr} {kvs : List (Key × V)} {k : Key} {u : Value} {A : Around} {E : Value → Shared → Prop}
end
def NoSl (i : Expr) : Prop := ∀ ov iv, subscripted i false ov iv = operate [ov, iv] (getItem ov iv)
theorem subD_of {prog : Program} {w : World} {A : Around} {E : Value → Shared → Prop} {s : Shared} {env : Env} {value slice : Expr} {pos : Pos} {T id : String} {Q : Value → Shared → Prop}
    (hl : typeLookup (.type T) "__getitem__" = pure (some (.builtin id))) (hs : NoSl slice)
    (h : wpAny (model prog w) A (eval value env) (fun o s₁ => wpAny (model prog w) A (eval slice env) (fun i s₂ => s₂.TypeIs o T ∧ wpAny (model prog w) A (getItem o i) Q E s₂) E s₁) E s) :
    wpAny (model prog w) A (eval (.Subscript value slice pos) env) Q E s := by
  refine Subscript_ (wpAny_mono h (fun o s₁ h₁ => wpAny_mono h₁ (fun i s₂ h₂ => ?_) fun _ _ x => x) fun _ _ x => x)
  obtain ⟨hT, h₂⟩ := h₂
  unfold subscriptTail
  refine wpAny_bind ?_
  rw [getitemInPython_of_ne hT.not_modules]
  refine wpAny_bind (wpAny_specialOf hT hl ?_)
  have fin : wpAny (model prog w) A (subscripted slice false o i) (fun r s₃ => wpAny (model prog w) A (letTemporaryGo value o r >>= fun _ => pure r) Q E s₃) E s₂ := by
    rw [hs o i]
    exact wpAny_operating (wpAny_mono h₂ (fun r s₃ h₃ => wpAny_bind (wpAny_letTemporaryGo (wpAny_pure h₃))) fun _ _ x => x)
  first
    | exact wpAny_pure (wpAny_bind fin)
    | exact wpAny_bind (wpAny_pure (wpAny_bind fin))
    | exact wpAny_bind fin
theorem dict_typeIs {X : Cx} {pins : List (Addr × Obj)} {σ : St} {H : Hp} {s : Shared} {a : Addr} {y : V} {o : Option V} (I : Inv X pins σ H s) (g : DGet H a y o) : s.TypeIs (.ref a) "dict" := by
  rcases g with ⟨kvs, k, e, _, _⟩ | ⟨kvs, k, b, e, _, _, _⟩
  · obtain ⟨_, _, vs, _, dd⟩ := dk_rd I.hok e
    exact dd.typeIs
  · obtain ⟨_, _, xs, _, dd⟩ := dt_rd I.hok e
    exact dd.typeIs
def tDGet (td ty : TE) : TE := fun σ H Q => td σ H fun x H1 => ty σ H1 fun y H2 => ∃ a v, x = .ref a ∧ DGet H2 a y (some v) ∧ Q v H2
def tDIn (ty td : TE) : TE := fun σ H Q => ty σ H fun y H1 => td σ H1 fun x H2 => ∃ a o, x = .ref a ∧ DGet H2 a y o ∧ Q (.bl o.isSome) H2
def sDPut (td ty tv : TE) : TS := fun D σ H => tv σ H fun v H1 => td σ H1 fun x H2 => ty σ H2 fun y H3 => ∃ a H4, x = .ref a ∧ DPut H3 a y v H4 ∧ D.nx σ H4
section
variable {X : Cx} {o i e value : Expr} {pos pos' tpos : Pos} {td ty tv : TE}
theorem pe_dget (hu : X.A.units + 1 < cLine) (ho : PE X o td) (hi : PE X i ty) (hs : NoSl i) : PE X (.Subscript o i pos) (tDGet td ty) := by
  intro pins s σ H Q I h
  refine subD_of PySem.F.slot_dict_getitem.lookup hs (thn (ho pins s σ H _ I h) fun u s1 ⟨x, H1, I1, rx, q1⟩ => thn (hi pins s1 σ H1 _ I1 q1) fun iv s2 ⟨y, H2, I2, ry, a, v, ex, g, q2⟩ => ?_)
  subst ex
  obtain rfl : u = Value.ref a := rx
  exact ⟨dict_typeIs I2 g, d_getItem hu I2 g ry fun w' s3 I3 rw' => ⟨v, H2, I3, rw', q2⟩⟩
theorem pc_din (hu : X.A.units + 1 < cLine) (hi : PE X i ty) (ho : PE X o td) : PC X .In i o (tDIn ty td) := by
  intro pins s σ H Q I h
  refine thn (hi pins s σ H _ I h) fun iv s1 ⟨y, H1, I1, ry, q1⟩ => thn (ho pins s1 σ H1 _ I1 q1) fun u s2 ⟨x, H2, I2, rx, a, ov, ex, g, q2⟩ => ?_
  subst ex
  obtain rfl : u = Value.ref a := rx
  exact d_in hu I2 g ry fun s3 I3 => ⟨.bl ov.isSome, H2, I3, rfl, q2⟩
theorem ps_dput (hu : X.A.units + 1 < cLine) (ho : PE X o td) (hi : PE X i ty) (hv : PE X value tv) (hs : swapsWith value (some (.Subscript o i pos')) pos.line X.env = pure false) :
    PS X (.Assign [.Subscript o i pos'] value pos) (sDPut td ty tv) := by
  intro pins s σ H D I h
  refine wpAny_Assign_Subscript (thn (hv pins s σ H _ I h) fun r s1 ⟨v, H1, I1, rv, q1⟩ => thn (ho pins s1 σ H1 _ I1 q1) fun u s2 ⟨x, H2, I2, rx, q2⟩ => thn (hi pins s2 σ H2 _ I2 q2) fun iv s3 ⟨y, H3, I3, ry, a, H4, ex, g, q3⟩ => ?_) hs
  subst ex
  obtain rfl : u = Value.ref a := rx
  exact d_setItem hu I3 g ry rv fun s4 I4 => ⟨σ, H4, I4, q3⟩
end
theorem dk_empty {P : Program} {w : World} {H : Hp} (h : Heap) (hb : sysModules < h.objs.size) : ObjOk P w H (h.push { cls := .type "dict", data := .dict #[] }) h.objs.size (.dK []) :=
  ⟨Nat.zero_le _, beq_eq_false_iff_ne.mpr (Ne.symm (Nat.ne_of_lt hb)), [], .nil, Heap.DictOf.new h⟩
def tDNewK : TE := fun _ H Q => ∀ p, H p = none → Q (.ref p) (upd H p (.dK []))
section
variable {X : Cx} {pos : Pos}
theorem pe_dnewK : PE X (.Dict [] [] pos) tDNewK := fun pins s σ H Q I h =>
  wpAny_Dict_empty ⟨.ref s.heap.objs.size, _, I.laid (a := s.heap.objs.size) (o := .dK []) (t' := s.toks) (fun _ _ q => Heap.get?_push_of_some _ q) (Nat.le_refl _) (dk_empty s.heap I.big), rfl, h _ (I.hok.fresh (Nat.le_refl _))⟩
end
section
variable {X : Cx} {pins : List (Addr × Obj)} {σ : St} {H : Hp} {s : Shared} {a : Addr} {y d : V} {u r : Value} {o : Option V} {A : Around} {E : Value → Shared → Prop}
end
section
variable {X : Cx} {o e f : Expr} {apos cpos : Pos} {td ty tx : TE}
end
section
variable {X : Cx} {pins : List (Addr × Obj)} {σ : St} {H : Hp} {s : Shared} {a : Addr} {kvs : List (Key × V)} {A : Around} {E : Value → Shared → Prop}
end
section
variable {X : Cx} {pins : List (Addr × Obj)} {σ : St} {H : Hp} {s : Shared} {a : Addr} {y : V} {u : Value} {A : Around} {E : Value → Shared → Prop}
end
end L2
namespace Att
open PySem PySem.W PySem.Calls PyProof.Rows
theorem ints_of_wellAll {P : Params} {h : Heap} : ∀ (ns : List Int) (vs : List Value), WellAll P h vs (ns.map WData.int) → IntsAre vs ns := by
  intro ns
  induction ns with
  | nil =>
    intro vs w
    rw [List.map_nil] at w
    cases w
    exact .nil
  | cons n ns ih =>
    intro vs w
    rw [List.map_cons] at w
    cases w with
    | cons a b =>
      cases a
      exact .cons _ _ (ih _ b)
theorem script_of {l : OpenLaw} {n : Nat} (hn : l.most = some n) {P : Params} {h : Heap} {args : List WData} {vals : List Value}
    (hpre : l.row.toRowW.claim.pre args = true) (hwl : WellAll P h vals args) :
    ∃ a vs ns, vals = [Value.ref a] ∧ args = [WData.list (ns.map WData.int)] ∧ h.get? a = some { cls := .type "list", data := .seq vs.toArray } ∧ IntsAre vs ns ∧ ns.length ≤ n := by
  have hsh : WShape.hasAll [] args [.list .int] = true := (pre_splitW hpre).1
  have hc : l.pre.holds [] { args := args } = true := (pre_splitW hpre).2
  obtain ⟨d, r, rfl, h1, h2⟩ := hasAllW_cons hsh
  obtain rfl := hasAllW_nil h2
  obtain ⟨xs, rfl, h3⟩ := hasW_list h1
  obtain ⟨ns, rfl⟩ := items_int h3
  have hlen : ns.length ≤ n := by
    unfold OpenLaw.pre at hc
    have h4 : (WTm.not (.lt (.lit (.int (n : Int))) (.len (.arg 0)))).holds [] { args := [.list (ns.map .int)] } = true := by
      have h4 := (holds_andW hc).1
      rw [hn] at h4
      exact h4
    have h5 := condW_of h4 (w_not (w_lt w_lit (w_len_list (w_arg rfl))))
    rw [List.length_map] at h5
    refine Nat.le_of_not_lt fun q => ?_
    have q' : (n : Int) < ((ns.length : Nat) : Int) := by omega
    first
      | (rw [decide_eq_true q'] at h5; exact absurd h5 (by decide))
      | (simp at h5; omega)
  cases hwl with
  | cons w1 w2 =>
    cases w2
    cases w1 with
    | list ho hall => exact ⟨_, _, ns, rfl, rfl, ho, ints_of_wellAll ns _ hall, hlen⟩
theorem post_true (l : OpenLaw) (args : List WData) : l.row.toRowW.claim.post args (.bool true) args = true :=
  postW_of (r := l.row.toRowW) (X := (true == true))
    (show WShape.has [] (.bool true) .bool = true by first | rfl | decide | simp [WShape.has, WShape.arms, WShape.armsAll])
    (show (WTm.eq .res (.lit (.bool true))).value [] { args := args, res := some (.bool true), after := args } = some (.bool (true == true)) from w_eq_bool (w_res rfl) w_lit) rfl
theorem attach_call {l : OpenLaw} {n : Nat} {q : Program} {loose : List Str} {XP : (Str → Option Value) → Heap → Prop} {YP : World → Heap → Prop} {d : DefRec}
    (hn : l.most = some n) (hdf : d.params.defaults = [])
    (call : ∀ (w : World) (s₀ s₁ : Shared) (mg mb : Str → Option Value) (fa : Addr) (o : Obj) (pm cd doc : Value) (a : Addr) (vs : List Value) (ns : List Int),
      Ground q loose [] XP w s₀ mg mb s₁.heap → YP w s₁.heap →
      s₁.heap.get? fa = some o → o.data = .func (docDef d.name d.params d.body d.scope pm cd doc) → s₁.heap.CodeRec cd d.name → mg d.name = some (.ref fa) →
      s₁.heap.get? a = some { cls := .type "list", data := .seq vs.toArray } → IntsAre vs ns → ns.length ≤ n → s₁.gens = #[] →
      codeAny (model l.prog w) callerA (.call (.ref fa) ⟨[.ref a], []⟩) (fun r s' => r = .ok (.ret (.bool true)) ∧ OldK s₁.heap s'.heap ∧ s'.os = s₁.os ∧ AllBare s'.gens) s₁) :
    WalkO q loose XP YP l.row.toRowW d [] (fun f vs => PySem.call f vs) := by
  intro w s₀ s₁ mg mb G Y fa o pm cd doc dV kV ho hd hcd hD hmg hg args vals as hpre hlay hrd hwl hlo
  obtain rfl : dV = .none := Dflts.none hD hdf
  obtain rfl : kV = .none := Dflts.noKw hD
  obtain ⟨a, vs, ns, rfl, rfl, hobj, hints, hlen⟩ := script_of hn hpre hwl
  refine enter_call (codeAny_mono (call w s₀ s₁ mg mb fa o pm cd doc a vs ns G Y ho (fd_plain hd) hcd hmg hobj hints hlen hg) fun r s' hq => ?_)
  obtain ⟨rfl, h2, h3, h4⟩ := hq
  exact ⟨.inl ⟨.bool true, .bool true, [], rfl, fun _ => rfl, .bool true, post_true l _, fun _ => ⟨List.Pairwise.nil, fun _ hm => (nomatch hm)⟩⟩, h2, h3, h4⟩
section
variable {prog : Program} {w : World} {A : Around} {E : Value → Shared → Prop} {s : Shared} {K : Frag}
end
end Att
namespace L2
open PySem PySem.Spec PyProof.Rows
theorem vals_ints : ∀ {vs : List Value} {ns : List Int}, IntsAre vs ns → Vals (ns.map V.int) vs
  | _, _, .nil => .nil
  | _, _, .cons n t h => .cons ⟨t, rfl⟩ (vals_ints h)
def Only (H : Hp) : Prop := ∀ b, H b = none ∨ ∃ o xs, H b = some (.frz o (.lst xs))
theorem law_call {P : Program} {w : World} {K : PySem.W.Frag} {mg mb : Str → Option Value} {CX : CXT} {k : Nat} {fa a : Addr} {fd : FuncData} {x : Str} {sp : Sp} {s₁ : Shared} {vs : List Value} {ns : List Int}
    (KX : K.In s₁.heap) (hns : s₁.heap.Ns mainGlobals mg) (hb : s₁.heap.Ns builtinsNs mb) (hbb : ∀ x : Str, x ≠ "__name__" → mb x = bootBuiltins x) (hlim : s₁.heap.NoLimit) (hg : s₁.gens = #[])
    (ha : s₁.heap.get? a = some { cls := .type "list", data := .seq vs.toArray }) (hi : IntsAre vs ns) (hl : ns.length ≤ sizeLine) (hr : Room k callerA)
    (F : ∀ base : Heap, K.In base → base.Ns mainGlobals mg → FnOk P w K mg base CX k fa fd [x] sp) (hbind : ∀ (s : Shared) (u : Value), BindsTo s fd ⟨[u], []⟩ [(x, u)])
    (hsp : ∀ H : Hp, Only H → SqL K H a (ns.map V.int) → sp [.ref a] H (fun v _ => v = .bl true) fun _ _ _ => False)
    (hCX : ∀ H e s', CX [] H s₁ (fun _ _ _ => False) e s' → False) :
    codeAny (model P w) callerA (.call (.ref fa) ⟨[.ref a], []⟩) (fun r s' => r = .ok (.ret (.bool true)) ∧ OldK s₁.heap s'.heap ∧ s'.os = s₁.os ∧ AllBare s'.gens) s₁ := by
  have rv := vals_ints hi
  have lenV := hi.length
  have core : ∀ H : Hp, Only H → SqL K H a (ns.map V.int) → HOk P w H s₁.heap → (∀ b, H b ≠ none → b = a) → (H a ≠ none → K.lookup a = none) →
      codeAny (model P w) callerA (.call (.ref fa) ⟨[.ref a], []⟩) (fun r s' => r = .ok (.ret (.bool true)) ∧ OldK s₁.heap s'.heap ∧ s'.os = s₁.os ∧ AllBare s'.gens) s₁ := by
    intro H hO hS hok hA hK
    have base_of : ∀ {b : Addr} {o : Obj}, s₁.heap.get? b = some o → H b = none → (hidT s₁.heap H).get? b = some o := fun e n => hidT_get e n
    have noA : ∀ {b : Addr} {o : Obj} {es : Array DictEntry} {ep : Nat}, s₁.heap.get? b = some o → o.data = .dict es ep → H b = none := fun {b o es ep} e d => by
      cases q : H b with
      | none => rfl
      | some u =>
        have e' : b = a := hA b (by rw [q]; simp)
        subst e'
        rw [ha] at e; cases e
        have d' : Data.seq vs.toArray _ = Data.dict es ep := d
        cases d'
    have nsK : ∀ {b : Addr} {m : Str → Option Value}, s₁.heap.Ns b m → (hidT s₁.heap H).Ns b m := fun {b m} ⟨o, es, ep, e, d, r⟩ => ⟨o, es, ep, base_of e (noA e d), d, r⟩
    have hKb : K.In (hidT s₁.heap H) := fun b o e => base_of (KX b o e) (by
      cases q : H b with
      | none => rfl
      | some u =>
        have e' : b = a := hA b (by rw [q]; simp)
        subst e'
        rw [hK (by rw [q]; simp)] at e; cases e)
    have hM : Mod K mg (hidT s₁.heap H) := ⟨hKb, nsK hns, ⟨mb, nsK hb, hbb⟩, let ⟨mc, h1, h2⟩ := hlim; ⟨mc, nsK h1, h2⟩⟩
    have e0 : Env0 P w K mg (hidT s₁.heap H) callerA [] s₁ H := ⟨rfl, hM, fun b o e => of_hidT e, Nat.le_of_eq (hidT_size _ _), trivial, fun b hb => absurd (show b ∈ ([] : List Addr) from hb) (by simp), hok, .of_eq hg⟩
    refine codeAny_mono ((F _ hKb (nsK hns)).run callerA [] s₁ H ⟨[.ref a], []⟩ [.ref a] [.ref a] _ _ hr e0 (hbind s₁ (.ref a)) (.cons rfl .nil) (hsp H hO hS)) fun r s' h => ?_
    cases r with
    | error e => exact (hCX H e s' h).elim
    | ok fl =>
      cases fl with
      | next => exact False.elim h
      | brk => exact False.elim h
      | cont => exact False.elim h
      | ret u =>
        obtain ⟨v, H', os, bare, un, hok', r', q⟩ := h
        have q' : v = .bl true := q
        subst q'
        obtain rfl : u = Value.bool true := r'
        refine ⟨rfl, OldK.of_keep fun b o e => ?_, os, bare⟩
        cases q : H b with
        | none => exact un.keep b o e q (by intro z; exact absurd (show b ∈ ([] : List Addr) from z) (by simp)) (by simp)
        | some u =>
          rcases hO b with z | ⟨ob, xs, z⟩
          · rw [q] at z; cases z
          · have z2 := un.frzs b ob _ z
            obtain ⟨e1, _⟩ := hok b _ z
            obtain ⟨e2, _⟩ := hok' b _ z2
            rw [e] at e1; cases e1
            exact e2
  cases hk : K.lookup a with
  | some o =>
    have e := KX a o hk
    rw [ha] at e
    cases e
    refine core (fun _ => none) (fun _ => .inl rfl) (.inr ⟨_, vs.toArray, _, hk, rfl, rfl, rfl, by rw [List.size_toArray, lenV]; exact hl, by simpa using rv⟩) (fun b u z => by have z' : (none : Option HO) = some u := z; cases z') (fun b z => absurd rfl z) fun z => absurd rfl z
  | none =>
    refine core (fun b => if b = a then some (.frz { cls := .type "list", data := .seq vs.toArray } (.lst (ns.map V.int))) else none) (fun b => ?_) (.inl (.inr ⟨{ cls := .type "list", data := .seq vs.toArray }, if_pos rfl⟩)) (fun b u z => ?_) (fun b z => ?_) fun _ => hk
    · by_cases hb : b = a
      · exact .inr ⟨_, _, if_pos hb⟩
      · exact .inl (if_neg hb)
    · by_cases hb : b = a
      · have z' := (if_pos hb).symm.trans z
        cases z'
        subst hb
        exact ⟨ha, by rw [List.length_map]; exact hl, vs, _, rv, ha⟩
      · have z' := (if_neg hb).symm.trans z
        cases z'
    · by_cases hb : b = a
      · exact hb
      · exact absurd (if_neg hb) z
end L2
namespace L2
open PySem PySem.Spec PyProof.Rows
theorem walk_of {l : PySem.W.OpenLaw} {n k : Nat} {q : Program} {loose : List Str} {XP : (Str → Option Value) → Heap → Prop} {YP : World → Heap → Prop} {d : DefRec} {K : Params → PySem.W.Frag} {CX : World → CXT} {sp : World → Sp} {x : Str}
    (hn : l.most = some n) (hn2 : n ≤ sizeLine) (hdf : d.params.defaults = []) (hr : Room k callerA)
    (hY : ∀ (w : World) (h : Heap), YP w h → (K w.params).In h)
    (F : ∀ (w : World) (mg : Str → Option Value) (fa : Addr) (h : Heap), (K w.params).In h → h.Ns mainGlobals mg → mg d.name = some (.ref fa) →
      ∃ fd : FuncData, (∀ (s : Shared) (u : Value), BindsTo s fd ⟨[u], []⟩ [(x, u)]) ∧
        ∀ base : Heap, (K w.params).In base → base.Ns mainGlobals mg → FnOk l.prog w (K w.params) mg base (CX w) k fa fd [x] (sp w))
    (hsp : ∀ (w : World) (H : Hp) (a : Addr) (ns : List Int), ns.length ≤ n → Only H → SqL (K w.params) H a (ns.map V.int) → sp w [.ref a] H (fun v _ => v = .bl true) fun _ _ _ => False)
    (hCX : ∀ (w : World) (H : Hp) (s : Shared) (e : Value) (s' : Shared), CX w [] H s (fun _ _ _ => False) e s' → False) :
    PySem.W.WalkO q loose XP YP l.row.toRowW d [] (fun f vs => PySem.call f vs) := by
  refine Att.attach_call hn hdf fun w s₀ s₁ mg mb fa o pm cd doc a vs ns G Y ho hd hcd hmg hobj hints hlen hg => ?_
  have KX := hY w _ Y
  obtain ⟨fd, hb, hF⟩ := F w mg fa _ KX G.T.g hmg
  exact law_call KX G.T.g G.T.b G.T.builtins G.T.nolimit hg hobj hints (Nat.le_trans hlen hn2) hr hF hb (fun H hO hS => hsp w H a ns hlen hO hS) fun H e s' => hCX w H s₁ e s'
end L2
namespace L2
open PySem PySem.Spec PyProof.Rows
def defArgs (s : Stmt) : Arguments := match s with
  | .FunctionDef _ a _ _ _ _ _ _ _ _ => a
  | _ => { posonlyargs := [], args := [], vararg := none, kwonlyargs := [], kw_defaults := [], kwarg := none, defaults := [] }
def defBody (s : Stmt) : List Stmt := match s with
  | .FunctionDef _ _ b _ _ _ _ _ _ _ => b
  | _ => []
def defScope (s : Stmt) : Scope := match s with
  | .FunctionDef _ _ _ _ _ _ sc _ _ _ => sc
  | _ => { kind := .function, names := [], isGenerator := false, isCoroutine := false }
abbrev CX0 : CXT := fun _ _ _ _ _ _ => False
abbrev E0 : XK := fun _ _ _ => False
theorem pass0 {X : Cx} : Passes CX0 X E0 := fun _ _ _ _ _ _ _ h => h.elim
structure Fun (K : PySem.W.Frag) (x qual : Str) (st : Stmt) (f : Addr) (fd : FuncData) : Prop where
  ex : ∃ (oc : Value) (od : Option Addr) (kV doc pm : Value) (an : Option Addr) (cdv ct : Value) (osl : Array (Option Value)),
    fd = PySem.W.fnOf x qual (defArgs st) (defBody st) (defScope st) .none kV doc pm an cdv ct ∧ K.lookup f = some ⟨oc, od, .func fd, osl⟩ ∧ PySem.W.codeIn K cdv qual = true
  kp : PySem.W.keepIn K (.ref f) = true
section
variable {P : Program} {w : World} {K : PySem.W.Frag} {mg : Str → Option Value} {base : Heap}
theorem Fun.ok {x qual : Str} {st : Stmt} {f : Addr} {fd : FuncData} {N ps : List Str} {k : Nat} {sp : Sp} (F : Fun K x qual st f fd) (S : FnScope N ps (defScope st)) (len : ∀ vs H Q E, sp vs H Q E → vs.length = ps.length)
    (hbody : ∀ (cdv : Value) (A : Around) (outer : List Env) (s : Shared) (H : Hp) (vs : List V) (Q : VK) (E : XK), Room k (A.deeper (envOfC qual (defScope st) s.heap.objs.size f cdv)) → sp vs H Q E →
      ∃ t, PSs (cxOf CX0 P w K mg base N qual (defScope st) f cdv A outer s H E).nox (defBody st) t ∧ t { nx := fun _ H' => Q .non H', rt := Q } (start N vs) H) : FnOk P w K mg base CX0 (k + 1) f fd ps sp := by
  obtain ⟨oc, od, kV, doc, pm, an, cdv, ct, osl, rfl, lk, hcd⟩ := F.ex
  refine fn_of lk hcd S len fun A outer s H vs Q E hr hsp => ?_
  obtain ⟨t, h, q⟩ := hbody cdv A outer s H vs Q E hr hsp
  exact ⟨t, h.nox, q⟩
theorem Fun.binds {x qual : Str} {st : Stmt} {f : Addr} {fd : FuncData} {ps : List Str} (F : Fun K x qual st f fd)
    (h : ∀ (kV doc pm : Value) (an : Option Addr) (cdv ct : Value) (us : List Value), us.length = ps.length → bindArgs (PySem.W.fnOf x qual (defArgs st) (defBody st) (defScope st) .none kV doc pm an cdv ct) ⟨us, []⟩ = pure (ps.zip us)) : Binds K fd ps [] := by
  obtain ⟨oc, od, kV, doc, pm, an, cdv, ct, osl, rfl, lk, hcd⟩ := F.ex
  exact .all (h kV doc pm an cdv ct)
theorem fun_mk {x qual : Str} {st : Stmt} {f : Addr} {oc : Value} {od an : Option Addr} {osl : Array (Option Value)} {kV doc pm cdv ct : Value} (l : K.lookup f = some ⟨oc, od, .func (PySem.W.fnOf x qual (defArgs st) (defBody st) (defScope st) .none kV doc pm an cdv ct), osl⟩)
    (c : PySem.W.codeIn K cdv qual = true) (k : PySem.W.keepIn K (.ref f) = true) : Fun K x qual st f (PySem.W.fnOf x qual (defArgs st) (defBody st) (defScope st) .none kV doc pm an cdv ct) := ⟨⟨oc, od, kV, doc, pm, an, cdv, ct, osl, rfl, l, c⟩, k⟩
end
theorem hu_of {A : Around} {k : Nat} (hr : Room k A) : A.units + 1 < cLine := Nat.lt_of_le_of_lt (Nat.add_le_add_left (by decide : 1 ≤ 64) _) hr.units
theorem small1000 {n : Nat} (h : n ≤ 1000) : n < sizeLine := Nat.lt_of_le_of_lt h (by decide)
section
variable {X : Cx}
theorem pv (i : Nat) {x : Str} {pos : Pos} (hN : X.N[i]? = some x := by rfl) (hv : Vis X.env.scope x := by first | exact Or.inl rfl | exact Or.inr (Or.inl rfl) | exact Or.inr (Or.inr rfl)) (hd : (x == ("__debug__" : Str)) = false := by decide)
    (hcd : (x == ("__classdict__" : Str)) = false := by decide) : PE X (.Name x pos) (tVar i) := pe_var hN hv hd hcd
end
theorem iteF {A B : Prop} (h : B) : if false = true then A else B := by
  rw [if_neg Bool.false_ne_true]
  exact h
theorem iteT {A B : Prop} (h : A) : if true = true then A else B := by
  rw [if_pos rfl]
  exact h
theorem ite2 {c A B : Prop} [Decidable c] (h1 : c → A) (h2 : ¬ c → B) : if c then A else B := by
  by_cases h : c
  · rw [if_pos h]
    exact h1 h
  · rw [if_neg h]
    exact h2 h
def Same (H H' : Hp) : Prop := ∀ b o, H b = some o → H' b = some o
theorem Same.refl (H : Hp) : Same H H := fun _ _ h => h
theorem Same.trans {H H1 H2 : Hp} (a : Same H H1) (b : Same H1 H2) : Same H H2 := fun c o h => b c o (a c o h)
theorem Same.free {H H' : Hp} (e : Same H H') {l : Addr} (h : H' l = Option.none) : H l = Option.none := by
  cases q : H l with
  | none => rfl
  | some o =>
    rw [e l o q] at h
    cases h
theorem Same.seq {K : PySem.W.Frag} {H H' : Hp} {a : Addr} {xs : List V} (e : Same H H') (h : SqL K H a xs) : SqL K H' a xs := by
  rcases h with (h | ⟨o, h⟩) | h
  · exact .inl (.inl (e _ _ h))
  · exact .inl (.inr ⟨o, e _ _ h⟩)
  · exact .inr h
end L2
namespace L2
open PySem PySem.Spec PyProof.Rows
section
variable {X : Cx}
end
section
variable {κ : Type} [DecidableEq κ]
end
end L2
set_option Elab.async false
set_option linter.all false
set_option maxRecDepth 100000
set_option maxHeartbeats 4000000
namespace L2
open PySem PySem.Spec PyProof.Rows
section
variable {X : Cx} {pins : List (Addr × Obj)} {σ : St} {H : Hp} {s : Shared}
theorem Inv.moved {h' : Heap} {t' : Nat} {ch : List Addr} (I : Inv X pins σ H s) (hf : ∀ b ∈ ch, FpOk X pins H b)
    (k : ∀ b o, b ∉ ch → s.heap.get? b = some o → h'.get? b = some o) : Inv X pins σ H { s with heap := h', toks := t' } := by
  have nit : ∀ b u, H b = some u → b ∉ ch := fun b u e z => by
    have := (hf b z).1
    rw [this] at e; cases e
  refine I.step (g' := s.gens) (d' := s.drawn) (ch := ch) (fun b hb => ?_) (fun b o _ _ hc e _ => k b o hc e) (fun b o _ _ hc e _ => ⟨o.slots, k b o hc e⟩) (fun _ _ _ _ n => n)
    (fun b o hc e => ⟨o, k b o hc e⟩) (fun _ _ e => e) (fun _ _ _ e => e) (fun b ps e => ⟨#[], by rw [e]; simp⟩) (fun m hm => ?_) (fun b u e => ?_) I.bare
  · obtain ⟨f0, f1, f2, f3, f4, f5⟩ := hf b hb
    exact ⟨f3, f1, f4, f5⟩
  · obtain ⟨o, es, ep, ho, r⟩ := hm
    exact ⟨o, es, ep, k _ o (fun z => (hf _ z).2.1 rfl) ho, r⟩
  · refine (I.hok b u e).stay (fun c v hc q => k c v ?_ q) (fun _ q => q) fun _ _ q => q
    rcases hc with z | z
    · rw [z]; exact nit b u e
    · exact nit c _ z
theorem Inv.track {a : Addr} {o : HO} (I : Inv X pins σ H s) (f : FpOk X pins H a) (new : ObjOk X.prog X.w (upd H a o) s.heap a o) : Inv X pins σ (upd H a o) s := by
  obtain ⟨f0, f1, f2, f3, f4, f5⟩ := f
  have hne : ∀ b u, H b = some u → b ≠ a := fun b u e z => by rw [z, f0] at e; cases e
  have hok : HOk X.prog X.w (upd H a o) s.heap := fun b u e => by
    by_cases hb : b = a
    · subst hb; rw [upd_same] at e; cases e; exact new
    · rw [upd_ne hb] at e
      exact (I.hok b u e).stay (fun c v _ q => q) (fun c q => by rw [upd_ne (hne c _ q)]; exact q) fun c xs q => by rw [upd_ne (hne c _ q)]; exact q
  have B := I.base
  refine ⟨I.ok, I.os, I.bare, ⟨B.keep, B.slot, fun b ob e n hx => ?_, B.there, fun b xs e => ?_, fun b ob xs e => ?_, fun b ps e => ?_⟩, I.loc, I.cell, ?_, fun x c e => ?_, fun p hp => ?_, hok, I.len⟩
  · have z : b ≠ a := by
      rintro rfl
      rcases f3 with z | z
      · exact hx z
      · exact absurd (Nat.lt_of_lt_of_le (Heap.lt_size e) z) (Nat.lt_irrefl _)
    rw [upd_ne z]; exact B.free b ob e n hx
  · have q := B.tups b xs e
    rw [upd_ne (hne b _ q)]; exact q
  · have q := B.frzs b ob xs e
    rw [upd_ne (hne b _ q)]; exact q
  · obtain ⟨mo, q⟩ := B.tbls b ps e
    exact ⟨mo, by rw [upd_ne (hne b _ q)]; exact q⟩
  · rw [upd_ne (Ne.symm f1)]; exact I.free
  · rw [upd_ne (f4 x c e)]; exact I.freeC x c e
  · obtain ⟨e, n, ne, nf, d⟩ := I.pin p hp
    exact ⟨e, by rw [upd_ne (f5 p hp)]; exact n, ne, nf, d⟩
end
theorem forIn_fold {α β : Type} {f : α → β → Sem (ForInStep β)} (st : β → α → β) : ∀ (l : List α) (c : β), (∀ x ∈ l, ∀ c, f x c = pure (.yield (st c x))) → forIn l c f = (pure (l.foldl st c) : Sem β)
  | [], c, _ => rfl
  | x :: l, c, h => by
    rw [List.forIn_cons, h x List.mem_cons_self, pure_bind]
    exact forIn_fold st l (st c x) fun y hy => h y (List.mem_cons_of_mem _ hy)
def closStep (env : Env) (cs : List (Str × Addr)) (y : Str × NameKind) : List (Str × Addr) := if y.2 == .free then (y.1, (env.cells.lookup y.1).getD 0) :: cs else cs
def closOf (sc : Scope) (env : Env) : List (Str × Addr) := sc.names.foldl (closStep env) []
theorem clos_eq {sc : Scope} {env : Env} (h : ∀ y ∈ sc.names, y.2 = .free → ∃ c, env.cells.lookup y.1 = some c) : closureFor sc env = pure (closOf sc env) := by
  simp only [closureFor]
  rw [forIn_fold (closStep env) sc.names [] (fun x hx c => by
    obtain ⟨n, kind⟩ := x
    cases e : kind == NameKind.free with
    | false => simp [closStep, e]
    | true =>
      obtain ⟨a, ha⟩ := h _ hx (by simpa using e)
      simp [closStep, e, cellOf, ha])]
  rfl
theorem closStep_sound {env : Env} {cs : List (Str × Addr)} {y : Str × NameKind} (hy : y.2 = .free → ∃ c, env.cells.lookup y.1 = some c) (h : ∀ x c, cs.lookup x = some c → env.cells.lookup x = some c) :
    ∀ x c, (closStep env cs y).lookup x = some c → env.cells.lookup x = some c := fun x c e => by
  unfold closStep at e
  split at e
  · rename_i hf
    obtain ⟨a, ha⟩ := hy (by simpa using hf)
    rw [List.lookup_cons] at e
    split at e
    · rename_i hx
      have hx' : x = y.1 := by simpa using hx
      rw [hx', ha]
      rw [ha] at e
      exact e
    · exact h x c e
  · exact h x c e
theorem closStep_keeps {env : Env} {cs : List (Str × Addr)} {y : Str × NameKind} (hy : y.2 = .free → ∃ c, env.cells.lookup y.1 = some c) {x : Str} {c : Addr} (hc : env.cells.lookup x = some c) (h : cs.lookup x = some c) : (closStep env cs y).lookup x = some c := by
  unfold closStep
  split
  · rw [List.lookup_cons]
    split
    · rename_i hx
      have hx' : x = y.1 := by simpa using hx
      rw [← hx', hc]; rfl
    · exact h
  · exact h
theorem clos_go {env : Env} : ∀ (l : List (Str × NameKind)) (cs : List (Str × Addr)), (∀ y ∈ l, y.2 = .free → ∃ c, env.cells.lookup y.1 = some c) → (∀ x c, cs.lookup x = some c → env.cells.lookup x = some c) →
    (∀ x c, (l.foldl (closStep env) cs).lookup x = some c → env.cells.lookup x = some c) ∧
    (∀ x c, env.cells.lookup x = some c → (cs.lookup x = some c ∨ (x, NameKind.free) ∈ l) → (l.foldl (closStep env) cs).lookup x = some c)
  | [], cs, _, h => ⟨h, fun x c _ q => q.elim id fun z => nomatch z⟩
  | y :: l, cs, hl, h => by
    have hy := hl y List.mem_cons_self
    have ih := clos_go l (closStep env cs y) (fun z hz => hl z (List.mem_cons_of_mem _ hz)) (closStep_sound hy h)
    refine ⟨ih.1, fun x c hc q => ih.2 x c hc ?_⟩
    rcases q with q | q
    · exact .inl (closStep_keeps hy hc q)
    · rcases List.mem_cons.mp q with e | e
      · refine .inl ?_
        subst e
        simp [closStep, List.lookup_cons, hc]
      · exact .inr e
theorem closOf_sound {sc : Scope} {env : Env} (h : ∀ y ∈ sc.names, y.2 = .free → ∃ c, env.cells.lookup y.1 = some c) {x : Str} {c : Addr} (e : (closOf sc env).lookup x = some c) : env.cells.lookup x = some c :=
  (clos_go sc.names [] h (fun _ _ z => nomatch z)).1 x c e
theorem closOf_has {sc : Scope} {env : Env} (h : ∀ y ∈ sc.names, y.2 = .free → ∃ c, env.cells.lookup y.1 = some c) {x : Str} {c : Addr} (hm : (x, NameKind.free) ∈ sc.names) (e : env.cells.lookup x = some c) : (closOf sc env).lookup x = some c :=
  (clos_go sc.names [] h (fun _ _ z => nomatch z)).2 x c e (.inr hm)
theorem relabel_free {sc : Scope} {env : Env} (hcell : ∀ y ∈ sc.names, y.2 ≠ .cell) {x : Str} (h : (relabel sc env).names.lookup x = some .cell ∨ (relabel sc env).names.lookup x = some .free) : (x, NameKind.free) ∈ sc.names := by
  have go : ∀ (l : List (Str × NameKind)), (∀ y ∈ l, y.2 ≠ .cell) →
      ((l.map fun (n, k) => if (k == NameKind.free && env.scope.kind == .function && env.kindOf n == some .cell) then (n, NameKind.cell) else (n, k)).lookup x = some .cell ∨
       (l.map fun (n, k) => if (k == NameKind.free && env.scope.kind == .function && env.kindOf n == some .cell) then (n, NameKind.cell) else (n, k)).lookup x = some .free) → (x, NameKind.free) ∈ l := by
    intro l
    induction l with
    | nil => intro _ h; simp at h
    | cons y l ih =>
      obtain ⟨n, k⟩ := y
      intro hl h
      have hk : k ≠ .cell := hl (n, k) List.mem_cons_self
      by_cases hx : x = n
      · subst hx
        by_cases hf : k = .free
        · subst hf; exact List.mem_cons_self
        · exfalso
          have hf' : (k == NameKind.free) = false := by simpa using hf
          simp only [List.map_cons, hf', Bool.false_and, Bool.false_eq_true, if_false, List.lookup_cons, beq_self_eq_true] at h
          rcases h with h | h
          · exact hk (Option.some.inj h)
          · exact hf (Option.some.inj h)
      · have hx' : (x == n) = false := by simpa using hx
        refine List.mem_cons_of_mem _ (ih (fun z hz => hl z (List.mem_cons_of_mem _ hz)) ?_)
        rw [List.map_cons] at h
        by_cases hc : (k == NameKind.free && env.scope.kind == .function && env.kindOf n == some .cell) = true
        · simpa only [hc, if_true, List.lookup_cons, hx'] using h
        · simpa only [hc, Bool.false_eq_true, if_false, List.lookup_cons, hx'] using h
  exact go sc.names hcell h
theorem relabel_local {sc : Scope} {env : Env} {x : Str} (h : (relabel sc env).names.lookup x = some .local) : sc.names.lookup x = some .local := by
  have go : ∀ (l : List (Str × NameKind)),
      (l.map fun (n, k) => if (k == NameKind.free && env.scope.kind == .function && env.kindOf n == some .cell) then (n, NameKind.cell) else (n, k)).lookup x = some .local → l.lookup x = some .local := by
    intro l
    induction l with
    | nil => intro h; simp at h
    | cons y l ih =>
      obtain ⟨n, k⟩ := y
      intro h
      rw [List.map_cons] at h
      by_cases hx : x = n
      · subst hx
        by_cases hc : (k == NameKind.free && env.scope.kind == .function && env.kindOf x == some .cell) = true
        · simp [hc, List.lookup_cons] at h
        · simpa only [hc, Bool.false_eq_true, if_false, List.lookup_cons, beq_self_eq_true] using h
      · have hx' : (x == n) = false := by simpa using hx
        rw [List.lookup_cons, hx']
        refine ih ?_
        by_cases hc : (k == NameKind.free && env.scope.kind == .function && env.kindOf n == some .cell) = true
        · simpa only [hc, if_true, List.lookup_cons, hx'] using h
        · simpa only [hc, Bool.false_eq_true, if_false, List.lookup_cons, hx'] using h
  exact go sc.names h
def Cx.comp (X : Cx) (own N' : List Str) (sc : Scope) (s : Shared) (H : Hp) (C : Addr) (ex : List Addr) : Cx where
  prog := X.prog
  w := X.w
  K := X.K
  mg := X.mg
  base := X.base
  A := X.A
  N := own ++ N'
  s₀ := s
  H₀ := H
  env := compEnvC sc (closOf sc X.env) C X.env
  outer := X.stack
  stack := X.stack
  ex := ex
  fn := fun _ => false
  calm := X.calm
  pn := []
  xe := fun _ _ => False
structure CompScope (X : Cx) (own N' : List Str) (sc : Scope) : Prop where
  kind : sc.kind = .function
  nocell : ∀ y ∈ sc.names, y.2 ≠ .cell
  free : ∀ y ∈ sc.names, y.2 = .free → X.env.kindOf y.1 = some .cell ∨ X.env.kindOf y.1 = some .free
  loc : ∀ x ∈ N', sc.names.lookup x ≠ some .local
  len : N'.length = X.N.length
  same : ∀ (i : Nat) x, N'[i]? = some x → (x, NameKind.free) ∈ sc.names → X.N[i]? = some x
  names : ∀ y ∈ sc.names, y.2 = .local → sc.names.lookup y.1 = some .local
section
variable {X : Cx} {pins : List (Addr × Obj)} {σ : St} {H : Hp} {s : Shared} {own N' : List Str} {sc : Scope}
theorem CompScope.has (S : CompScope X own N' sc) (ok : X.Ok) : ∀ y ∈ sc.names, y.2 = .free → ∃ c, X.env.cells.lookup y.1 = some c := fun y hy hf => ok.has y.1 (S.free y hy hf)
theorem comp_start {fp : List Addr} {C : Addr} {h' : Heap} {t' : Nat} {m : Str → Option Value} (S : CompScope X own N' sc) (I : Inv X pins σ H s) (hf : ∀ b ∈ fp, FpOk X pins H b) (hfo : ∀ b ∈ fp, ∃ o, s.heap.get? b = some o)
    (hC : s.heap.objs.size ≤ C) (k : ∀ b o, s.heap.get? b = some o → h'.get? b = some o) (hn : h'.Ns C m) :
    Inv (X.comp own N' sc s H C fp) [] (List.replicate own.length none ++ σ) H { s with heap := h', toks := t' } := by
  have hh := S.has I.ok
  have ltC : ∀ b o, s.heap.get? b = some o → b ≠ C := fun b o e z => by
    subst z
    exact absurd (Nat.lt_of_lt_of_le (Heap.lt_size e) hC) (Nat.lt_irrefl _)
  refine ⟨⟨I.ok.mod, S.kind, I.ok.glob, I.ok.blt, hC, fun x y c h1 h2 => ?_, fun x hx => ?_, (fun _ _ z => nomatch z), I.ok.hd, I.ok.frames, .inl rfl, fun b hb => ⟨?_, fun x c e => ?_⟩, I.bs, Nat.le_trans I.ok.bsz I.sz, fun b o e hb => ?_, fun b hb => ?_, I.stack, I.stkFree⟩,
    rfl, I.bare, Un.kept k, ⟨m, hn, fun i x v h1 h2 h3 => ?_⟩, fun x c e => ?_, ?_, fun x c e => ?_, fun p hp => absurd (show p ∈ ([] : List (Addr × Obj)) from hp) (by simp), I.hok.kept k, ?_⟩
  · exact I.ok.inj x y c (closOf_sound hh h1) (closOf_sound hh h2)
  · have hm : (x, NameKind.free) ∈ sc.names := relabel_free (env := X.env) S.nocell hx
    obtain ⟨c, e⟩ := hh _ hm rfl
    exact ⟨c, closOf_has hh hm e⟩
  · obtain ⟨o, e⟩ := hfo b hb
    exact ltC b o e
  · exact (hf b hb).2.2.2.2.1 x c (closOf_sound hh e)
  · rcases (hf b hb).2.2.2.1 with z | z
    · exact I.ok.noex b o e z
    · exact absurd (Nat.lt_of_lt_of_le (Heap.lt_size e) (Nat.le_trans I.ok.bsz z)) (Nat.lt_irrefl _)
  · intro z
    rcases List.mem_cons.mp (I.stkSub b z) with e | e
    · exact (hf b hb).2.1 e
    · exact (hf b hb).2.2.1 e
  · by_cases hi : i < own.length
    · rw [List.getElem?_append_left (by simpa using hi), List.getElem?_replicate] at h2
      split at h2 <;> cases h2
    · have h1' : N'[i - own.length]? = some x := by
        have : (own ++ N')[i]? = some x := h1
        rwa [List.getElem?_append_right (by omega)] at this
      have h2' : σ[i - own.length]? = some (some v) := by
        rw [List.getElem?_append_right (by simpa using Nat.le_of_not_lt hi), List.length_replicate] at h2
        exact h2
      have hx : (relabel sc X.env).names.lookup x = some .cell ∨ (relabel sc X.env).names.lookup x = some .free := by
        rcases h3 with z | z
        · exact absurd (relabel_local (env := X.env) z) (S.loc x (List.mem_of_getElem? h1'))
        · exact z
      have hm : (x, NameKind.free) ∈ sc.names := relabel_free (env := X.env) S.nocell hx
      have kd := S.free _ hm rfl
      obtain ⟨m0, hn0, hl⟩ := I.loc
      obtain ⟨u, r, l⟩ := hl _ x v (S.same _ x h1' hm) h2' (by rcases kd with z | z; exact .inr (.inl z); exact .inr (.inr z))
      refine ⟨u, r, .inr ⟨hx, ?_⟩⟩
      rcases l with ⟨z, _⟩ | ⟨_, c, e, q⟩
      · exfalso
        rcases kd with y | y
        · have y' : X.env.kindOf x = some .cell := y
          rw [z] at y'; cases y'
        · have y' : X.env.kindOf x = some .free := y
          rw [z] at y'; cases y'
      · refine ⟨c, closOf_has hh hm e, ?_⟩
        obtain ⟨o, ho, hd⟩ := q
        exact ⟨o, k c o ho, hd⟩
  · obtain ⟨v, o, ho, hd⟩ := I.cell x c (closOf_sound hh e)
    exact ⟨v, o, k c o ho, hd⟩
  · exact I.hok.fresh hC
  · exact I.freeC x c (closOf_sound hh e)
  · show (List.replicate own.length none ++ σ).length = (own ++ N').length
    rw [List.length_append, List.length_append, List.length_replicate, I.len, S.len]
theorem comp_back {fp : List Addr} {C : Addr} {s' : Shared} {σ' : St} {H' : Hp} {pl : List (Addr × Obj)} (I : Inv X pins σ H s) (hf : ∀ b ∈ fp, FpOk X pins H b) (J : Inv (X.comp own N' sc s H C fp) pl σ' H' s') : Inv X pins σ H' s' :=
  I.call' (ch := fp) J.os J.base J.hok J.bare fun b hb => by
    obtain ⟨f0, f1, f2, f3, f4, f5⟩ := hf b hb
    exact ⟨f3, f1, f4, f5⟩
end
def testsOf (ifs : List Expr) (env : Env) : Sem Bool := forIn ifs true fun c r => if r = true then do let ok ← isTrue c env (eval c env); pure (ForInStep.yield ok) else pure (ForInStep.yield r)
def PF (Y : Cx) (ifs : List Expr) (t : TT) : Prop :=
  ∀ (pins : List (Addr × Obj)) (s : Shared) (σ : St) (H : Hp) (Q : Bool → Hp → Prop), Inv Y pins σ H s → t σ H Q → wpAny (model Y.prog Y.w) Y.A (testsOf ifs Y.env) (TP Y pins σ Q) Y.xe s
def tNoTest : TT := fun _ H Q => Q true H
theorem pf_nil {Y : Cx} : PF Y [] tNoTest := fun _ _ _ H _ I h => wpAny_pure ⟨H, I, h⟩
section
variable {prog : Program} {w : World} {A : Around} {R : Result → Shared → Prop} {s : Shared}
theorem comp_loop {elt tg iter : Expr} {ifs : List Expr} {sc : Scope} {pos : Pos} {it acc : Value} {env : Env} (J : Nat → Shared → Prop)
    (turn : ∀ n s, J n s → wpAny (model prog w) A (pyNext it) (fun r s1 => match r with
      | none => R (.ok .next) s1
      | some v => wpAny (model prog w) A (letOwnedTupleGo tg it v) (fun _ s2 => wpAny (model prog w) A (assign tg env v) (fun _ s3 =>
          wpAny (model prog w) A (testsOf ifs env) (fun ok s4 => if ok = true then wpAny (model prog w) A (eval elt env) (fun x s5 =>
              wpAny (model prog w) A (call (.builtin "list.append") [acc, x]) (fun _ s6 => ∃ m, m < n ∧ J m s6) (fun _ _ => False) s5) (fun _ _ => False) s4
            else ∃ m, m < n ∧ J m s4) (fun _ _ => False) s3) (fun _ _ => False) s2) (fun _ _ => False) s1) (fun _ _ => False) s)
    (n : Nat) (h0 : J n s) : codeAny (model prog w) A (.compLoop (.ListComp elt [⟨tg, iter, ifs, 0⟩] sc pos) 0 it acc env) R s := by
  refine codeAny_loop rfl J (fun k s1 hJ => ?_) n h0
  show wpAny (model prog w) A ((compTurn (.ListComp elt [⟨tg, iter, ifs, 0⟩] sc pos) 0 it acc env).onRaise (fun x => do noteFrame x env; theTreesLotGoes x)) _ _ s1
  refine wpAny_noted ?_
  rw [compTurn_list]
  have F : ∀ {E : Value → Shared → Prop} (e : Value) (s : Shared), False → E e s := fun _ _ z => z.elim
  refine wpAny_bind (wpAny_standAt (wpAny_bind (wpAny_mono (turn k s1 hJ) (fun r s2 h2 => ?_) F)))
  cases r with
  | none => exact wpAny_pure h2
  | some v =>
    refine wpAny_bind (wpAny_mono h2 (fun _ s3 h3 => ?_) F)
    refine wpAny_bind (wpAny_mono h3 (fun _ s4 h4 => ?_) F)
    refine wpAny_bind (wpAny_mono h4 (fun ok s5 h5 => ?_) F)
    cases ok with
    | false => exact wpAny_pure ⟨rfl, h5⟩
    | true => exact wpAny_bind (wpAny_bind (wpAny_mono h5 (fun x s6 h6 => wpAny_bind (wpAny_mono h6 (fun _ s7 h7 => wpAny_pure (wpAny_pure ⟨rfl, h7⟩)) F)) F))
end
def tCompW (J : It) (own : Nat) (g : TG) (tt : TT) (te : TE) (σ : St) (Q : List V → Hp → Prop) (W : Nat → Nat → List V → Hp → Prop) : Prop :=
  ∀ i m xs H, W i m xs H → (J.stop i H ∧ Q xs H) ∨
    (J.go i H ∧ xs.length < sizeLine ∧ ∃ N : List V → Hp → Prop, (∀ ys H', N ys H' → ∃ m', m' < m ∧ W (i + 1) m' ys H') ∧
      ∀ x H', J.yld i H x H' → g x (List.replicate own none ++ σ) H' fun σ2 H2 => ∃ o : St, o.length = own ∧ σ2 = o ++ σ ∧ tt σ2 H2 fun b H3 => if b = true then te σ2 H3 fun v H4 => N (xs ++ [v]) H4 else N xs H3)
def tComp (own : Nat) (wi : TI) (g : TG) (tt : TT) (te : TE) : TE := fun σ H Q => wi σ H fun J H1 => ∃ W : Nat → Nat → List V → Hp → Prop, (∃ m, W 0 m [] H1) ∧
  tCompW J own g tt te σ (fun xs H2 => ∀ p, H2 p = none → Q (.ref p) (upd H2 p (.lst xs))) W
section
variable {X : Cx} {pins : List (Addr × Obj)} {σ : St} {H : Hp} {s : Shared} {own N' : List Str} {sc : Scope} {elt tg iter : Expr} {ifs : List Expr} {pos : Pos} {g : TG} {tt : TT} {te : TE}
theorem comp_core {J : It} {fp : List Addr} {it : Addr} {tn : Nat → Heap → Prop} {W : Nat → Nat → List V → Hp → Prop} {Q : List V → Hp → Prop} {R : Value → Addr → Result → Shared → Prop} {E : Value → Shared → Prop}
    (S : CompScope X own N' sc) (hc : X.calm = true) (I : Inv X pins σ H s) (T : Turn X.prog X.w X.K tg J fp it tn) (h0 : tn 0 s.heap) (hf : ∀ b ∈ fp, FpOk X pins H b)
    (hg : ∀ s H C ex, PG (X.comp own N' sc s H C ex) tg g) (ht : ∀ s H C ex, PF (X.comp own N' sc s H C ex) ifs tt) (he : ∀ s H C ex, PE (X.comp own N' sc s H C ex) elt te)
    (w0 : ∃ m, W 0 m [] H) (turn : tCompW J own.length g tt te σ Q W)
    (fin : ∀ (D C : Addr) (H' : Hp) (xs : List V) (s' : Shared) (m : Str → Option Value), Inv X pins σ (upd H' D (.lst xs)) s' → H' D = none → s'.heap.Ns C m → FpOk X pins (upd H' D (.lst xs)) C → Q xs H' → R (.ref D) C (.ok .next) s') :
    wpAny (model X.prog X.w) X.A (newList []) (fun acc s3 => wpAny (model X.prog X.w) X.A (newFunctionEnv sc X.env.globals (closOf sc X.env) [] X.env.qual none .none (some X.env)) (fun cenv s4 =>
      codeAny (model X.prog X.w) X.A (.compStart (.ListComp elt [⟨tg, iter, ifs, 0⟩] sc pos) 0 (.ref it) acc { cenv with scope := relabel sc X.env }) (R acc cenv.locals) s4) E s3) E s := by
  refine wpAny_newObj_type (wpAny_newFunctionEnv S.nocell (by intro y hy; simp at hy) (fun h1 hn1 hs1 => ?_) S.kind)
  dsimp only at hn1 hs1 ⊢
  generalize hP : s.heap.push { cls := .type "list", dict := none, data := .seq ([] : List Value).toArray } = P1 at hn1 hs1 ⊢
  have zC : P1.objs.size = s.heap.objs.size + 1 := by rw [← hP, Heap.size_push]
  have DC : s.heap.objs.size ≠ P1.objs.size := by rw [zC]; exact Nat.ne_of_lt (Nat.lt_succ_self _)
  have CD : s.heap.objs.size ≤ P1.objs.size := by rw [zC]; exact Nat.le_succ _
  have low : ∀ b o, s.heap.get? b = some o → b ≠ P1.objs.size ∧ b ≠ s.heap.objs.size := fun b o e => by
    have := Heap.lt_size e
    exact ⟨by rw [zC]; exact Nat.ne_of_lt (Nat.lt_succ_of_lt this), Nat.ne_of_lt this⟩
  have old : ∀ b o, s.heap.get? b = some o → h1.get? b = some o := fun b o e => hs1.extBut b o (low b o e).1 (Heap.get?_push_of_some _ (hP ▸ Heap.get?_push_of_some _ e))
  have lst0 : h1.PlainList s.heap.objs.size #[] := ⟨_, hs1.extBut _ _ DC (Heap.get?_push_of_some _ (hP ▸ Heap.get?_push_size _ rfl))⟩
  have fpo : ∀ b ∈ fp, ∃ o, s.heap.get? b = some o := fun b hb => let ⟨o, e, _⟩ := T.obj _ _ h0 b hb; ⟨o, e⟩
  have Dfp : s.heap.objs.size ∉ fp := fun hb => by
    obtain ⟨o, e⟩ := fpo _ hb
    exact absurd (Heap.lt_size e) (Nat.lt_irrefl _)
  have I0 : Inv (X.comp own N' sc s H P1.objs.size fp) [] (List.replicate own.length none ++ σ) H { s with heap := h1, toks := s.toks + ([] : List (Str × Value)).length } := comp_start S I hf fpo CD old hn1
  have f0 : H s.heap.objs.size = none := I.hok.fresh (Nat.le_refl _)
  have fY : ∀ {H' : Hp} {pl : List (Addr × Obj)}, (∀ b ∈ fp, H' b = none) → (∀ p ∈ pl, p.1 = s.heap.objs.size) → ∀ b ∈ fp, FpOk (X.comp own N' sc s H P1.objs.size fp) pl H' b := fun {H' pl} hn hpl b hb => by
    obtain ⟨q0, q1, q2, q3, q4, q5⟩ := hf b hb
    refine ⟨hn b hb, (fun z => ?_), (fun z => ?_), .inl hb, (fun x c e => q4 x c (closOf_sound (S.has I.ok) e)), (fun p hp z => ?_)⟩
    · obtain ⟨o, e⟩ := fpo b hb
      exact (low b o e).1 z
    · rcases List.mem_cons.mp (I.stkSub b z) with e | e
      · exact q1 e
      · exact q2 e
    · have : p.1 = s.heap.objs.size := hpl p (by simpa using (show p ∈ ([] : List (Addr × Obj)) ++ pl from hp))
      rw [this] at z
      exact Dfp (z ▸ hb)
  have fD : ∀ {H' : Hp} {pl : List (Addr × Obj)}, H' s.heap.objs.size = none → (∀ p ∈ pl, p.1 ≠ s.heap.objs.size) → FpOk (X.comp own N' sc s H P1.objs.size fp) pl H' s.heap.objs.size := fun {H' pl} hn hpl => by
    refine ⟨hn, DC, (fun z => ?_), .inr (Nat.le_refl _), (fun x c e z => ?_), (fun p hp => hpl p (by simpa using (show p ∈ ([] : List (Addr × Obj)) ++ pl from hp)))⟩
    · rcases List.mem_cons.mp (I.stkSub _ z) with e | e
      · exact absurd I.lt (by rw [← e]; exact Nat.lt_irrefl _)
      · exact I.nofs (Nat.le_refl _) e
    · obtain ⟨v, q⟩ := I.cell x c (closOf_sound (S.has I.ok) e)
      exact absurd q.lt (by rw [z]; exact Nat.lt_irrefl _)
  have loop : ∀ s3 : Shared, s3 = { s with heap := h1, toks := s.toks + ([] : List (Str × Value)).length } →
      codeAny (model X.prog X.w) X.A (.compLoop (.ListComp elt [⟨tg, iter, ifs, 0⟩] sc pos) 0 (.ref it) (.ref s.heap.objs.size) (compEnvC sc (closOf sc X.env) P1.objs.size X.env)) (R (.ref s.heap.objs.size) P1.objs.size) s3 := by
    rintro s3 rfl
    obtain ⟨m0, w0⟩ := w0
    refine comp_loop (fun n s' => ∃ i xs its H', Inv (X.comp own N' sc s H P1.objs.size fp) [] (List.replicate own.length none ++ σ) H' s' ∧ s'.heap.PlainList s.heap.objs.size (List.toArray its) ∧ Vals xs its ∧ H' s.heap.objs.size = none ∧
        tn i s'.heap ∧ (∀ b ∈ fp, H' b = none) ∧ W i n xs H' ∧ xs.length ≤ sizeLine) ?_ m0
      ⟨0, [], [], H, I0, lst0, .nil, f0, T.keep _ _ _ h0 fun b _ o e => old b o e, fun b hb => (hf b hb).1, w0, Nat.zero_le _⟩
    rintro n s' ⟨i, xs, its, H', I', ⟨ln, hD⟩, rv, fD', st', ff', w', hz⟩
    have In : Inv (X.comp own N' sc s H P1.objs.size fp) [(s.heap.objs.size, { cls := .type "list", data := .seq its.toArray ln })] (List.replicate own.length none ++ σ) H' s' := I'.pins_of fun p hp => by
      obtain rfl : p = _ := List.mem_singleton.mp hp
      obtain ⟨q0, q1, q2, q3, q4, q5⟩ := fD (pl := []) fD' (fun _ z => nomatch z)
      exact ⟨hD, q0, q1, q2, fun v z => nomatch z⟩
    have pl1 : ∀ p ∈ [((s.heap.objs.size : Addr), ({ cls := .type "list", data := .seq its.toArray ln } : Obj))], p.1 = s.heap.objs.size := fun p hp => by
      obtain rfl : p = _ := List.mem_singleton.mp hp
      rfl
    rcases turn i n xs H' w' with ⟨stop, q⟩ | ⟨go, hlt, N, hN, step⟩
    · refine thn (T.done (X.comp own N' sc s H P1.objs.size fp) rfl rfl rfl hc i _ s' _ H' (fun _ _ => False) In (fY ff' pl1) st' stop) fun r s4 ⟨hr, I4⟩ => ?_
      subst hr
      obtain ⟨e4, n4, _⟩ := I4.pin (s.heap.objs.size, _) (List.mem_append_right _ (List.mem_singleton.mpr rfl))
      obtain ⟨m4, hm4, _⟩ := I4.loc
      have J4 : Inv X pins σ H' s4 := comp_back I hf I4
      have gD : FpOk X pins H' s.heap.objs.size := I.fpOk (Nat.le_refl _) fD'
      have J5 : Inv X pins σ (upd H' s.heap.objs.size (.lst xs)) s4 := J4.track gD ⟨hz, its, ln, rv, e4⟩
      refine fin _ _ H' xs s4 m4 J5 fD' hm4 (I.fpOk CD ?_) q
      rw [upd_ne (Ne.symm DC)]
      exact I4.free
    · refine thn (T.item (X.comp own N' sc s H P1.objs.size fp) rfl rfl rfl hc i _ s' _ H' (fun _ _ => False) In (fY ff' pl1) st' go) fun r s4 ⟨u, hr, h4⟩ => ?_
      subst hr
      refine thn h4 fun _ s5 ⟨x, H5, I5, r5, y5, st5, ff5⟩ => ?_
      have I5' := I5.pinned (fp := fp) (fun b hb => fY ff5 pl1 b hb) (T.obj _ _ st5)
      refine thn (hg s H P1.objs.size fp _ s5 _ H5 x u _ I5' r5 (step x H5 y5)) fun _ s6 ⟨σ6, H6, I6, o6, ho6, e6, q6⟩ => ?_
      have weak : ∀ {pl : List (Addr × Obj)} {H7 : Hp} {s7 : Shared}, Inv (X.comp own N' sc s H P1.objs.size fp) pl σ6 H7 s7 → Inv (X.comp own N' sc s H P1.objs.size fp) pl (List.replicate own.length none ++ σ) H7 s7 := fun {pl H7 s7} I7 =>
        I7.weak (by rw [e6, List.length_append, List.length_append, List.length_replicate, ho6]) fun j v hj => by
          by_cases hjo : j < own.length
          · rw [List.getElem?_append_left (by simpa using hjo), List.getElem?_replicate] at hj
            split at hj <;> cases hj
          · rw [List.getElem?_append_right (by simpa using Nat.le_of_not_lt hjo), List.length_replicate] at hj
            rw [e6, List.getElem?_append_right (by omega), ho6]
            exact hj
      have again : ∀ {H7 : Hp} {s7 : Shared}, Inv (X.comp own N' sc s H P1.objs.size fp) ([(s.heap.objs.size, { cls := .type "list", data := .seq its.toArray ln })] ++ pinsAt fp s5.heap) σ6 H7 s7 →
          tn (i + 1) s7.heap ∧ (∀ b ∈ fp, H7 b = none) ∧ s7.heap.get? s.heap.objs.size = some { cls := .type "list", data := .seq its.toArray ln } ∧ H7 s.heap.objs.size = none := fun {H7 s7} I7 => by
        refine ⟨T.keep _ _ _ st5 fun b hb o e => (I7.pin (b, o) (List.mem_append_right _ (List.mem_append_right _ (mem_pinsAt hb e)))).1, fun b hb => ?_, ?_⟩
        · obtain ⟨o, e, d⟩ := T.obj _ _ st5 b hb
          exact (I7.pin (b, o) (List.mem_append_right _ (List.mem_append_right _ (mem_pinsAt hb e)))).2.1
        · obtain ⟨e, n, _⟩ := I7.pin (s.heap.objs.size, _) (List.mem_append_right _ (List.mem_append_left _ (List.mem_singleton.mpr rfl)))
          exact ⟨e, n⟩
      refine thn (ht s H P1.objs.size fp _ s6 σ6 H6 _ I6 q6) fun ok s7 ⟨H7, I7, q7⟩ => ?_
      cases ok with
      | false =>
        obtain ⟨m', hm, w7⟩ := hN _ _ q7
        obtain ⟨a1, a2, a3, a4⟩ := again I7
        exact ⟨m', hm, i + 1, xs, its, H7, (weak I7).pins_of (fun _ z => nomatch z), ⟨ln, a3⟩, rv, a4, a1, a2, w7, hz⟩
      | true =>
        rw [if_pos rfl]
        refine thn (he s H P1.objs.size fp _ s7 σ6 H7 _ I7 q7) fun y s8 ⟨v, H8, I8, r8, n8⟩ => ?_
        obtain ⟨m', hm, w8⟩ := hN _ _ n8
        obtain ⟨a1, a2, a3, a4⟩ := again I8
        have hl := rv.length
        refine wpAny_list_append_plain (items := its.toArray) ⟨ln, a3⟩ (fun h9 p9 s9 => ?_) (by rw [List.size_toArray]; omega)
        have I9 : Inv (X.comp own N' sc s H P1.objs.size fp) [] (List.replicate own.length none ++ σ) H8 { s8 with heap := h9 } :=
          ((weak I8).pins_of (pins' := []) (fun _ z => nomatch z)).moved (t' := s8.toks) (ch := [s.heap.objs.size]) (fun b hb => by
            obtain rfl : b = _ := List.mem_singleton.mp hb
            exact fD a4 (fun _ z => nomatch z)) fun b o hb e => s9.extBut b o (fun z => hb (List.mem_singleton.mpr z)) e
        refine ⟨m', hm, i + 1, xs ++ [v], its ++ [y], H8, I9, by simpa using p9, rv.append (.cons r8 .nil), a4, T.keep _ _ _ a1 fun b hb o e => s9.extBut b o (fun z => Dfp (z ▸ hb)) e, a2, w8, ?_⟩
        rw [List.length_append, List.length_singleton]
        exact hlt
  exact codeAny_compStart_list (loop _ rfl) (T.self X.A 0 _ _ _ (T.keep _ _ _ h0 fun b _ o e => old b o e) (loop _ rfl))
theorem pe_comp {wi : TI} (S : CompScope X own N' sc) (hc : X.calm = true) (hi : PI X tg iter wi) (hg : ∀ s H C ex, PG (X.comp own N' sc s H C ex) tg g) (ht : ∀ s H C ex, PF (X.comp own N' sc s H C ex) ifs tt) (he : ∀ s H C ex, PE (X.comp own N' sc s H C ex) elt te)
    (hs : ∀ x, foldedSetIterable iter X.env x = pure x := by intro _; rfl) : PE X (.ListComp elt [⟨tg, iter, ifs, 0⟩] sc pos) (tComp own.length wi g tt te) := by
  intro pins s σ H Q I h
  rw [eval_ListComp]
  refine wpAny_comprehension_free (use := none) rfl hs (clos_eq (S.has I.ok)) S.kind S.names (thn (hi pins s σ H _ I h) fun v s1 h1 => thn h1 fun itv s2 h2 => ?_)
  obtain ⟨it, fp, tn, J, H2, e, I2, T, st2, f2, W, w0, turn⟩ := h2
  subst e
  refine comp_core (E := X.xe) (R := fun acc C => compPost (model X.prog X.w) X.A X.xe none (EP X pins σ Q) acc C) S hc I2 T st2 f2 hg ht he w0 turn ?_
  intro D C H' xs s' m I' hD hm fC q
  refine ⟨m, hm, fun h' hs' => ⟨.ref D, _, ?_, rfl, q D hD⟩⟩
  exact I'.moved (t' := s'.toks) (ch := [C]) (fun b hb => by
    obtain rfl : b = _ := List.mem_singleton.mp hb
    exact fC) fun b o hb e => hs'.extBut b o (fun z => hb (List.mem_singleton.mpr z)) e
theorem ps_comp {wi : TI} {i : Nat} {x : Str} {pos' spos : Pos} (S : CompScope X own N' sc) (hc : X.calm = true) (hN : X.N.Nodup) (hix : X.N[i]? = some x) (hx : Loc X.env.scope x) (hi : PI X tg iter wi) (hg : ∀ s H C ex, PG (X.comp own N' sc s H C ex) tg g)
    (ht : ∀ s H C ex, PF (X.comp own N' sc s H C ex) ifs tt) (he : ∀ s H C ex, PE (X.comp own N' sc s H C ex) elt te)
    (hsw : swapsWith (.ListComp elt [⟨tg, iter, ifs, 0⟩] sc pos) (some (.Name x pos')) spos.line X.env = pure true := by rfl) (hs : ∀ x, foldedSetIterable iter X.env x = pure x := by intro _; rfl)
    (hf : X.fn x = true ∨ X.env.scope.names.lookup x = some .local := by first | exact .inl rfl | exact .inr rfl | assumption) :
    PS X (.Assign [.Name x pos'] (.ListComp elt [⟨tg, iter, ifs, 0⟩] sc pos) spos) (tAsg (tComp own.length wi g tt te) (gName i)) := by
  intro pins s σ H D I h
  rw [exec_Assign_Name_used _ _ _ _ hsw]
  refine wpAny_bind (wpAny_standAt (wpAny_bind ?_))
  show wpAny (model X.prog X.w) X.A (do let _ ← comprehension (.ListComp elt [⟨tg, iter, ifs, 0⟩] sc pos) sc X.env _ (newList []) false (eval iter X.env) (some (assign (.Name x pos') X.env))) _ _ s
  refine wpAny_bind (wpAny_mono (wpAny_comprehension_free (use := some (assign (.Name x pos') X.env)) (Q := fun _ s' => SP X pins D .next s') rfl hs (clos_eq (S.has I.ok)) S.kind S.names
    (thn (hi pins s σ H _ I h) fun v s1 h1 => thn h1 fun itv s2 h2 => ?_)) (fun _ s' q => wpAny_pure (wpAny_pure q)) fun _ _ e => e)
  obtain ⟨it, fp, tn, J, H2, e, I2, T, st2, f2, W, w0, turn⟩ := h2
  subst e
  refine comp_core (E := X.xe) (R := fun acc C => compPost (model X.prog X.w) X.A X.xe (some (assign (.Name x pos') X.env)) (fun _ s' => SP X pins D .next s') acc C) S hc I2 T st2 f2 hg ht he w0 turn ?_
  intro L C H' xs s' m I' hD hm fC q
  show wpAny (model X.prog X.w) X.A (assign (.Name x pos') X.env (.ref L)) _ _ s'
  refine wpAny_assign_Name (store_ok2 (v := .ref L) I' hN hix hx rfl (fun s3 I3 ⟨a, sb, ha⟩ => ?_) hf)
  obtain ⟨c0, c1, c2, c3, c4, c5⟩ := id fC
  have hCa : C ≠ a := by
    rcases ha with z | z
    · rw [z]; exact c1
    · exact (c4 x a z).symm
  refine ⟨m, hm.sameBut sb hCa, fun h' hs' => ⟨_, _, ?_, q L hD⟩⟩
  exact I3.moved (t' := s3.toks) (ch := [C]) (fun b hb => by
    obtain rfl : b = _ := List.mem_singleton.mp hb
    exact fC) fun b o hb e => hs'.extBut b o (fun z => hb (List.mem_singleton.mpr z)) e
end
end L2
set_option Elab.async false
set_option linter.all false
set_option maxRecDepth 100000
set_option maxHeartbeats 4000000
namespace L2
open PySem PySem.Spec PyProof.Rows
def Iten (K : PySem.W.Frag) (a : Addr) : It :=
  ⟨fun i H => ∃ xs x, SqL K H a xs ∧ xs[i]? = some x, fun i H v H' => ∃ p x, H p = none ∧ (∀ xs, SqL K H a xs → xs[i]? = some x) ∧ v = .ref p ∧ H' = upd H p (.tup [.int i, x]), fun i H => ∃ xs, SqL K H a xs ∧ xs.length ≤ i⟩
def Itzp (K : PySem.W.Frag) (a b : Addr) : It :=
  ⟨fun i H => ∃ xs ys x y, SqL K H a xs ∧ SqL K H b ys ∧ xs[i]? = some x ∧ ys[i]? = some y,
   fun i H v H' => ∃ p x y, H p = none ∧ (∀ xs, SqL K H a xs → xs[i]? = some x) ∧ (∀ ys, SqL K H b ys → ys[i]? = some y) ∧ v = .ref p ∧ H' = upd H p (.tup [x, y]),
   fun i H => ∃ xs ys, SqL K H a xs ∧ SqL K H b ys ∧ (xs.length ≤ i ∨ ys.length ≤ i)⟩
def enumTn (e it a : Addr) (i : Nat) (h : Heap) : Prop := ∃ old, IsEnum h e it (i : Int) old ∧ h.IsListIter it a i
theorem turn_enum {P : Program} {w : World} {K : PySem.W.Frag} {elts : List Expr} {tk : Nat} {tp : Pos} (a e it : Addr) (hne : e ≠ it) : Turn P w K (.Tuple elts tk tp) (Iten K a) [e, it] e (enumTn e it a) where
  mem := by simp
  obj := fun i h st b hb => by
    obtain ⟨old, h1, ⟨o, h2, c, d⟩⟩ := st
    rcases List.mem_cons.mp hb with z | hb
    · subst z
      exact ⟨_, h1, fun v z => nomatch z⟩
    · obtain rfl : b = it := List.mem_singleton.mp hb
      exact ⟨o, h2, fun v z => by rw [d] at z; cases z⟩
  keep := fun i h h' st k => by
    obtain ⟨old, h1, h2⟩ := st
    exact ⟨old, k e (by simp) _ h1, h2.at fun o q => k it (by simp) o q⟩
  item := by
    intro X hP hw hK hc i pins s σ H E I hf st hg
    subst hP hw hK
    obtain ⟨xs, x, hq, hx⟩ := hg
    obtain ⟨its, rv, p, hz⟩ := I.list hq
    obtain ⟨u, hu, ru⟩ := rv.get hx
    obtain ⟨old, h1, h2⟩ := st
    refine wpAny_pyNext_enum_item h1 h2 p.isList (x := u) (by simpa using hu) hne fun h' a1 a2 a3 a4 kp => ?_
    refine ⟨_, rfl, wpAny_letOwnedTupleGo_enum (s := { s with heap := h', toks := s.toks + 1 }) a1 fun h2' b1 sb => ?_⟩
    have he : e < s.heap.objs.size := Heap.lt_size h1
    have I1 : Inv X pins σ H { s with heap := h2', toks := s.toks + 1 } := I.moved (ch := [e, it]) hf fun b o hb q =>
      sb.extBut b o (fun z => hb (by simp [z])) (kp b o (fun z => hb (by simp [z])) (fun z => hb (by simp [z])) q)
    have hn : H s.heap.objs.size = none := I.hok.fresh (Nat.le_refl _)
    have gt : h2'.get? s.heap.objs.size = some { cls := .type "tuple", data := .seq #[.int i s.toks, u] } := sb.extBut _ _ (Nat.ne_of_gt he) a3
    have I2 := I1.track (a := s.heap.objs.size) (o := .tup [.int i, x]) (I.fpOk (Nat.le_refl _) hn) ⟨by show 2 ≤ sizeLine; decide, [.int i s.toks, u], .cons ⟨_, rfl⟩ (.cons ru .nil), ⟨_, gt, rfl, 0, rfl⟩⟩
    refine ⟨.ref s.heap.objs.size, _, I2, rfl, ⟨_, x, hn, fun zs hzs => by rw [I.list_inj hzs hq]; exact hx, rfl, rfl⟩, ⟨u, ?_, ?_⟩, fun b hb => ?_⟩
    · have b1' : IsEnum h2' e it ((i : Int) + 1) u := b1
      simpa using b1'
    · exact a2.at fun o q => sb.extBut it o (Ne.symm hne) q
    · have hlt : b ≠ s.heap.objs.size := by
        rcases List.mem_cons.mp hb with z | hb
        · rw [z]; exact Nat.ne_of_lt he
        · obtain rfl : b = it := List.mem_singleton.mp hb
          obtain ⟨o, q, _⟩ := h2
          exact Nat.ne_of_lt (Heap.lt_size q)
      rw [upd_ne hlt]
      exact (hf b hb).1
  done := by
    intro X hP hw hK hc i pins s σ H E I hf st hg
    subst hP hw hK
    obtain ⟨xs, hq, hx⟩ := hg
    obtain ⟨its, rv, p, hz⟩ := I.list hq
    obtain ⟨old, h1, h2⟩ := st
    have hl := rv.length
    exact wpAny_pyNext_enum_end (I.ok.hd hc) h1 h2 p.isList (by simp; omega) fun h' eb => ⟨rfl, I.moved (t' := s.toks) (ch := [e, it]) hf fun b o hb q => eb b o (fun z => hb (by simp [z])) q⟩
  self := fun _ _ _ _ _ st h => let ⟨_, h1, _⟩ := st; wpAny_pyIter_enum h1 h
def zipTn (z TI TO i1 i2 a b : Addr) (i : Nat) (h : Heap) : Prop := IsZip h z TI TO .none ∧ IsPair h TI (.ref i1) (.ref i2) ∧ (∃ u v, IsPair h TO u v) ∧ h.IsListIter i1 a i ∧ h.IsListIter i2 b i
theorem zip_obj {z TI TO i1 i2 a b : Addr} {i : Nat} {h : Heap} (st : zipTn z TI TO i1 i2 a b i h) : ∀ c ∈ [z, TI, TO, i1, i2], ∃ o, h.get? c = some o ∧ ∀ v, o.data ≠ .cell v := fun c hc => by
  obtain ⟨h1, h2, ⟨u, v, h3⟩, ⟨o4, h4, _, d4⟩, ⟨o5, h5, _, d5⟩⟩ := st
  simp only [List.mem_cons, List.not_mem_nil, or_false] at hc
  rcases hc with e | e | e | e | e <;> subst e
  · exact ⟨_, h1, fun v q => nomatch q⟩
  · exact ⟨_, h2, fun v q => nomatch q⟩
  · exact ⟨_, h3, fun v q => nomatch q⟩
  · exact ⟨_, h4, fun v q => by rw [d4] at q; cases q⟩
  · exact ⟨_, h5, fun v q => by rw [d5] at q; cases q⟩
theorem turn_zip {P : Program} {w : World} {K : PySem.W.Frag} {elts : List Expr} {tk : Nat} {tp : Pos} {z TI TO i1 i2 a b : Addr} (D : ZipApart z TI TO i1 i2 a b) : Turn P w K (.Tuple elts tk tp) (Itzp K a b) [z, TI, TO, i1, i2] z (zipTn z TI TO i1 i2 a b) where
  mem := by simp
  obj := fun i h st => zip_obj st
  keep := fun i h h' st k => by
    obtain ⟨h1, h2, ⟨u, v, h3⟩, h4, h5⟩ := st
    exact ⟨k z (by simp) _ h1, k TI (by simp) _ h2, ⟨u, v, k TO (by simp) _ h3⟩, h4.at fun o q => k i1 (by simp) o q, h5.at fun o q => k i2 (by simp) o q⟩
  item := by
    intro X hP hw hK hc i pins s σ H E I hf st hg
    subst hP hw hK
    obtain ⟨xs, ys, x, y, hq, hq2, hx, hy⟩ := hg
    obtain ⟨its, rv, p, hz⟩ := I.list hq
    obtain ⟨its2, rv2, p2, hz2⟩ := I.list hq2
    obtain ⟨u, hu, ru⟩ := rv.get hx
    obtain ⟨u2, hu2, ru2⟩ := rv2.get hy
    obtain ⟨h1, h2, ⟨c1, c2, h3⟩, h4, h5⟩ := id st
    refine wpAny_pyNext_zip_item D h1 h2 h3 h4 h5 p.isList p2.isList (x := u) (y := u2) (by simpa using hu) (by simpa using hu2) fun h' a1 a2 a3 a4 a5 a6 kp => ?_
    refine ⟨_, rfl, wpAny_letOwnedTupleGo_zip (s := { s with heap := h' }) a1 fun h2' b1 sb => ?_⟩
    have hlt : z < s.heap.objs.size := Heap.lt_size h1
    have up : ∀ c o, c ∉ [z, TI, TO, i1, i2] → s.heap.get? c = some o → h2'.get? c = some o := fun c o hb q =>
      sb.extBut c o (fun e => hb (by simp [e])) (kp c o (fun e => hb (by simp [e])) (fun e => hb (by simp [e])) (fun e => hb (by simp [e])) (fun e => hb (by simp [e])) q)
    have I1 : Inv X pins σ H { s with heap := h2' } := I.moved (t' := s.toks) hf up
    have hn : H s.heap.objs.size = none := I.hok.fresh (Nat.le_refl _)
    have gt : h2'.get? s.heap.objs.size = some { cls := .type "tuple", data := .seq #[u, u2] } := sb.extBut _ _ (Nat.ne_of_gt hlt) a5
    have I2 := I1.track (a := s.heap.objs.size) (o := .tup [x, y]) (I.fpOk (Nat.le_refl _) hn) ⟨by show 2 ≤ sizeLine; decide, [u, u2], .cons ru (.cons ru2 .nil), ⟨_, gt, rfl, 0, rfl⟩⟩
    refine ⟨.ref s.heap.objs.size, _, I2, rfl, ⟨_, x, y, hn, fun zs hzs => by rw [I.list_inj hzs hq]; exact hx, fun zs hzs => by rw [I.list_inj hzs hq2]; exact hy, rfl, rfl⟩, ⟨b1, ?_, ⟨u, u2, ?_⟩, ?_, ?_⟩, fun c hb => ?_⟩
    · exact sb.extBut _ _ D.TIz (kp _ _ D.TIz D.TITO D.TIi1 D.TIi2 h2)
    · exact sb.extBut _ _ D.TOz a2
    · exact a3.at fun o q => sb.extBut _ o D.i1z q
    · exact a4.at fun o q => sb.extBut _ o D.i2z q
    · have hl : c ≠ s.heap.objs.size := by
        obtain ⟨o, q, _⟩ := zip_obj st c hb
        exact Nat.ne_of_lt (Heap.lt_size q)
      rw [upd_ne hl]
      exact (hf c hb).1
  done := by
    intro X hP hw hK hc i pins s σ H E I hf st hg
    subst hP hw hK
    obtain ⟨xs, ys, hq, hq2, hx⟩ := hg
    obtain ⟨its, rv, p, hz⟩ := I.list hq
    obtain ⟨its2, rv2, p2, hz2⟩ := I.list hq2
    obtain ⟨h1, h2, ⟨c1, c2, h3⟩, h4, h5⟩ := st
    have hl := rv.length
    have hl2 := rv2.length
    refine wpAny_pyNext_zip_end (I.ok.hd hc) D h1 h2 h3 h4 h5 p.isList p2.isList (by rcases hx with q | q; exact .inl (by simp; omega); exact .inr (by simp; omega)) fun h' kp => ⟨rfl, ?_⟩
    exact I.moved (t' := s.toks) hf fun c o hb q => kp c o (fun e => hb (by simp [e])) (fun e => hb (by simp [e])) (fun e => hb (by simp [e])) (fun e => hb (by simp [e])) q
  self := fun _ _ _ _ _ st h => wpAny_pyIter_zip st.1 h
section
variable {X : Cx} {elts : List Expr} {tk : Nat} {tp : Pos}
def iEnum (K : PySem.W.Frag) (ta : TA) : TI := fun σ H R => ta σ H fun vs H1 => ∃ a, vs = [.ref a] ∧ (∃ xs, SqL K H1 a xs) ∧ R (Iten K a) H1
def iZip (K : PySem.W.Frag) (ta : TA) : TI := fun σ H R => ta σ H fun vs H1 => ∃ a b, vs = [.ref a, .ref b] ∧ (∃ xs, SqL K H1 a xs) ∧ (∃ ys, SqL K H1 b ys) ∧ R (Itzp K a b) H1
theorem boot_enum : bootBuiltins "enumerate" = some (.type "enumerate") := by decide +kernel
theorem boot_zip2 : bootBuiltins "zip" = some (.type "zip") := by decide +kernel
theorem pi_enum {a : Expr} {ta : TA} {p pos : Pos} (hg : Gl X "enumerate") (hm : X.mg "enumerate" = none) (ha : PA X [a] ta) (hs : starEach [a] X.env = [(false, eval a X.env)] := by rfl) : PI X (.Tuple elts tk tp) (.Call (.Name "enumerate" p) [a] [] pos) (iEnum X.K ta) := by
  intro pins s σ H R I h
  refine Call_ (ld_blt I hg hm boot_enum (PyProof.Rows.callWith_type1 (thn (ha pos pins s σ H _ I h) fun us s1 ⟨vs, H1, I1, r1, q1⟩ => ?_) hs rfl))
  obtain ⟨l, e, ⟨xs, hq⟩, q⟩ := q1
  subst e
  obtain ⟨u, rfl, ru⟩ := vals1 r1
  cases ru
  obtain ⟨its, rv, pl, hz⟩ := I1.list hq
  refine call_enumerate_list pl.isList fun h' e1 e2 e3 kp => ?_
  refine wpAny_pyIter_enum (s := { s1 with heap := h' }) e1 ?_
  have fr : ∀ b ∈ [s1.heap.objs.size + 1, s1.heap.objs.size], FpOk X pins H1 b := fun b hb => by
    have hle : s1.heap.objs.size ≤ b := by
      simp only [List.mem_cons, List.not_mem_nil, or_false] at hb
      rcases hb with z | z <;> subst z
      · exact Nat.le_succ _
      · exact Nat.le_refl _
    exact I1.fpOk hle (I1.hok.fresh hle)
  exact ⟨_, [s1.heap.objs.size + 1, s1.heap.objs.size], _, _, H1, rfl, I1.kept (t' := s1.toks) kp, turn_enum l _ _ (Nat.succ_ne_self _), ⟨.none, e1, e2⟩, fr, q⟩
theorem pi_zip {a b : Expr} {ta : TA} {p pos : Pos} (hg : Gl X "zip") (hm : X.mg "zip" = none) (ha : PA X [a, b] ta) (hs : starEach [a, b] X.env = [(false, eval a X.env), (false, eval b X.env)] := by rfl) (hs2 : starEach [b] X.env = [(false, eval b X.env)] := by rfl) :
    PI X (.Tuple elts tk tp) (.Call (.Name "zip" p) [a, b] [] pos) (iZip X.K ta) := by
  intro pins s σ H R I h
  refine Call_ (ld_blt I hg hm boot_zip2 (PyProof.Rows.callWith_type1 (thn (ha pos pins s σ H _ I h) fun us s1 ⟨vs, H1, I1, r1, q1⟩ => ?_) (by rw [hs, hs2]) (by rw [hs2]; rfl)))
  obtain ⟨l, l2, e, ⟨xs, hq⟩, ⟨ys, hq2⟩, q⟩ := q1
  subst e
  obtain ⟨u, u2, rfl, ru, ru2⟩ := vals2 r1
  cases ru
  cases ru2
  obtain ⟨its, rv, pl, hz⟩ := I1.list hq
  obtain ⟨its2, rv2, pl2, hz2⟩ := I1.list hq2
  have a1 : l < s1.heap.objs.size := by obtain ⟨o, e, _⟩ := pl.isList; exact Heap.lt_size e
  have a2 : l2 < s1.heap.objs.size := by obtain ⟨o, e, _⟩ := pl2.isList; exact Heap.lt_size e
  refine call_zip_2 pl.isList pl2.isList fun h' e1 e2 e3 e4 e5 e6 kp => ?_
  refine wpAny_pyIter_zip (s := { s1 with heap := h' }) e1 ?_
  have fr : ∀ b ∈ [s1.heap.objs.size + 4, s1.heap.objs.size + 2, s1.heap.objs.size + 3, s1.heap.objs.size, s1.heap.objs.size + 1], FpOk X pins H1 b := fun b hb => by
    have hle : s1.heap.objs.size ≤ b := by
      simp only [List.mem_cons, List.not_mem_nil, or_false] at hb
      rcases hb with z | z | z | z | z <;> subst z <;> first | exact Nat.le_refl _ | exact Nat.le_add_right _ _
    exact I1.fpOk hle (I1.hok.fresh hle)
  exact ⟨_, [s1.heap.objs.size + 4, s1.heap.objs.size + 2, s1.heap.objs.size + 3, s1.heap.objs.size, s1.heap.objs.size + 1], _, _, H1, rfl, I1.kept (t' := s1.toks) kp, turn_zip (zipApart_new a1 a2), ⟨e1, e2, ⟨_, _, e3⟩, e4, e5⟩, fr, q⟩
end
def gPair (K : PySem.W.Frag) (i j : Nat) : TG := gTup K 2 (gCons (gName i) (gCons (gName j) gNil))
theorem pg_pair {X : Cx} {i j : Nat} {x y : Str} {px py pt : Pos} {k : Nat} (hc : X.calm = true) (h1 : PG X (.Name x px) (gName i)) (h2 : PG X (.Name y py) (gName j)) : PG X (.Tuple [.Name x px, .Name y py] k pt) (gPair X.K i j) :=
  pg_tup hc (pgs_cons h1 (pgs_cons h2 pgs_nil))
theorem gPair_of {K : PySem.W.Frag} {i j : Nat} {p : Addr} {x y : V} {σ : St} {H : Hp} {Q : St → Hp → Prop} (hp : H p = some (.tup [x, y])) (q : Q ((σ.set i (some x)).set j (some y)) H) : gPair K i j (.ref p) σ H Q :=
  ⟨p, [x, y], rfl, SqT.of hp, rfl, x, [y], rfl, y, [], rfl, rfl, q⟩
theorem for_enum {K : PySem.W.Frag} {a : Addr} {xs : List V} {g : TG} {tb : TS} {D : Ends} {σ : St} {H : Hp} (Pv : Nat → St → Hp → Prop) (h0 : Pv 0 σ H) (hl : ∀ i σ H, i ≤ xs.length → Pv i σ H → SqL K H a xs)
    (hs : ∀ i x σ H p, xs[i]? = some x → Pv i σ H → H p = none → g (.ref p) σ (upd H p (.tup [.int i, x])) fun σ2 H2 => tb { D with nx := Pv (i + 1), ct := Pv (i + 1), bk := D.nx } σ2 H2) (hd : ∀ σ H, Pv xs.length σ H → D.nx σ H) :
    ∃ W : Nat → Nat → St → Hp → Prop, (∃ m, W 0 m σ H) ∧ ∀ i m σ H, W i m σ H →
      ((Iten K a).stop i H ∧ D.nx σ H) ∨ ((Iten K a).go i H ∧ ∃ N : St → Hp → Prop, (∀ σ' H', N σ' H' → ∃ m', m' < m ∧ W (i + 1) m' σ' H') ∧ ∀ x H', (Iten K a).yld i H x H' → g x σ H' fun σ2 H2 => tb { D with nx := N, ct := N, bk := D.nx } σ2 H2) := by
  refine ⟨fun i m σ H => m = xs.length - i ∧ i ≤ xs.length ∧ Pv i σ H, ⟨xs.length, by simp, Nat.zero_le _, h0⟩, ?_⟩
  rintro i m σ H ⟨rfl, hi, p⟩
  have q := hl i σ H hi p
  by_cases hlt : i < xs.length
  · refine .inr ⟨⟨xs, xs[i], q, by simp [hlt]⟩, Pv (i + 1), fun σ' H' p' => ⟨xs.length - (i + 1), by omega, rfl, hlt, p'⟩, fun x H' y => ?_⟩
    obtain ⟨c, v, hn, hv, e1, e2⟩ := y
    subst e1 e2
    exact hs i v σ H c (hv xs q) p hn
  · have e : i = xs.length := by omega
    subst e
    exact .inl ⟨⟨xs, q, Nat.le_refl _⟩, hd σ H p⟩
section
variable {g : TG} {tt : TT} {te : TE} {σ : St} {H : Hp} {Q : List V → Hp → Prop} {own : Nat}
abbrev cTurn (own : Nat) (g : TG) (tt : TT) (te : TE) (σ : St) (x : V) (H : Hp) (xs : List V) (N : List V → Hp → Prop) : Prop :=
  g x (List.replicate own none ++ σ) H fun σ2 H2 => ∃ o : St, o.length = own ∧ σ2 = o ++ σ ∧ tt σ2 H2 fun b H3 => if b = true then te σ2 H3 fun v H4 => N (xs ++ [v]) H4 else N xs H3
theorem comp_list {K : PySem.W.Frag} {a : Addr} {ys : List V} (Pv : Nat → List V → Hp → Prop) (h0 : Pv 0 [] H) (hz : ys.length ≤ sizeLine) (hb : ∀ i xs H, Pv i xs H → xs.length ≤ i) (hl : ∀ i xs H, i ≤ ys.length → Pv i xs H → SqL K H a ys)
    (hs : ∀ i x xs H, ys[i]? = some x → Pv i xs H → cTurn own g tt te σ x H xs (Pv (i + 1))) (hd : ∀ xs H, Pv ys.length xs H → Q xs H) : ∃ W : Nat → Nat → List V → Hp → Prop, (∃ m, W 0 m [] H) ∧ tCompW (Itl K a) own g tt te σ Q W := by
  refine ⟨fun i m xs H => m = ys.length - i ∧ i ≤ ys.length ∧ Pv i xs H, ⟨ys.length, by simp, Nat.zero_le _, h0⟩, ?_⟩
  rintro i m xs H ⟨rfl, hi, p⟩
  have q := hl i xs H hi p
  have hxs := hb i xs H p
  by_cases hlt : i < ys.length
  · refine .inr ⟨⟨ys, ys[i], q, by simp [hlt]⟩, by omega, Pv (i + 1), fun ys' H' p' => ⟨ys.length - (i + 1), by omega, rfl, hlt, p'⟩, fun x H' y => ?_⟩
    obtain ⟨e, y⟩ := y
    subst e
    exact hs i x xs _ (y ys q) p
  · have e : i = ys.length := by omega
    subst e
    exact .inl ⟨⟨ys, q, Nat.le_refl _⟩, hd xs H p⟩
theorem comp_range {lo : Int} {n : Nat} (Pv : Nat → List V → Hp → Prop) (h0 : Pv 0 [] H) (hz : n ≤ sizeLine) (hb : ∀ i xs H, Pv i xs H → xs.length ≤ i)
    (hs : ∀ i xs H, i < n → Pv i xs H → cTurn own g tt te σ (.int (lo + i)) H xs (Pv (i + 1))) (hd : ∀ xs H, Pv n xs H → Q xs H) : ∃ W : Nat → Nat → List V → Hp → Prop, (∃ m, W 0 m [] H) ∧ tCompW (Itr lo n) own g tt te σ Q W := by
  refine ⟨fun i m xs H => m = n - i ∧ i ≤ n ∧ Pv i xs H, ⟨n, by simp, Nat.zero_le _, h0⟩, ?_⟩
  rintro i m xs H ⟨rfl, hi, p⟩
  have hxs := hb i xs H p
  by_cases hlt : i < n
  · refine .inr ⟨hlt, by omega, Pv (i + 1), fun ys' H' p' => ⟨n - (i + 1), by omega, rfl, hlt, p'⟩, fun x H' y => ?_⟩
    obtain ⟨e, y⟩ := y
    subst e y
    exact hs i xs _ hlt p
  · have e : i = n := by omega
    subst e
    exact .inl ⟨Nat.le_refl _, hd xs H p⟩
theorem comp_zip {K : PySem.W.Frag} {a b : Addr} {ys zs : List V} (Pv : Nat → List V → Hp → Prop) (h0 : Pv 0 [] H) (hz : ys.length ≤ sizeLine) (hb : ∀ i xs H, Pv i xs H → xs.length ≤ i)
    (hl : ∀ i xs H, i ≤ min ys.length zs.length → Pv i xs H → SqL K H a ys ∧ SqL K H b zs)
    (hs : ∀ i x y xs H p, ys[i]? = some x → zs[i]? = some y → Pv i xs H → H p = none → cTurn own g tt te σ (.ref p) (upd H p (.tup [x, y])) xs (Pv (i + 1))) (hd : ∀ xs H, Pv (min ys.length zs.length) xs H → Q xs H) :
    ∃ W : Nat → Nat → List V → Hp → Prop, (∃ m, W 0 m [] H) ∧ tCompW (Itzp K a b) own g tt te σ Q W := by
  refine ⟨fun i m xs H => m = min ys.length zs.length - i ∧ i ≤ min ys.length zs.length ∧ Pv i xs H, ⟨min ys.length zs.length, by simp, Nat.zero_le _, h0⟩, ?_⟩
  rintro i m xs H ⟨rfl, hi, p⟩
  obtain ⟨q, q2⟩ := hl i xs H hi p
  have hxs := hb i xs H p
  by_cases hlt : i < min ys.length zs.length
  · have l1 : i < ys.length := by omega
    have l2 : i < zs.length := by omega
    refine .inr ⟨⟨ys, zs, ys[i], zs[i], q, q2, by simp [l1], by simp [l2]⟩, by omega, Pv (i + 1), fun ys' H' p' => ⟨min ys.length zs.length - (i + 1), by omega, rfl, hlt, p'⟩, fun x H' y => ?_⟩
    obtain ⟨c, u, v, hn, hu, hv, e1, e2⟩ := y
    subst e1 e2
    exact hs i u v xs H c (hu ys q) (hv zs q2) p hn
  · have e : i = min ys.length zs.length := by omega
    subst e
    exact .inl ⟨⟨ys, zs, q, q2, by omega⟩, hd xs H p⟩
end
end L2
set_option Elab.async false
set_option linter.all false
set_option maxRecDepth 100000
set_option maxHeartbeats 4000000
namespace L2
open PySem PySem.Spec PyProof.Rows
theorem vals_of_ints : ∀ {us : List Value} {ns : List Int}, IntsAre us ns → Vals (ns.map V.int) us
  | _, _, .nil => .nil
  | _, _, .cons _ t r => .cons ⟨t, rfl⟩ (vals_of_ints r)
theorem all_range {bs : List Bool} : (List.range bs.length).all (fun i => bs.getD i false) = bs.all id := by
  induction bs with
  | nil => rfl
  | cons b r ih =>
    rw [List.length_cons, List.range_succ_eq_map, List.all_cons, List.all_map, List.all_cons, ← ih]
    rfl
section
variable {X : Cx}
theorem call_all (hc : X.calm = true) : CallR X (.builtin "all") (fun xs H Q => ∃ (p : Addr) (bs : List Bool), xs = [.ref p] ∧ SqL X.K H p (bs.map V.bl) ∧ Q (.bl (bs.all id)) H) := by
  intro pins s σ H xs us Q I r h
  obtain ⟨p, bs, rfl, hq, q⟩ := h
  obtain ⟨u, rfl, ru⟩ := vals1 r
  cases ru
  obtain ⟨its, rv, pl, hz⟩ := I.list hq
  have hl := rv.length
  rw [List.length_map] at hl
  have hlt : p < s.heap.objs.size := by obtain ⟨o, e, _⟩ := pl.isList; exact Heap.lt_size e
  refine call_all_walk (wpAny_pyIter_list pl.isList ?_)
  refine ⟨_, _, _, _, _, _, fun i => bs.getD i false, rfl, Walks.list (show X.A.in1.handled = none from I.ok.hd hc) s.heap.objs.size p (Nat.ne_of_lt hlt) its.toArray, ⟨⟨_, Heap.get?_push_size _ rfl, rfl, rfl⟩, pl.isList.push _⟩, ?_, ?_⟩
  · intro i v s' Q' E' hv q'
    have hv' : its[i]? = some v := by simpa using hv
    have hi : i < bs.length := by
      have := (List.getElem?_eq_some_iff.mp hv').1
      omega
    have hb : (bs.map V.bl)[i]? = some (V.bl bs[i]) := by simp [hi]
    obtain ⟨w', hw', rw'⟩ := rv.get hb
    rw [hv'] at hw'
    cases hw'
    cases rw'
    refine wpAny_truthy_bool ?_
    have e : bs.getD i false = bs[i] := by simp [hi]
    rw [← e]
    exact q'
  · intro h' tk k
    refine ⟨.bl _, H, I.kept (t' := tk) fun b o e => k b o (fun z => ?_) (Heap.get?_push_of_some _ e), rfl, ?_⟩
    · obtain rfl : b = _ := List.mem_singleton.mp z
      exact absurd (Heap.lt_size e) (Nat.lt_irrefl _)
    · rw [List.size_toArray, ← hl, all_range]
      exact q
theorem call_sortedI : CallR X (.builtin "sorted") (fun xs H Q => ∃ (p : Addr) (ns : List Int), xs = [.ref p] ∧ SqL X.K H p (ns.map V.int) ∧ ns.length < 64 ∧ ∀ (l : Addr) (ms : List Int), H l = none → List.Perm ms ns → ms.Pairwise (· ≤ ·) → Q (.ref l) (upd H l (.lst (ms.map V.int)))) := by
  intro pins s σ H xs us Q I r h
  obtain ⟨p, ns, rfl, hq, hb, q⟩ := h
  obtain ⟨u, rfl, ru⟩ := vals1 r
  cases ru
  obtain ⟨its, rv, pl, hz⟩ := I.list hq
  have hl := rv.length
  rw [List.length_map] at hl
  refine sorted_ints pl.isList (intsAre_of rv) (by omega) fun out ms hI hp hs => ?_
  obtain ⟨e, he⟩ := sortedAll_at s.heap its out
  have hle : s.heap.objs.size ≤ s.heap.objs.size + 1 := Nat.le_succ _
  have hz' : (ms.map V.int).length ≤ sizeLine := by
    rw [List.length_map, hp.length_eq]
    exact Nat.le_of_lt (small1000 (by omega))
  exact ⟨.ref _, _, I.laid (t' := s.toks) (fun b o e => sortedAll_old e) hle (show ObjOk X.prog X.w _ _ _ (.lst (ms.map V.int)) from ⟨hz', out.toList, e, vals_of_ints hI, by simpa using he⟩), rfl, q _ ms (I.hok.fresh hle) hp hs⟩
theorem call_rangeV : CallR X (.type "range") (fun xs H Q => ∃ j, xs = [.int j] ∧ ∀ p, H p = none → Q (.ref p) (upd H p (.rng 0 j))) := by
  intro pins s σ H xs us Q I r h
  obtain ⟨j, rfl, q⟩ := h
  obtain ⟨u, rfl, t, rfl⟩ := vals1 r
  refine call_range_1 ?_
  exact ⟨.ref _, _, I.laid (fun b o e => Heap.get?_push_of_some _ e) (Nat.le_refl _) (show ObjOk X.prog X.w _ _ _ (.rng 0 j) from ⟨_, _, _, Heap.get?_push_size _ rfl⟩), rfl, q _ (I.hok.fresh (Nat.le_refl _))⟩
theorem vals_items {a : Int} : ∀ {us : List Value} {k : Nat}, (∀ (j : Nat) (v : Value), us[j]? = some v → ∃ t, v = Value.int (a + ((k + j : Nat) : Int) * 1) t) → Vals ((List.range' k us.length).map fun i => V.int (a + (i : Nat))) us
  | [], _, _ => .nil
  | u :: us, k, h => by
    rw [List.length_cons, List.range'_succ, List.map_cons]
    refine .cons ?_ (vals_items (k := k + 1) fun j v e => ?_)
    · obtain ⟨t, e⟩ := h 0 u rfl
      exact ⟨t, by rw [e]; simp⟩
    · obtain ⟨t, e'⟩ := h (j + 1) v (by simpa using e)
      exact ⟨t, by rw [e', show k + (j + 1) = k + 1 + j by omega]⟩
theorem call_list_rng (hc : X.calm = true) : CallR X (.type "list") (fun xs H Q => ∃ (p : Addr) (n : Nat), xs = [.ref p] ∧ H p = some (.rng 0 (n : Nat)) ∧ n ≤ 1000 ∧ ∀ l, H l = none → Q (.ref l) (upd H l (.lst (((List.range n).map fun i => ((i : Nat) : Int)).map V.int)))) := by
  intro pins s σ H xs us Q I r h
  obtain ⟨p, n, rfl, hp, hn, q⟩ := h
  obtain ⟨u, rfl, ru⟩ := vals1 r
  cases ru
  obtain ⟨t, u, v, e⟩ := (show ∃ t u v, s.heap.get? p = some { cls := .type "range", data := .fields #[.int 0 t, .int (n : Nat) u, .int 1 v] } from I.hok p _ hp)
  refine call_list_range (a := 0) (b := (n : Nat)) (c := 1) (n := n) (I.ok.hd hc) e (small_one (by omega) (by omega) (by omega) (by omega)) (by rw [rangeSize_one]; split <;> omega) (by omega) fun h' tk acc c' kp e' hi => ?_
  obtain ⟨hsz, hit⟩ := hi
  have rv : Vals (((List.range n).map fun i => ((i : Nat) : Int)).map V.int) acc.toList := by
    have := vals_items (a := 0) (us := acc.toList) (k := 0) fun j v e => by
      obtain ⟨t, z⟩ := hit j v (by rw [← Array.getElem?_toList]; exact e)
      exact ⟨t, by rw [z, Nat.zero_add]⟩
    rw [show acc.toList.length = n by simpa using hsz, ← List.range_eq_range'] at this
    rw [List.map_map]
    refine cast ?_ this
    congr 1
    apply List.map_congr_left
    intro i _
    simp
  refine ⟨.ref _, _, I.laid (t' := tk) kp (Nat.le_refl _) (show ObjOk X.prog X.w _ h' _ (.lst _) from ⟨?_, acc.toList, c', rv, by simpa using e'⟩), rfl, q _ (I.hok.fresh (Nat.le_refl _))⟩
  rw [List.length_map, List.length_map, List.length_range]
  exact Nat.le_of_lt (small1000 hn)
end
theorem same_upd {H : Hp} {p : Addr} (h : H p = none) (o : HO) : Same H (upd H p o) := fun b u q => by rw [upd_ne (ne_of_none q h)]; exact q
theorem Same.upd {H H' : Hp} {p : Addr} {o : HO} (e : Same H H') (h : H p = none) : Same H (upd H' p o) := fun b u q => by rw [upd_ne (ne_of_none q h)]; exact e b u q
end L2
set_option linter.all false
set_option maxHeartbeats 4000000
namespace Sl
theorem getD_get {ns : List Int} {i : Nat} (h : i < ns.length) : ns.getD i 0 = ns[i] := by simp [List.getD_eq_getElem?_getD, h]
abbrev Up (ns : List Int) : Prop := ns.Pairwise (· < ·)
def inB (n : Int) : Bool := decide (0 ≤ n) && decide (n ≤ 1000000000000)
def rises (ns : List Int) : Bool := (ns.zip (ns.drop 1)).all fun p => decide (p.1 < p.2)
def isRow (ns : List Int) : Bool := decide (ns.length ≤ 20) && (ns.all inB && rises ns)
theorem rises_cons (a b : Int) (r : List Int) : rises (a :: b :: r) = (decide (a < b) && rises (b :: r)) := rfl
theorem rises_iff : ∀ {ns : List Int}, rises ns = true ↔ Up ns
  | [] => by simp [rises, Up]
  | [a] => by simp [rises, Up]
  | a :: b :: r => by
    have ih := @rises_iff (b :: r)
    rw [rises_cons, Bool.and_eq_true, decide_eq_true_eq, ih]
    constructor
    · rintro ⟨h1, h2⟩
      refine List.pairwise_cons.mpr ⟨fun c hc => ?_, h2⟩
      rcases List.mem_cons.mp hc with e | e
      · rw [e]; exact h1
      · exact Int.lt_trans h1 ((List.pairwise_cons.mp h2).1 c e)
    · intro h
      obtain ⟨h1, h2⟩ := List.pairwise_cons.mp h
      exact ⟨h1 b List.mem_cons_self, h2⟩
theorem isRow_iff {ns : List Int} : isRow ns = true ↔ ns.length ≤ 20 ∧ (∀ n ∈ ns, 0 ≤ n ∧ n ≤ 1000000000000) ∧ Up ns := by
  unfold isRow
  rw [Bool.and_eq_true, Bool.and_eq_true, decide_eq_true_eq, List.all_eq_true, rises_iff]
  simp only [inB, Bool.and_eq_true, decide_eq_true_eq]
theorem up_get : ∀ {ns : List Int}, Up ns ↔ ∀ j, j + 1 < ns.length → ns.getD j 0 < ns.getD (j + 1) 0
  | [] => by simp [Up]
  | [a] => by simp [Up]
  | a :: b :: r => by
    have ih := @up_get (b :: r)
    constructor
    · intro h j hj
      cases j with
      | zero => exact (List.pairwise_cons.mp h).1 b List.mem_cons_self
      | succ j => exact ih.mp (List.pairwise_cons.mp h).2 j (by simpa using hj)
    · intro h
      have h2 : Up (b :: r) := ih.mpr fun j hj => h (j + 1) (by simpa using hj)
      refine List.pairwise_cons.mpr ⟨fun c hc => ?_, h2⟩
      have h1 : a < b := h 0 (by simp)
      rcases List.mem_cons.mp hc with e | e
      · rw [e]; exact h1
      · exact Int.lt_trans h1 ((List.pairwise_cons.mp h2).1 c e)
theorem Up.lt {ns : List Int} (h : Up ns) {i j : Nat} (hij : i < j) (hj : j < ns.length) : ns.getD i 0 < ns.getD j 0 := by
  rw [getD_get (show i < ns.length by omega), getD_get hj]
  exact List.pairwise_iff_getElem.mp h i j (by omega) hj hij
theorem Up.le {ns : List Int} (h : Up ns) {i j : Nat} (hij : i ≤ j) (hj : j < ns.length) : ns.getD i 0 ≤ ns.getD j 0 := by
  rcases Nat.lt_or_eq_of_le hij with e | e
  · exact Int.le_of_lt (h.lt e hj)
  · rw [e]; exact Int.le_refl _
theorem Up.lt_iff {ns : List Int} (h : Up ns) {i j : Nat} (hi : i < ns.length) (hj : j < ns.length) : ns.getD i 0 < ns.getD j 0 ↔ i < j := by
  constructor
  · intro q
    rcases Nat.lt_or_ge i j with e | e
    · exact e
    · have := h.le e hi; omega
  · intro q; exact h.lt q hj
theorem Up.le_iff {ns : List Int} (h : Up ns) {i j : Nat} (hi : i < ns.length) (hj : j < ns.length) : ns.getD i 0 ≤ ns.getD j 0 ↔ i ≤ j := by
  have := h.lt_iff hj hi
  omega
theorem mem_getD {ns : List Int} {a : Int} : a ∈ ns ↔ ∃ i, i < ns.length ∧ ns.getD i 0 = a := by
  constructor
  · intro h
    obtain ⟨i, hi, e⟩ := List.getElem_of_mem h
    exact ⟨i, hi, by rw [getD_get hi]; exact e⟩
  · rintro ⟨i, hi, e⟩
    rw [← e, getD_get hi]
    exact List.getElem_mem hi
theorem mem_take {ns : List Int} {a : Int} {k : Nat} : a ∈ ns.take k ↔ ∃ i, i < ns.length ∧ i < k ∧ ns.getD i 0 = a := by
  rw [mem_getD]
  constructor
  · rintro ⟨i, hi, e⟩
    rw [List.length_take] at hi
    refine ⟨i, by omega, by omega, ?_⟩
    rw [getD_get (by rw [List.length_take]; omega), List.getElem_take] at e
    rw [getD_get (by omega)]
    exact e
  · rintro ⟨i, hi, hk, e⟩
    refine ⟨i, by rw [List.length_take]; omega, ?_⟩
    rw [getD_get (by rw [List.length_take]; omega), List.getElem_take, ← e, getD_get hi]
theorem mem_drop {ns : List Int} {a : Int} {k : Nat} : a ∈ ns.drop k ↔ ∃ i, i < ns.length ∧ k ≤ i ∧ ns.getD i 0 = a := by
  rw [mem_getD]
  constructor
  · rintro ⟨i, hi, e⟩
    rw [List.length_drop] at hi
    refine ⟨k + i, by omega, by omega, ?_⟩
    rw [getD_get (by rw [List.length_drop]; omega), List.getElem_drop] at e
    rw [getD_get (by omega)]
    exact e
  · rintro ⟨i, hi, hk, e⟩
    refine ⟨i - k, by rw [List.length_drop]; omega, ?_⟩
    rw [getD_get (by rw [List.length_drop]; omega), List.getElem_drop, ← e, getD_get hi]
    congr 1
    omega
theorem getD_drop {ns : List Int} {k j : Nat} : (ns.drop k).getD j 0 = ns.getD (k + j) 0 := by
  simp [List.getD_eq_getElem?_getD, List.getElem?_drop]
inductive Rule where
  | even | sums | parts
  deriving DecidableEq
def Brk : Rule → List Int → Prop
  | .even, ns => ∃ a ∈ ns, ∃ b ∈ ns, ∃ c ∈ ns, a < b ∧ b - a = c - b
  | .sums, ns => ∃ a ∈ ns, ∃ b ∈ ns, ∃ c ∈ ns, ∃ d ∈ ns, a ≤ b ∧ c ≤ d ∧ a < c ∧ a + b = c + d
  | .parts, ns => ∃ a ∈ ns, ∃ b ∈ ns, ∃ c ∈ ns, a ≤ b ∧ a + b = c
instance (r : Rule) (ns : List Int) : Decidable (Brk r ns) := by
  cases r <;> unfold Brk <;> infer_instance
def Shows : Rule → List Int → List Int → Prop
  | .even, ns, t => ∃ a b c, t = [a, b, c] ∧ a ∈ ns ∧ b ∈ ns ∧ c ∈ ns ∧ a < b ∧ b - a = c - b
  | .sums, ns, t => ∃ a b c d, t = [a, b, c, d] ∧ a ∈ ns ∧ b ∈ ns ∧ c ∈ ns ∧ d ∈ ns ∧ a ≤ b ∧ c ≤ d ∧ a < c ∧ a + b = c + d
  | .parts, ns, t => ∃ a b c, t = [a, b, c] ∧ a ∈ ns ∧ b ∈ ns ∧ c ∈ ns ∧ a ≤ b ∧ a + b = c
theorem Shows.brk {r : Rule} {ns t : List Int} (h : Shows r ns t) : Brk r ns := by
  cases r with
  | even => obtain ⟨a, b, c, _, h1, h2, h3, h4⟩ := h; exact ⟨a, h1, b, h2, c, h3, h4⟩
  | sums => obtain ⟨a, b, c, d, _, h1, h2, h3, h4, h5⟩ := h; exact ⟨a, h1, b, h2, c, h3, d, h4, h5⟩
  | parts => obtain ⟨a, b, c, _, h1, h2, h3, h4⟩ := h; exact ⟨a, h1, b, h2, c, h3, h4⟩
theorem even_none {ns : List Int} (h : Up ns) (q : ∀ i, i < ns.length → ∀ a ∈ ns.take i, ¬ 2 * ns.getD i 0 - a ∈ ns) : ¬ Brk .even ns := by
  rintro ⟨a, ha, b, hb, c, hc, h1, h2⟩
  obtain ⟨j, hj, ej⟩ := mem_getD.mp hb
  obtain ⟨i, hi, ei⟩ := mem_getD.mp ha
  have hij : i < j := (h.lt_iff hi hj).mp (by rw [ei, ej]; exact h1)
  refine q j hj a (mem_take.mpr ⟨i, hi, hij, ei⟩) ?_
  rw [ej, show 2 * b - a = c by omega]
  exact hc
theorem even_found {ns : List Int} (h : Up ns) {i : Nat} {a : Int} (hi : i < ns.length) (ha : a ∈ ns.take i) (hl : 2 * ns.getD i 0 - a ∈ ns) : Shows .even ns [a, ns.getD i 0, 2 * ns.getD i 0 - a] := by
  obtain ⟨j, hj, hji, ej⟩ := mem_take.mp ha
  have := h.lt hji hi
  exact ⟨a, _, _, rfl, List.mem_of_mem_take ha, mem_getD.mpr ⟨i, hi, rfl⟩, hl, by omega, by omega⟩
theorem parts_none {ns : List Int} (h : Up ns) (q : ∀ i, i < ns.length → ∀ b ∈ ns.drop i, ¬ ns.getD i 0 + b ∈ ns) : ¬ Brk .parts ns := by
  rintro ⟨a, ha, b, hb, c, hc, h1, h2⟩
  obtain ⟨i, hi, ei⟩ := mem_getD.mp ha
  obtain ⟨j, hj, ej⟩ := mem_getD.mp hb
  have hij : i ≤ j := (h.le_iff hi hj).mp (by rw [ei, ej]; exact h1)
  refine q i hi b (mem_drop.mpr ⟨j, hj, hij, ej⟩) ?_
  rw [ei, h2]
  exact hc
theorem parts_found {ns : List Int} (h : Up ns) {i : Nat} {b : Int} (hi : i < ns.length) (hb : b ∈ ns.drop i) (hl : ns.getD i 0 + b ∈ ns) : Shows .parts ns [ns.getD i 0, b, ns.getD i 0 + b] := by
  obtain ⟨j, hj, hij, ej⟩ := mem_drop.mp hb
  have := h.le hij hj
  exact ⟨_, b, _, rfl, mem_getD.mpr ⟨i, hi, rfl⟩, List.mem_of_mem_drop hb, hl, by omega, rfl⟩
def Proc (ns : List Int) (i j : Nat) (a b : Int) : Prop := ∃ x y, x ≤ y ∧ y < ns.length ∧ ns.getD x 0 = a ∧ ns.getD y 0 = b ∧ (x < i ∨ (x = i ∧ y < i + j))
theorem Proc.zero {ns : List Int} {a b : Int} : ¬ Proc ns 0 0 a b := by
  rintro ⟨x, y, h1, h2, _, _, h3⟩
  omega
theorem Proc.end_ {ns : List Int} {i : Nat} {a b : Int} : Proc ns i (ns.length - i) a b ↔ Proc ns (i + 1) 0 a b := by
  constructor
  · rintro ⟨x, y, h1, h2, e1, e2, h3⟩
    exact ⟨x, y, h1, h2, e1, e2, by omega⟩
  · rintro ⟨x, y, h1, h2, e1, e2, h3⟩
    exact ⟨x, y, h1, h2, e1, e2, by omega⟩
theorem Proc.succ {ns : List Int} {i j : Nat} {a b : Int} (hj : i + j < ns.length) : Proc ns i (j + 1) a b ↔ Proc ns i j a b ∨ (a = ns.getD i 0 ∧ b = ns.getD (i + j) 0) := by
  constructor
  · rintro ⟨x, y, h1, h2, e1, e2, h3⟩
    by_cases hx : x = i ∧ y = i + j
    · obtain ⟨rfl, rfl⟩ := hx
      exact .inr ⟨e1.symm, e2.symm⟩
    · exact .inl ⟨x, y, h1, h2, e1, e2, by omega⟩
  · rintro (⟨x, y, h1, h2, e1, e2, h3⟩ | ⟨e1, e2⟩)
    · exact ⟨x, y, h1, h2, e1, e2, by omega⟩
    · exact ⟨i, i + j, by omega, hj, e1.symm, e2.symm, by omega⟩
theorem sums_found {ns : List Int} (h : Up ns) {i j : Nat} {a b : Int} (hj : i + j < ns.length) (p : Proc ns i j a b) (e : ns.getD i 0 + ns.getD (i + j) 0 = a + b) : Shows .sums ns [a, b, ns.getD i 0, ns.getD (i + j) 0] := by
  obtain ⟨x, y, h1, h2, e1, e2, h3⟩ := p
  have hab : a ≤ b := by rw [← e1, ← e2]; exact h.le h1 h2
  have hcd : ns.getD i 0 ≤ ns.getD (i + j) 0 := h.le (by omega) hj
  have hac : a < ns.getD i 0 := by
    rcases h3 with q | ⟨q1, q2⟩
    · rw [← e1]; exact h.lt q (by omega)
    · have h4 : b < ns.getD (i + j) 0 := by rw [← e2]; exact h.lt q2 hj
      rw [q1] at e1
      omega
  exact ⟨a, b, _, _, rfl, mem_getD.mpr ⟨x, by omega, e1⟩, mem_getD.mpr ⟨y, h2, e2⟩, mem_getD.mpr ⟨i, by omega, rfl⟩, mem_getD.mpr ⟨i + j, hj, rfl⟩, hab, hcd, hac, by omega⟩
def Apart (ns : List Int) (i j : Nat) : Prop := ∀ a b c d, Proc ns i j a b → Proc ns i j c d → a < c → a + b ≠ c + d
theorem Apart.zero {ns : List Int} : Apart ns 0 0 := fun _ _ _ _ p => (Proc.zero p).elim
theorem Apart.end_ {ns : List Int} {i : Nat} (h : Apart ns i (ns.length - i)) : Apart ns (i + 1) 0 := fun a b c d p q => h a b c d (Proc.end_.mpr p) (Proc.end_.mpr q)
theorem Apart.succ {ns : List Int} {i j : Nat} (hu : Up ns) (hj : i + j < ns.length) (h : Apart ns i j) (n : ∀ a b, Proc ns i j a b → a + b ≠ ns.getD i 0 + ns.getD (i + j) 0) : Apart ns i (j + 1) := by
  intro a b c d p q hac
  rcases (Proc.succ hj).mp p with p | ⟨e1, e2⟩
  · rcases (Proc.succ hj).mp q with q | ⟨e3, e4⟩
    · exact h a b c d p q hac
    · rw [e3, e4]; exact n a b p
  · rcases (Proc.succ hj).mp q with q | ⟨e3, e4⟩
    · exfalso
      obtain ⟨x, y, h1, h2, f1, f2, h3⟩ := q
      have : c ≤ ns.getD i 0 := by rw [← f1]; exact hu.le (by omega) (by omega)
      omega
    · omega
theorem sums_none {ns : List Int} (hu : Up ns) (h : Apart ns ns.length 0) : ¬ Brk .sums ns := by
  rintro ⟨a, ha, b, hb, c, hc, d, hd, h1, h2, h3, h4⟩
  obtain ⟨i, hi, ei⟩ := mem_getD.mp ha
  obtain ⟨j, hj, ej⟩ := mem_getD.mp hb
  obtain ⟨k, hk, ek⟩ := mem_getD.mp hc
  obtain ⟨l, hl, el⟩ := mem_getD.mp hd
  have hij : i ≤ j := (hu.le_iff hi hj).mp (by rw [ei, ej]; exact h1)
  have hkl : k ≤ l := (hu.le_iff hk hl).mp (by rw [ek, el]; exact h2)
  exact h a b c d ⟨i, j, hij, hj, ei, ej, .inl hi⟩ ⟨k, l, hkl, hl, ek, el, .inl hk⟩ h3 h4
end Sl
set_option linter.all false
set_option maxHeartbeats 4000000
namespace Sl
theorem run_free : ∀ (n : Nat) (s : Int) (l : List Int), l.length < n → ∃ k : Nat, k < n ∧ s + (k : Int) ∉ l
  | 0, _, l, h => by omega
  | n + 1, s, l, h => by
    by_cases hs : s ∈ l
    · have hlen : (l.filter fun x => decide (x ≠ s)).length < n := by
        have h1 : (l.filter fun x => decide (x ≠ s)).length < l.length := by
          rw [List.length_filter_lt_length_iff_exists]
          exact ⟨s, hs, by simp⟩
        omega
      obtain ⟨k, hk, hn⟩ := run_free n (s + 1) (l.filter fun x => decide (x ≠ s)) hlen
      refine ⟨k + 1, by omega, fun hm => hn (List.mem_filter.mpr ⟨?_, ?_⟩)⟩
      · have e : s + ((k + 1 : Nat) : Int) = s + 1 + (k : Int) := by omega
        rw [← e]; exact hm
      · simp only [ne_eq, decide_not, Bool.not_eq_true', decide_eq_false_iff_not]
        omega
    · exact ⟨0, by omega, by simpa using hs⟩
def forb : Rule → List Int → List Int
  | .even, ns => ns.flatMap fun a => ns.map fun b => 2 * b - a
  | .sums, ns => ns.flatMap fun a => ns.flatMap fun c => ns.map fun d => c + d - a
  | .parts, ns => 0 :: ns.flatMap fun a => ns.map fun b => a + b
theorem len_flatMap_const {α β : Type} {f : α → List β} {n : Nat} : ∀ (l : List α), (∀ a ∈ l, (f a).length = n) → (l.flatMap f).length = l.length * n
  | [], _ => by simp
  | a :: l, h => by
    rw [List.flatMap_cons, List.length_append, h a List.mem_cons_self, len_flatMap_const l fun b hb => h b (List.mem_cons_of_mem _ hb), List.length_cons, Nat.succ_mul, Nat.add_comm]
theorem forb_len (r : Rule) (ns : List Int) (h : ns.length ≤ 20) : (forb r ns).length ≤ 8000 := by
  have h2 : ns.length * ns.length ≤ 20 * 20 := Nat.mul_le_mul h h
  cases r with
  | even =>
    have e : (forb .even ns).length = ns.length * ns.length := len_flatMap_const ns fun a _ => by simp
    omega
  | sums =>
    have e : (forb .sums ns).length = ns.length * (ns.length * ns.length) := len_flatMap_const ns fun a _ => len_flatMap_const ns fun b _ => by simp
    have h3 : ns.length * (ns.length * ns.length) ≤ 20 * (20 * 20) := Nat.mul_le_mul h h2
    omega
  | parts =>
    have e : (ns.flatMap fun a => ns.map fun b => a + b).length = ns.length * ns.length := len_flatMap_const ns fun a _ => by simp
    show (0 :: ns.flatMap fun a => ns.map fun b => a + b).length ≤ 8000
    rw [List.length_cons]
    omega
theorem mem_snoc {ns : List Int} {m x : Int} : x ∈ ns ++ [m] ↔ x ∈ ns ∨ x = m := by simp
theorem forb_of {r : Rule} {ns : List Int} {m : Int} (h0 : ∀ n ∈ ns, 0 ≤ n) (hm0 : 0 ≤ m) (hm : ∀ n ∈ ns, n < m) (nb : ¬ Brk r ns) (b : Brk r (ns ++ [m])) : m ∈ forb r ns := by
  have le : ∀ x ∈ ns ++ [m], x ≤ m := fun x hx => by
    rcases mem_snoc.mp hx with q | q
    · exact Int.le_of_lt (hm x q)
    · omega
  have old : ∀ x ∈ ns ++ [m], x < m → x ∈ ns := fun x hx hl => by
    rcases mem_snoc.mp hx with q | q
    · exact q
    · omega
  cases r with
  | even =>
    obtain ⟨x, hx, y, hy, z, hz, h1, h2⟩ := b
    have lz := le z hz
    have hx' := old x hx (by omega)
    have hy' := old y hy (by omega)
    have ez : z = m := by
      rcases mem_snoc.mp hz with q | q
      · exact absurd ⟨x, hx', y, hy', z, q, h1, h2⟩ nb
      · exact q
    exact List.mem_flatMap.mpr ⟨x, hx', List.mem_map.mpr ⟨y, hy', by omega⟩⟩
  | sums =>
    obtain ⟨x, hx, y, hy, z, hz, u, hu, h1, h2, h3, h4⟩ := b
    have ly := le y hy
    have hx' := old x hx (by omega)
    have hz' := old z hz (by omega)
    have hu' := old u hu (by omega)
    have ey : y = m := by
      rcases mem_snoc.mp hy with q | q
      · exact absurd ⟨x, hx', y, q, z, hz', u, hu', h1, h2, h3, h4⟩ nb
      · exact q
    exact List.mem_flatMap.mpr ⟨x, hx', List.mem_flatMap.mpr ⟨z, hz', List.mem_map.mpr ⟨u, hu', by omega⟩⟩⟩
  | parts =>
    obtain ⟨x, hx, y, hy, z, hz, h1, h2⟩ := b
    by_cases hm' : m = 0
    · rw [hm']; exact List.mem_cons_self
    · have lz := le z hz
      have nz : ∀ w ∈ ns ++ [m], 0 ≤ w := fun w hw => by
        rcases mem_snoc.mp hw with q | q
        · exact h0 w q
        · omega
      have px := nz x hx
      have py := nz y hy
      have hx' := old x hx (by omega)
      have px' : x ≠ 0 := fun e => nb ⟨x, hx', x, hx', x, hx', Int.le_refl _, by omega⟩
      have hy' := old y hy (by omega)
      have ez : z = m := by
        rcases mem_snoc.mp hz with q | q
        · exact absurd ⟨x, hx', y, hy', z, q, h1, h2⟩ nb
        · exact q
      exact List.mem_cons_of_mem _ (List.mem_flatMap.mpr ⟨x, hx', List.mem_map.mpr ⟨y, hy', by omega⟩⟩)
def start : List Int → Int := fun ns => match ns.getLast? with | none => 0 | some x => x + 1
theorem start_snoc (ns : List Int) (x : Int) : start (ns ++ [x]) = x + 1 := by simp [start]
theorem start_gt {ns : List Int} (h : Up ns) : ∀ n ∈ ns, n < start ns := by
  intro n hn
  rcases List.eq_nil_or_concat ns with e | ⟨l, x, e⟩
  · subst e; cases hn
  · rw [List.concat_eq_append] at e
    subst e
    rw [start_snoc]
    rcases mem_snoc.mp hn with q | q
    · have := (List.pairwise_append.mp h).2.2 n q x (List.mem_singleton.mpr rfl)
      omega
    · omega
theorem start_nonneg {ns : List Int} (h : ∀ n ∈ ns, 0 ≤ n) : 0 ≤ start ns := by
  rcases List.eq_nil_or_concat ns with e | ⟨l, x, e⟩
  · subst e; exact Int.le_refl _
  · rw [List.concat_eq_append] at e
    subst e
    rw [start_snoc]
    have := h x (by simp)
    omega
def findFrom (r : Rule) (ns : List Int) : Nat → Int → Int
  | 0, m => m
  | f + 1, m => if Brk r (ns ++ [m]) then findFrom r ns f (m + 1) else m
theorem findFrom_spec {r : Rule} {ns : List Int} : ∀ (f : Nat) (m : Int), (∃ k : Nat, k < f ∧ ¬ Brk r (ns ++ [m + (k : Int)])) →
    m ≤ findFrom r ns f m ∧ findFrom r ns f m < m + (f : Int) ∧ ¬ Brk r (ns ++ [findFrom r ns f m]) ∧ ∀ j, m ≤ j → j < findFrom r ns f m → Brk r (ns ++ [j])
  | 0, m, h => by obtain ⟨k, hk, _⟩ := h; omega
  | f + 1, m, h => by
    unfold findFrom
    by_cases hb : Brk r (ns ++ [m])
    · rw [if_pos hb]
      have h' : ∃ k : Nat, k < f ∧ ¬ Brk r (ns ++ [m + 1 + (k : Int)]) := by
        obtain ⟨k, hk, nb⟩ := h
        cases k with
        | zero => exact absurd hb (by simpa using nb)
        | succ k =>
          refine ⟨k, by omega, ?_⟩
          rw [show m + 1 + (k : Int) = m + ((k + 1 : Nat) : Int) by omega]
          exact nb
      obtain ⟨h1, h2, h3, h4⟩ := findFrom_spec f (m + 1) h'
      refine ⟨by omega, by omega, h3, fun j hj hl => ?_⟩
      by_cases e : j = m
      · rw [e]; exact hb
      · exact h4 j (by omega) hl
    · rw [if_neg hb]
      exact ⟨Int.le_refl _, by omega, hb, fun j h1 h2 => by omega⟩
def nxt (r : Rule) (ns : List Int) : Int := findFrom r ns 8001 (start ns)
structure Kept (r : Rule) (ns : List Int) : Prop where
  up : Up ns
  pos : ∀ n ∈ ns, 0 ≤ n
  nb : ¬ Brk r ns
theorem nxt_spec {r : Rule} {ns : List Int} (h : Kept r ns) (hl : ns.length ≤ 20) :
    start ns ≤ nxt r ns ∧ nxt r ns ≤ start ns + 8000 ∧ ¬ Brk r (ns ++ [nxt r ns]) ∧ ∀ j, start ns ≤ j → j < nxt r ns → Brk r (ns ++ [j]) := by
  have hlen := forb_len r ns hl
  obtain ⟨k, hk, hn⟩ := run_free 8001 (start ns) (forb r ns) (by omega)
  have p := start_nonneg h.pos
  have g := start_gt h.up
  have nb : ¬ Brk r (ns ++ [start ns + (k : Int)]) := fun b => hn (forb_of h.pos (by omega) (fun n hm => by have := g n hm; omega) h.nb b)
  obtain ⟨h1, h2, h3, h4⟩ := findFrom_spec (r := r) (ns := ns) 8001 (start ns) ⟨k, hk, nb⟩
  unfold nxt
  exact ⟨h1, by omega, h3, h4⟩
theorem up_snoc {ns : List Int} {m : Int} (h : Up ns) (hm : ∀ n ∈ ns, n < m) : Up (ns ++ [m]) :=
  List.pairwise_append.mpr ⟨h, List.pairwise_singleton _ _, fun a ha b hb => by rw [List.mem_singleton.mp hb]; exact hm a ha⟩
theorem Kept.next {r : Rule} {ns : List Int} (h : Kept r ns) (hl : ns.length ≤ 20) : Kept r (ns ++ [nxt r ns]) := by
  obtain ⟨h1, h2, h3, h4⟩ := nxt_spec h hl
  have p := start_nonneg h.pos
  refine ⟨up_snoc h.up fun n hn => ?_, fun n hn => ?_, h3⟩
  · have := start_gt h.up n hn; omega
  · rcases mem_snoc.mp hn with q | q
    · exact h.pos n q
    · omega
theorem Kept.nil (r : Rule) : Kept r [] := by
  refine ⟨List.Pairwise.nil, (fun _ h => nomatch h), ?_⟩
  cases r <;> rintro ⟨a, ha, _⟩ <;> cases ha
def grow (r : Rule) (ns : List Int) : Nat → List Int
  | 0 => ns
  | k + 1 => grow r ns k ++ [nxt r (grow r ns k)]
theorem grow_len (r : Rule) (ns : List Int) : ∀ k, (grow r ns k).length = ns.length + k
  | 0 => rfl
  | k + 1 => by
    show (grow r ns k ++ [_]).length = _
    rw [List.length_append, grow_len r ns k, List.length_singleton, Nat.add_assoc]
theorem grow_kept {r : Rule} {ns : List Int} (h : Kept r ns) : ∀ k, ns.length + k ≤ 21 → Kept r (grow r ns k)
  | 0, _ => h
  | k + 1, hl => (grow_kept h k (by omega)).next (by rw [grow_len]; omega)
theorem Brk.mono {r : Rule} {ns ms : List Int} (h : ∀ x ∈ ns, x ∈ ms) (b : Brk r ns) : Brk r ms := by
  cases r with
  | even => obtain ⟨a, ha, b, hb, c, hc, q⟩ := b; exact ⟨a, h a ha, b, h b hb, c, h c hc, q⟩
  | sums => obtain ⟨a, ha, b, hb, c, hc, d, hd, q⟩ := b; exact ⟨a, h a ha, b, h b hb, c, h c hc, d, h d hd, q⟩
  | parts => obtain ⟨a, ha, b, hb, c, hc, q⟩ := b; exact ⟨a, h a ha, b, h b hb, c, h c hc, q⟩
theorem Kept.sub {r : Rule} {ns ms : List Int} (h : Kept r ms) (s : ns.Sublist ms) : Kept r ns :=
  ⟨h.up.sublist s, fun n hn => h.pos n (s.subset hn), fun b => h.nb (b.mono fun x hx => s.subset hx)⟩
end Sl
set_option linter.all false
set_option maxHeartbeats 4000000
namespace Sl
end Sl
set_option Elab.async false
set_option linter.all false
set_option maxRecDepth 100000
set_option maxHeartbeats 4000000
namespace L2
open PySem PySem.Spec PyProof.Rows
def DefOf (K : PySem.W.Frag) (mg : Str → Option Value) (x : Str) (st : Stmt) (ps : List Str) : Prop := ∃ f fd, Fun K x x st f fd ∧ Binds K fd ps [] ∧ mg x = some (.ref f)
def Callee (P : Program) (w : World) (K : PySem.W.Frag) (mg : Str → Option Value) (base : Heap) (k : Nat) (x : Str) (ps : List Str) (sp : Sp) : Prop :=
  ∃ f fd, FnOk P w K mg base CX0 k f fd ps sp ∧ mg x = some (.ref f) ∧ PySem.W.keepIn K (.ref f) = true ∧ Binds K fd ps []
section
variable {P : Program} {w : World} {K : PySem.W.Frag} {mg : Str → Option Value} {base : Heap}
theorem DefOf.ok {x : Str} {st : Stmt} {N ps : List Str} {k : Nat} {sp : Sp} (D : DefOf K mg x st ps) (S : FnScope N ps (defScope st)) (len : ∀ vs H Q E, sp vs H Q E → vs.length = ps.length)
    (hbody : ∀ (f : Addr) (cdv : Value) (A : Around) (outer : List Env) (s : Shared) (H : Hp) (vs : List V) (Q : VK) (E : XK), Room k (A.deeper (envOfC x (defScope st) s.heap.objs.size f cdv)) → sp vs H Q E →
      ∃ t, PSs (cxOf CX0 P w K mg base N x (defScope st) f cdv A outer s H E).nox (defBody st) t ∧ t { nx := fun _ H' => Q .non H', rt := Q } (start N vs) H) : Callee P w K mg base (k + 1) x ps sp := by
  obtain ⟨f, fd, F, b, m⟩ := D
  exact ⟨f, fd, F.ok S len fun cdv A outer s H vs Q E hr h => hbody f cdv A outer s H vs Q E hr h, m, F.kp, b⟩
theorem Callee.imp {x : Str} {ps : List Str} {k : Nat} {sp sp' : Sp} (C : Callee P w K mg base k x ps sp) (h : ∀ vs H Q E, sp' vs H Q E → sp vs H Q E) : Callee P w K mg base k x ps sp' := by
  obtain ⟨f, fd, F, m, kp, b⟩ := C
  exact ⟨f, fd, F.imp h, m, kp, b⟩
end
section
variable {X : Cx} {k : Nat} {x : Str} {ps : List Str} {sp : Sp} {p pos : Pos} {e : Expr} {es : List Expr} {t : TA}
theorem pe_callD (C : Callee X.prog X.w X.K X.mg X.base k x ps sp) (hr : Room k X.A) (hg : Gl X x) (ha : PA X (e :: es) t) (hdb : (x == ("__debug__" : Str)) = false := by decide)
    (he : starEach (e :: es) X.env = (false, eval e X.env) :: starEach es X.env := by rfl) (hpl : (backTo pos (starEach es X.env)).any (·.1) = false := by rfl) : PE X (.Call (.Name x p) (e :: es) [] pos) (tCall sp [] E0 t) := by
  obtain ⟨f, fd, F, m, kp, b⟩ := C
  exact pe_call F hr hg m kp b .nil pass0 ha hdb he hpl
theorem Room.u64 {k : Nat} {A : Around} (r : Room k A) : A.units + 64 < cLine := r.units
end
abbrev vint (ns : List Int) : List V := ns.map V.int
theorem ints_len (ns : List Int) : (vint ns).length = ns.length := List.length_map _
theorem ints_get {ns : List Int} {i : Nat} (h : i < ns.length) : (vint ns)[i]? = some (.int (ns.getD i 0)) := by
  rw [List.getElem?_map, List.getElem?_eq_getElem h]
  simp [List.getD_eq_getElem?_getD, h]
theorem ints_some {ns : List Int} {i : Nat} {v : V} (h : (vint ns)[i]? = some v) : i < ns.length ∧ v = .int (ns.getD i 0) := by
  have hi : i < ns.length := by
    have := (List.getElem?_eq_some_iff.mp h).1
    rwa [ints_len] at this
  rw [ints_get hi] at h
  exact ⟨hi, (Option.some.inj h).symm⟩
theorem ints_at {ns : List Int} {i : Nat} (h : i < ns.length) : atI (vint ns) (i : Int) = some (.int (ns.getD i 0)) := atI_nat (ints_get h)
theorem ints_flat (ns : List Int) : (vint ns).all flatV = true := by
  rw [List.all_eq_true]
  intro v hv
  obtain ⟨n, _, rfl⟩ := List.mem_map.mp hv
  rfl
theorem ints_in (x : Int) (ns : List Int) : inV (.int x) (vint ns) = decide (x ∈ ns) := by
  unfold inV
  rw [Bool.eq_iff_iff, List.any_eq_true, decide_eq_true_eq]
  constructor
  · rintro ⟨v, hv, e⟩
    obtain ⟨n, hn, rfl⟩ := List.mem_map.mp hv
    have : n = x := by simpa [eqV] using e
    exact this ▸ hn
  · intro h
    exact ⟨.int x, List.mem_map.mpr ⟨x, h, rfl⟩, by simp [eqV]⟩
theorem sIx_nat (n d k : Nat) : HT.sIx n d (some (k : Int)) = min k n := by
  unfold HT.sIx
  simp
  omega
theorem cut_drop (ns : List Int) (k : Nat) : cutV (vint ns) (some (k : Int)) none = vint (ns.drop k) := by
  unfold cutV
  rw [sIx_nat, show HT.sIx (vint ns).length (vint ns).length none = (vint ns).length from rfl]
  rw [List.take_of_length_le (by rw [List.length_drop]; omega), ints_len, show vint (ns.drop k) = (vint ns).drop k from List.map_drop ..]
  rcases Nat.lt_or_ge ns.length k with h | h
  · rw [Nat.min_eq_right (by omega), List.drop_of_length_le (by rw [ints_len]; omega), List.drop_of_length_le (by rw [ints_len]; omega)]
  · rw [Nat.min_eq_left h]
theorem cut_take (ns : List Int) (k : Nat) : cutV (vint ns) none (some (k : Int)) = vint (ns.take k) := by
  unfold cutV
  rw [sIx_nat, show HT.sIx (vint ns).length 0 none = 0 from rfl, List.drop_zero, ints_len, show vint (ns.take k) = (vint ns).take k from List.map_take .., Nat.sub_zero]
  rcases Nat.lt_or_ge ns.length k with h | h
  · rw [Nat.min_eq_right (by omega), List.take_of_length_le (by rw [ints_len]; omega), List.take_of_length_le (by rw [ints_len]; omega)]
  · rw [Nat.min_eq_left h]
theorem ints_snoc (ns : List Int) (n : Int) : vint ns ++ [.int n] = vint (ns ++ [n]) := by simp
theorem ints_app (ns ms : List Int) : vint ns ++ vint ms = vint (ns ++ ms) := by simp
theorem ints_small {ns : List Int} (h : ns.length ≤ 1000) : (vint ns).length ≤ sizeLine := by rw [ints_len]; exact Nat.le_of_lt (small1000 h)
theorem iteN {c A B : Prop} [Decidable c] (hc : ¬ c) (h : B) : if c then A else B := by
  rw [if_neg hc]
  exact h
theorem iteY {c A B : Prop} [Decidable c] (hc : c) (h : A) : if c then A else B := by
  rw [if_pos hc]
  exact h
theorem small_of {n : Nat} (h : n ≤ 100000) : n < sizeLine := Nat.lt_of_le_of_lt h (by decide)
section
variable {X : Cx}
theorem PE.imp {e : Expr} {t t' : TE} (h : PE X e t) (i : ∀ σ H Q, t' σ H Q → t σ H Q) : PE X e t' := fun pins s σ H Q I q => h pins s σ H Q I (i σ H Q q)
theorem PT.imp {e : Expr} {t t' : TT} (h : PT X e t) (i : ∀ σ H Q, t' σ H Q → t σ H Q) : PT X e t' := fun pins s σ H Q I q => h pins s σ H Q I (i σ H Q q)
theorem PS.imp {st : Stmt} {t t' : TS} (h : PS X st t) (i : ∀ D σ H, t' D σ H → t D σ H) : PS X st t' := fun pins s σ H D I q => h pins s σ H D I (i D σ H q)
theorem PSs.imp {st : List Stmt} {t t' : TS} (h : PSs X st t) (i : ∀ D σ H, t' D σ H → t D σ H) : PSs X st t' := fun pins s σ H D I q => h pins s σ H D I (i D σ H q)
end
def compOk (so : Scope) (N N' : List Str) (sc : Scope) : Bool :=
  (sc.kind == .function) && (sc.names.all (fun y => y.2 != .cell) && (sc.names.all (fun y => y.2 != .free || (so.names.lookup y.1 == some .cell || so.names.lookup y.1 == some .free)) &&
    (N'.all (fun x => sc.names.lookup x != some .local) && (sc.names.all (fun y => y.2 != .local || sc.names.lookup y.1 == some .local) &&
    (decide (N'.length = N.length) && (N'.zip N).all (fun p => p.1 == p.2 || !(sc.names.any fun y => y.1 == p.1 && y.2 == .free)))))))
theorem comp_scope {X : Cx} {own N' : List Str} {sc : Scope} (so : Scope) (N : List Str) (hs : X.env.scope = so) (hN : X.N = N) (h : compOk so N N' sc = true) : CompScope X own N' sc := by
  subst hs hN
  unfold compOk at h
  simp only [Bool.and_eq_true, List.all_eq_true] at h
  obtain ⟨h1, h2, h3, h4, h5, h6, h7⟩ := h
  refine ⟨by simpa using h1, fun y hy => by simpa using h2 y hy, fun y hy hf => ?_, fun x hx => by simpa using h4 x hx, of_decide_eq_true h6, fun i x hi hm => ?_, fun y hy hl => ?_⟩
  · have := h3 y hy
    simp only [hf, Bool.or_eq_true] at this
    rcases this with z | z | z
    · exact absurd z (by decide)
    · exact .inl (by simpa [Env.kindOf] using z)
    · exact .inr (by simpa [Env.kindOf] using z)
  · have hl : i < X.N.length := by
      have := (List.getElem?_eq_some_iff.mp hi).1
      have h6' : N'.length = X.N.length := of_decide_eq_true h6
      omega
    have hz : (x, X.N[i]) ∈ N'.zip X.N := by
      refine List.mem_of_getElem? (i := i) ?_
      rw [List.getElem?_zip_eq_some]
      exact ⟨hi, by simp [hl]⟩
    have := h7 _ hz
    rw [Bool.or_eq_true] at this
    rcases this with z | z
    · have e : x = X.N[i] := by simpa using z
      rw [e]
      simp [hl]
    · exfalso
      rw [Bool.not_eq_true', List.any_eq_false] at z
      exact z _ hm (by simp)
  · have := h5 y hy
    simp only [hl, Bool.or_eq_true] at this
    rcases this with z | z
    · exact absurd z (by decide)
    · simpa using z
theorem pg_own {X : Cx} {own : List Str} {sc : Scope} {s : Shared} {H : Hp} {C : Addr} {ex : List Addr} {i : Nat} {x : Str} {pos : Pos} (N' : List Str) (hN : (own ++ N').Nodup) (hi : (own ++ N')[i]? = some x) (hx : sc.names.lookup x = some .local) :
    PG (X.comp own N' sc s H C ex) (.Name x pos) (gName i) := pg_name hN hi (Or.inl (lookup_relabel_local hx)) (.inr (lookup_relabel_local hx))
theorem pe_gint {X : Cx} {x : Str} {i : Int} {t : Tok} {pos : Pos} (hg : Gl X x) (hm : X.mg x = some (.int i t)) (hd : (x == ("__debug__" : Str)) = false := by decide) : PE X (.Name x pos) (tC (.int i)) := pe_glob (v := .int i) hg hm ⟨t, rfl⟩ hd
theorem pe_gref {X : Cx} {x : Str} {a : Addr} {pos : Pos} (hg : Gl X x) (hm : X.mg x = some (.ref a)) (hd : (x == ("__debug__" : Str)) = false := by decide) : PE X (.Name x pos) (tC (.ref a)) := pe_glob (v := .ref a) hg hm rfl hd
theorem pe_bty {X : Cx} {x : Str} {n : String} {pos : Pos} (hg : Gl X x) (hm : X.mg x = none) (hv : bootBuiltins x = some (.type n)) (hn : x ≠ "__name__" := by decide) (hd : (x == ("__debug__" : Str)) = false := by decide) : PE X (.Name x pos) (tC (.ty n)) := pe_bltn (v := .ty n) hg hm hv rfl hn hd
theorem noTest {σ : St} {H : Hp} {A B : Hp → Prop} (h : A H) : tNoTest σ H fun b H3 => if b = true then A H3 else B H3 := by
  show if true = true then A H else B H
  rw [if_pos rfl]
  exact h
theorem pg_pairK {X : Cx} {K : PySem.W.Frag} {i j : Nat} {x y : Str} {px py pt : Pos} {k : Nat} (hK : X.K = K) (hc : X.calm = true) (h1 : PG X (.Name x px) (gName i)) (h2 : PG X (.Name y py) (gName j)) : PG X (.Tuple [.Name x px, .Name y py] k pt) (gPair K i j) := by
  subst hK
  exact pg_pair hc h1 h2
theorem map_take_succ {α : Type} (f : Int → α) {ns : List Int} {i : Nat} (h : i < ns.length) : (ns.take (i + 1)).map f = (ns.take i).map f ++ [f (ns.getD i 0)] := by
  rw [List.take_add_one, List.getElem?_eq_getElem h, Sl.getD_get h, List.map_append]
  rfl
def NewL (H H' : Hp) (p : Addr) (ms : List Int) : Prop := Same H H' ∧ H p = none ∧ H' p = some (.lst (vint ms))
theorem refNon {p : Addr} : ¬ decide (V.ref p = V.non) = true := fun z => nomatch of_decide_eq_true z
end L2
set_option Elab.async false
set_option linter.all false
set_option maxRecDepth 100000
set_option maxHeartbeats 4000000
namespace L2
open PySem PySem.Spec PyProof.Rows PySem.W
structure Fly (P : Program) (w : World) (outer : List Env) (H : Hp) (s : Shared) (ea : Addr) (cls : Value) (H' : Hp) (B : Heap) (s' : Shared) : Prop where
  fly : ∃ t, Heap.FlyingW B outer ea cls (.ref t) s'.heap
  os : s'.os = s.os
  bare : AllBare s'.gens
  un : Un (frs outer) [] H H' s.heap s'.heap
  hok : HOk P w H' s'.heap
  old : ∀ b o0, s.heap.get? b = some o0 → b ∉ frs outer → ∀ o, s'.heap.get? b = some o → B.get? b = some o
  trk : ∀ b u, H' b = some u → ∀ o, s'.heap.get? b = some o → B.get? b = some o
def CXx (P : Program) (w : World) : CXT := fun outer H s E e s' => ∃ ea cls H' B, e = .ref ea ∧ Fly P w outer H s ea cls H' B s' ∧ E cls none H'
theorem ObjOk.has {P : Program} {w : World} {H : Hp} {h : Heap} {a : Addr} {o : HO} (x : ObjOk P w H h a o) : ∃ ob, h.get? a = some ob := by
  induction o with
  | lst xs => obtain ⟨_, _, _, _, e⟩ := x; exact ⟨_, e⟩
  | tup xs => obtain ⟨_, _, _, ob, e, _⟩ := x; exact ⟨_, e⟩
  | dK kvs => obtain ⟨_, _, _, _, ob, _, _, e, _⟩ := x; exact ⟨_, e⟩
  | dT kvs => obtain ⟨_, _, _, _, ob, _, _, e, _⟩ := x; exact ⟨_, e⟩
  | set S n => obtain ⟨ob, _, _, _, e, _⟩ := x; exact ⟨_, e⟩
  | ins C dx fs => obtain ⟨_, _, _, e, _⟩ := x; exact ⟨_, e⟩
  | own y => exact x
  | xd fs => obtain ⟨_, ⟨ob, _, _, e, _⟩, _⟩ := x; exact ⟨_, e⟩
  | rng lo hi => obtain ⟨_, _, _, e⟩ := x; exact ⟨_, e⟩
  | frz ob u ih => exact ⟨_, x.1⟩
  | tbl ps => exact ⟨_, x⟩
  | met f y => exact ⟨_, x⟩
  | ext φ => exact x.2.1
section
variable {P : Program} {w : World} {outer : List Env} {H H' : Hp} {s s' : Shared} {ea : Addr} {cls : Value} {B h2 : Heap}
theorem Fly.free (F : Fly P w outer H s ea cls H' B s') : H' ea = none := by
  cases e : H' ea with
  | none => rfl
  | some u =>
    obtain ⟨t, f⟩ := F.fly
    obtain ⟨o, ho⟩ := (F.hok ea u e).has
    have := F.trk ea u e o ho
    rw [f.2.1] at this
    cases this
theorem Fly.on {outer' : List Env} {H0 : Hp} {s0 : Shared} {t : Addr} (F : Fly P w outer H s ea cls H' B s') (hf : Heap.FlyingW B outer' ea cls (.ref t) h2) (sm : s'.heap.UpToSlots h2)
    (u0 : Un (frs outer') [] H0 H s0.heap s.heap) (ho : s.os = s0.os) (sub : ∀ b ∈ frs outer', b ∈ frs outer) (new : ∀ b ∈ frs outer, b ∉ frs outer' → ∀ o, s0.heap.get? b ≠ some o) :
    Fly P w outer' H0 s0 ea cls H' B { s' with heap := h2 } := by
  obtain ⟨t', ff⟩ := F.fly
  have st : ∀ b o, B.get? b = some o → h2.get? b = some o := hf.1
  have tr : ∀ b u, H' b = some u → ∀ o, s'.heap.get? b = some o → h2.get? b = some o := fun b u e o ho => st b o (F.trk b u e o ho)
  have nfr : ∀ b o0, s0.heap.get? b = some o0 → b ∉ frs outer' → b ∉ frs outer := fun b o0 e n z => new b z n o0 e
  have nof : ∀ b ∈ frs outer, ∀ o, s'.heap.get? b = some o → ∀ vs, o.data ≠ .fields vs := fun b hb o e => by
    obtain ⟨_, o1, e1, n1⟩ := ff.2.2.1.mem hb
    rw [e] at e1
    cases e1
    exact n1
  have th : ∀ b o0, s0.heap.get? b = some o0 → ∃ o, h2.get? b = some o := fun b o0 e => by
    obtain ⟨o1, e1⟩ := u0.there b o0 e (by simp)
    obtain ⟨o2, e2⟩ := F.un.there b o1 e1 (by simp)
    by_cases hb : b ∈ frs outer
    · obtain ⟨sl, e3⟩ := sm b o2 e2 (nof b hb o2 e2)
      exact ⟨_, e3⟩
    · exact ⟨o2, st b o2 (F.old b o1 e1 hb o2 e2)⟩
  refine ⟨⟨t, hf⟩, F.os.trans ho, F.bare, ⟨fun b o e n hb _ => ?_, fun b o e n hb _ => ?_, fun b o e n _ => ?_, fun b o e _ => th b o e, fun b xs e => F.un.tups b xs (u0.tups b xs e), fun b o u e => F.un.frzs b o u (u0.frzs b o u e), fun b ps e => ?_⟩, fun a o e => ?_, fun b o0 e hb o e2 => ?_, fun b u e o e2 => ?_⟩
  · have e1 := u0.keep b o e n hb (by simp)
    have n1 := u0.free b o e n (by simp)
    have hb' := nfr b o e hb
    have e2 := F.un.keep b o e1 n1 hb' (by simp)
    exact st b o (F.old b o e1 hb' o e2)
  · obtain ⟨sl, e1⟩ := u0.slot b o e n hb (by simp)
    have n1 := u0.free b o e n (by simp)
    obtain ⟨sl2, e2⟩ := F.un.slot b _ e1 n1 (sub b hb) (by simp)
    obtain ⟨sl3, e3⟩ := sm b _ e2 (nof b (sub b hb) _ e2)
    exact ⟨sl3, e3⟩
  · obtain ⟨o1, e1⟩ := u0.there b o e (by simp)
    exact F.un.free b o1 e1 (u0.free b o e n (by simp)) (by simp)
  · obtain ⟨m1, e1⟩ := u0.tbls b ps e
    obtain ⟨m2, e2⟩ := F.un.tbls b _ e1
    exact ⟨m1 ++ m2, by rw [e2, Array.append_assoc]⟩
  · exact (F.hok a o e).stay (fun b u hb q => tr b (if b = a then o else .own a) (by
      rcases hb with rfl | hb
      · rw [if_pos rfl]; exact e
      · by_cases z : b = a
        · rw [if_pos z, z]; exact e
        · rw [if_neg z]; exact hb) u q) (fun _ q => q) fun _ _ q => q
  · obtain ⟨o1, e1⟩ := u0.there b o0 e (by simp)
    obtain ⟨o2, e3⟩ := F.un.there b o1 e1 (by simp)
    have e4 := F.old b o1 e1 (nfr b o0 e hb) o2 e3
    have e5 := st b o2 e4
    have e2 : h2.get? b = some o := e2
    rw [e5] at e2
    cases e2
    exact e4
  · obtain ⟨o2, e3⟩ := (F.hok b u e).has
    have e4 := F.trk b u e o2 e3
    have e2 : h2.get? b = some o := e2
    rw [st b o2 e4] at e2
    cases e2
    exact e4
end
structure RTo (X : Cx) (E : XK) : Prop where
  stk : X.stack = X.env :: X.outer
  fr : X.env.frame = some X.env.locals
  ex : X.ex = []
  calm : X.calm = true
  to : ∀ e s', wpAny (model X.prog X.w) X.A (leaving X.env e) (fun _ s'' => CXx X.prog X.w X.outer X.H₀ X.s₀ E e s'') (fun e' s'' => CXx X.prog X.w X.outer X.H₀ X.s₀ E e' s'') s' → X.xe e s'
theorem rto_cxOf {P : Program} {w : World} {K : PySem.W.Frag} {mg : Str → Option Value} {base : Heap} {N : List Str} {qual : Str} {scope : Scope} {f : Addr} {cd : Value} {A : Around} {outer : List Env} {s : Shared} {H : Hp} {E : XK} :
    RTo (cxOf (CXx P w) P w K mg base N qual scope f cd A outer s H E) E := ⟨rfl, rfl, rfl, rfl, fun _ _ h => h⟩
section
variable {X : Cx} {E : XK} {pins : List (Addr × Obj)} {σ : St} {H : Hp} {s s' : Shared}
theorem Inv.un0 (I : Inv X pins σ H s) (hx : X.ex = []) : Un (frs X.outer) [] X.H₀ H X.s₀.heap s.heap := by
  have := I.base
  rw [hx] at this
  exact this
theorem Inv.frame_new (I : Inv X pins σ H s) (R : RTo X E) : ∀ b ∈ frs X.stack, b ∉ frs X.outer → ∀ o, X.s₀.heap.get? b ≠ some o := by
  intro b hb n o e
  rw [R.stk] at hb
  unfold frs at hb
  rw [List.filterMap_cons] at hb
  have hf : X.env.frame = some X.env.locals := R.fr
  rw [hf] at hb
  rcases List.mem_cons.mp hb with rfl | hb
  · have h1 := I.ok.above
    rw [Heap.get?_none_of_le h1] at e
    cases e
  · exact n hb
theorem frs_sub (R : RTo X E) : ∀ b ∈ frs X.outer, b ∈ frs X.stack := by
  intro b hb
  rw [R.stk]
  unfold frs at hb ⊢
  rw [List.filterMap_cons]
  cases e : X.env.frame with
  | none => exact hb
  | some L => exact List.mem_cons_of_mem _ hb
theorem pass_fly (R : RTo X E) : Passes (CXx X.prog X.w) X E := by
  intro pins σ H s e s' I h
  obtain ⟨ea, cls, H', B, rfl, F, q⟩ := h
  refine R.to _ _ ?_
  obtain ⟨t, ff⟩ := id F.fly
  have hfr := I.ok.frames
  have ff' := ff
  rw [R.stk] at hfr ff'
  refine wpAny_leaves_onW hfr R.fr ff' fun h' f' sm => ?_
  exact ⟨ea, cls, H', B, rfl, F.on f' sm (I.un0 R.ex) I.os (frs_sub R) (I.frame_new R), q⟩
end
abbrev mroV : List Value := [.type "ValueError", .type "Exception", .type "BaseException", .type "object"]
abbrev newV : String := "ValueError.__new__"
theorem own_cls {K : PySem.W.Frag} {h : Heap} {mg : Str → Option Value} {x : Str} {C : Addr} (kin : K.In h) (m : mg x = some (.ref C)) (q : excIn K C mroV newV = true) : OwnCls x C mroV newV mg h := by
  refine ⟨m, ?_⟩
  unfold excIn at q
  split at q
  case h_2 => cases q
  case h_1 dd cd sl ho =>
    split at q
    case h_2 => cases q
    case h_1 C' bm k0 k1 k2 k3 n k5 hm hs =>
      simp only [Bool.and_eq_true, beq_iff_eq, Bool.not_eq_true'] at q
      obtain ⟨⟨⟨⟨⟨e1, e2⟩, e3⟩, e4⟩, e5⟩, e6⟩ := q
      subst e1 e2
      cases cd with
      | mk nm bs mro ns qn hd sn sub ab col del =>
        have hsl : sl = #[k0, k1, k2, k3, some (.builtin newV), k5] := by cases sl with | mk l => exact congrArg Array.mk hs
        have e3' : del = false := e3
        have hm' : mro = .ref C' :: bm := hm
        subst hsl e3' hm'
        refine ⟨bm, ns, nm, qn, bs, hd, sn, sub, ab, col, dd, k0, k1, k2, k3, k5, _, kin _ _ ho, ?_, nsMap_none_of_in kin e5 e6, tail_of_in kin e4⟩
        exact .of_isNs (isNs_of_in kin e5)
structure ExcC (X : Cx) (x : Str) (C : Addr) : Prop where
  m : X.mg x = some (.ref C)
  k : excIn X.K C mroV newV = true
section
variable {X : Cx} {E : XK} {pins : List (Addr × Obj)} {σ : St} {H : Hp} {s s' : Shared}
theorem fly_new {h1 h2 : Heap} {ea t : Addr} {cls : Value} {vs : List Value} (I : Inv X pins σ H s) (R : RTo X E) (hx : Heap.MadeExcOf s.heap h1 ea cls vs) (f : Heap.FlyingW (hideAll s.heap (frs X.stack)) X.outer ea cls (.ref t) h2) (sm : h1.UpToSlots h2) :
    Fly X.prog X.w X.outer X.H₀ X.s₀ ea cls H (hideAll s.heap (frs X.stack)) { s with heap := h2 } := by
  have u0 := I.un0 R.ex
  have fn := I.frame_new R
  have st : ∀ b o, s.heap.get? b = some o → b ∉ frs X.stack → h2.get? b = some o := fun b o e n => f.1 b o (hideAll_get _ e n)
  have nst : ∀ b o, X.s₀.heap.get? b = some o → b ∉ frs X.outer → b ∉ frs X.stack := fun b o e n z => fn b z n o e
  have trn : ∀ b u, H b = some u → b ∉ frs X.stack := fun b u e z => by rw [I.stkFree b z] at e; cases e
  refine ⟨⟨t, f⟩, I.os, I.bare, ⟨fun b o e n hb _ => ?_, fun b o e n hb _ => ?_, fun b o e n _ => u0.free b o e n (by simp), fun b o e _ => ?_, u0.tups, u0.frzs, u0.tbls⟩, fun a o e => ?_, fun b o0 e hb o e2 => ?_, fun b u e o e2 => ?_⟩
  · exact st b o (u0.keep b o e n hb (by simp)) (nst b o e hb)
  · obtain ⟨sl, e1⟩ := u0.slot b o e n hb (by simp)
    have e2 := hx.keeps _ _ e1
    obtain ⟨_, o3, e3, n3⟩ := I.stack.mem (frs_sub R b hb)
    rw [e1] at e3
    cases e3
    obtain ⟨sl3, e4⟩ := sm b _ e2 n3
    exact ⟨sl3, e4⟩
  · obtain ⟨o1, e1⟩ := u0.there b o e (by simp)
    by_cases hb : b ∈ frs X.stack
    · obtain ⟨_, o3, e3, n3⟩ := I.stack.mem hb
      rw [e1] at e3
      cases e3
      obtain ⟨sl, e4⟩ := sm b _ (hx.keeps _ _ e1) n3
      exact ⟨_, e4⟩
    · exact ⟨o1, st b o1 e1 hb⟩
  · exact (I.hok a o e).stay (fun b u hb q => st b u q (by
      rcases hb with rfl | hb
      · exact trn _ _ e
      · exact trn _ _ hb)) (fun _ q => q) fun _ _ q => q
  · obtain ⟨o1, e1⟩ := u0.there b o0 e (by simp)
    have n := nst b o0 e hb
    have e2 : h2.get? b = some o := e2
    rw [st b o1 e1 n] at e2
    cases e2
    exact hideAll_get _ e1 n
  · obtain ⟨o1, e1⟩ := (I.hok b u e).has
    have n := trn b u e
    have e2 : h2.get? b = some o := e2
    rw [st b o1 e1 n] at e2
    cases e2
    exact hideAll_get _ e1 n
theorem ps_raise {x : Str} {C : Addr} {np cpos pos : Pos} {e : Expr} {es : List Expr} {t : TA} (R : RTo X E) (hg : Gl X x) (c : ExcC X x C) (ha : PA X (e :: es) t)
    (hdb : (x == ("__debug__" : Str)) = false := by decide)
    (he : starEach (e :: es) X.env = (false, eval e X.env) :: starEach es X.env := by rfl) (hpl : (backTo cpos (starEach es X.env)).any (·.1) = false := by rfl) :
    PS X (.Raise (some (.Call (.Name x np) (e :: es) [] cpos)) none pos) (fun _ σ H => t σ H fun vs H1 => vs.length ≤ sizeLine ∧ E (.ref C) none H1) := by
  intro pins s σ H D I h
  obtain ⟨tl, N, nm, q, bs, hdct, sn, sub, ab, col, dd, k0, k1, k2, k3, k5, mN, hC, hN, hni, T⟩ := (own_cls I.ok.mod.kin c.m c.k).obj
  refine wpAny_Raise_call_subT (C := C) (nm := nm) (q := q) (N := N) (bs := bs) (bm := tl) (hdct := hdct) (sn := sn) (sub := sub) (ab := ab) (col := col) (dd := dd) (k0 := k0) (k1 := k1) (k2 := k2) (k3 := k3) (k5 := k5) PySem.F.excBase_ValueError (mN := mN)
    (T.hasType PySem.F.excBase_ValueError.hasBase) (I.ok.hd R.calm) (by rw [he]; show (false || (backTo cpos (starEach es X.env)).any (·.1)) = false; rw [hpl]; rfl) hni ?_
  refine thn (pe_gref (pos := np) hg c.m hdb pins s σ H (fun v H1 => v = .ref C ∧ H1 = H) I ⟨rfl, rfl⟩) fun u s1 h1 => ?_
  obtain ⟨v, H1, I1, rv, rfl, rfl⟩ := h1
  cases rv
  refine ⟨rfl, ?_⟩
  have g := ha cpos pins s1 σ H1 _ I1 h
  rw [he] at g ⊢
  refine Calls.evalArgs_plain (thn g fun vs s2 h2 => ?_)
  obtain ⟨ws, H2, I2, rvs, lw, q2⟩ := h2
  refine ⟨rfl, by rw [← rvs.length]; exact lw, I2.bk _ _ hC, hN.keeps I2.bk, T.keeps I2.bk, fun h' ea hx => R.to _ _ ?_⟩
  have hfr := I2.ok.frames
  rw [R.stk] at hfr
  have hs : ∀ b o, (hideAll s2.heap (frs X.stack)).get? b = some o → s2.heap.get? b = some o := fun b o z => of_hideAll _ z
  have hl2 : s2.heap.FunFrames (hideAll s2.heap (frs X.stack)) (X.env :: X.outer) := by
    rw [← R.stk]
    refine funFrames_hide I2.stack fun env hv a ha => ?_
    exact List.mem_filterMap.mpr ⟨env, hv, ha⟩
  refine wpAny_leaves_madeW hfr R.fr hs hl2 hx fun h'' t f _ _ sm => ?_
  have fl := fly_new (s := s2) I2 R hx f sm
  exact ⟨ea, .ref C, H2, _, rfl, ⟨fl.fly, fl.os, fl.bare, fl.un, fl.hok, fl.old, fl.trk⟩, q2⟩
end
def CalleeX (P : Program) (w : World) (K : PySem.W.Frag) (mg : Str → Option Value) (base : Heap) (k : Nat) (x : Str) (ps : List Str) (sp : Sp) : Prop :=
  ∃ f fd, FnOk P w K mg base (CXx P w) k f fd ps sp ∧ mg x = some (.ref f) ∧ PySem.W.keepIn K (.ref f) = true ∧ Binds K fd ps []
section
variable {P : Program} {w : World} {K : PySem.W.Frag} {mg : Str → Option Value} {base : Heap} {x : Str} {st : Stmt} {N ps : List Str} {k : Nat} {sp sp' : Sp}
theorem CalleeX.mono {j : Nat} (C : CalleeX P w K mg base j x ps sp) (h : j ≤ k) : CalleeX P w K mg base k x ps sp := by
  obtain ⟨f, fd, F, m, kp, b⟩ := C
  exact ⟨f, fd, F.mono h, m, kp, b⟩
theorem CalleeX.imp (C : CalleeX P w K mg base k x ps sp) (h : ∀ vs H Q E, sp' vs H Q E → sp vs H Q E) : CalleeX P w K mg base k x ps sp' := by
  obtain ⟨f, fd, F, m, kp, b⟩ := C
  exact ⟨f, fd, F.imp h, m, kp, b⟩
theorem DefOf.okX (D : DefOf K mg x st ps) (S : FnScope N ps (defScope st)) (len : ∀ vs H Q E, sp vs H Q E → vs.length = ps.length)
    (hbody : ∀ (f : Addr) (cdv : Value) (A : Around) (outer : List Env) (s : Shared) (H : Hp) (vs : List V) (Q : VK) (E : XK), Room k (A.deeper (envOfC x (defScope st) s.heap.objs.size f cdv)) → sp vs H Q E →
      ∃ t, PSs (cxOf (CXx P w) P w K mg base N x (defScope st) f cdv A outer s H E) (defBody st) t ∧ t { nx := fun _ H' => Q .non H', rt := Q } (start N vs) H) : CalleeX P w K mg base (k + 1) x ps sp := by
  obtain ⟨f, fd, F, b, m⟩ := D
  refine ⟨f, fd, ?_, m, F.kp, b⟩
  obtain ⟨oc, od, kV, doc, pm, an, cdv, ct, osl, rfl, lk, hcd⟩ := F.ex
  exact fn_of lk hcd S len fun A outer s H vs Q E hr hsp => hbody f cdv A outer s H vs Q E hr hsp
end
section
variable {X : Cx} {E : XK} {k : Nat} {x : Str} {ps : List Str} {sp : Sp} {p pos : Pos} {e : Expr} {es : List Expr} {t : TA}
theorem pe_callX (R : RTo X E) (C : CalleeX X.prog X.w X.K X.mg X.base k x ps sp) (hr : Room k X.A) (hg : Gl X x) (ha : PA X (e :: es) t) (hdb : (x == ("__debug__" : Str)) = false := by decide)
    (he : starEach (e :: es) X.env = (false, eval e X.env) :: starEach es X.env := by rfl) (hpl : (backTo pos (starEach es X.env)).any (·.1) = false := by rfl) : PE X (.Call (.Name x p) (e :: es) [] pos) (tCall sp [] E t) := by
  obtain ⟨f, fd, F, m, kp, b⟩ := C
  exact pe_call F hr hg m kp b .nil (pass_fly R) ha hdb he hpl
end
section
variable {P : Program} {w : World} {outer : List Env} {H H' : Hp} {s s' : Shared} {ea : Addr} {cls : Value} {B h2 : Heap}
theorem Fly.fresh (F : Fly P w outer H s ea cls H' B s') : ∀ o, s.heap.get? ea ≠ some o := by
  intro o e
  obtain ⟨t, ff⟩ := F.fly
  by_cases hb : ea ∈ frs outer
  · obtain ⟨_, o1, e1, n1⟩ := ff.2.2.1.mem hb
    obtain ⟨oe, vs, e2, _, d, _⟩ := ff.first
    rw [e1] at e2
    cases e2
    exact n1 vs d
  · obtain ⟨o1, e1⟩ := F.un.there ea o e (by simp)
    have := F.old ea o e hb o1 e1
    rw [ff.2.1] at this
    cases this
theorem Fly.step {t : Addr} (F : Fly P w outer H s ea cls H' B s') (hf : Heap.FlyingW B outer ea cls (.ref t) h2) (sm : s'.heap.UpToSlots h2) : Fly P w outer H s ea cls H' B { s' with heap := h2 } :=
  F.on hf sm Un.refl rfl (fun _ h => h) fun b h n => absurd h n
end
def ExcO (cls : Value) (ea : Addr) : HO := .ext fun h => ∃ o, h.get? ea = some o ∧ o.cls = cls
abbrev Cx.suite (X : Cx) (e : Value) : Cx := { X with A := X.A.mark (some e), calm := false, xe := fun _ _ => False }
section
variable {X : Cx} {E : XK} {pins : List (Addr × Obj)} {σ : St} {H H' : Hp} {s s' : Shared}
theorem Inv.suite (I : Inv X pins σ H s) (e : Value) : Inv (X.suite e) pins σ H s :=
  ⟨⟨I.ok.mod, I.ok.kind, I.ok.glob, I.ok.blt, I.ok.above, I.ok.inj, I.ok.has, I.ok.cab, fun z => Bool.noConfusion z, I.ok.frames, I.ok.stk, I.ok.exf, I.ok.bs, I.ok.bsz, I.ok.noex, I.ok.exfs, I.ok.funs, I.ok.frf⟩, I.os, I.bare, I.base, I.loc, I.cell, I.free, I.freeC, I.pin, I.hok, I.len⟩
theorem Inv.unsuite {e : Value} (ok : X.Ok) (I : Inv (X.suite e) pins σ H s) : Inv X pins σ H s := ⟨ok, I.os, I.bare, I.base, I.loc, I.cell, I.free, I.freeC, I.pin, I.hok, I.len⟩
theorem Inv.track2 {a : Addr} {o : HO} (I : Inv X pins σ H s) (f0 : H a = none) (f1 : a ≠ X.env.locals) (f3 : ∀ u, X.s₀.heap.get? a ≠ some u) (f4 : ∀ x c, X.env.cells.lookup x = some c → c ≠ a) (f5 : ∀ p ∈ X.pn ++ pins, p.1 ≠ a)
    (new : ObjOk X.prog X.w (upd H a o) s.heap a o) : Inv X pins σ (upd H a o) s := by
  have hne : ∀ b u, H b = some u → b ≠ a := fun b u e z => by rw [z, f0] at e; cases e
  refine ⟨I.ok, I.os, I.bare, ⟨I.base.keep, I.base.slot, fun b u e n hx => ?_, I.base.there, fun b xs e => ?_, fun b ob u e => ?_, fun b ps e => ?_⟩, I.loc, I.cell, ?_, fun x c e => ?_, fun p hp => ?_, fun b u e => ?_, I.len⟩
  · have z : b ≠ a := fun z => f3 u (by rw [← z]; exact e)
    rw [upd_ne z]
    exact I.base.free b u e n hx
  · have q := I.base.tups b xs e
    rw [upd_ne (hne b _ q)]
    exact q
  · have q := I.base.frzs b ob u e
    rw [upd_ne (hne b _ q)]
    exact q
  · obtain ⟨more, q⟩ := I.base.tbls b ps e
    exact ⟨more, by rw [upd_ne (hne b _ q)]; exact q⟩
  · rw [upd_ne (Ne.symm f1)]
    exact I.free
  · rw [upd_ne (f4 x c e)]
    exact I.freeC x c e
  · obtain ⟨p1, p2, p3⟩ := I.pin p hp
    exact ⟨p1, by rw [upd_ne (f5 p hp)]; exact p2, p3⟩
  · by_cases hb : b = a
    · subst hb
      rw [upd_same] at e
      cases e
      exact new
    · rw [upd_ne hb] at e
      exact (I.hok b u e).stay (fun _ _ _ q => q) (fun c q => by rw [upd_ne (hne c _ q)]; exact q) fun c xs q => by rw [upd_ne (hne c _ q)]; exact q
theorem Inv.caught {ea : Addr} {cls : Value} {B : Heap} (I : Inv X pins σ H s) (hx : X.ex = []) (F : Fly X.prog X.w X.stack H s ea cls H' B s') : Inv X pins σ (upd H' ea (ExcO cls ea)) s' := by
  have I2 : Inv X pins σ H' s' := I.call' F.os F.un F.hok F.bare (ch := []) fun b z => absurd z (by simp)
  have fr := F.fresh
  obtain ⟨t, ff⟩ := F.fly
  obtain ⟨oe, vs, e2, hc, _⟩ := ff.first
  refine I2.track2 F.free (fun z => ?_) (fun u z => ?_) (fun x c e z => ?_) (fun p hp z => ?_) ?_
  · obtain ⟨m, ⟨o, es, ep, ho, _⟩, _⟩ := I.loc
    exact fr o (z ▸ ho)
  · have := I.base.there ea u z (by rw [hx]; simp)
    obtain ⟨o', e⟩ := this
    exact fr o' e
  · obtain ⟨v, q⟩ := I.cell x c e
    obtain ⟨o, e', _⟩ := q
    exact fr o (z ▸ e')
  · exact fr _ (z ▸ (I.pin p hp).1)
  · exact ⟨⟨oe, e2, hc⟩, ⟨oe, e2⟩, fun h1 h2 ⟨o, e, c⟩ k => ⟨o, k o e, c⟩⟩
end
def XP (X : Cx) (pins : List (Addr × Obj)) (R : Value → St → Hp → Prop) (e : Value) (s' : Shared) : Prop :=
  ∃ ea cls σ H s H' B, e = .ref ea ∧ Inv X pins σ H s ∧ Fly X.prog X.w X.stack H s ea cls H' B s' ∧ R cls σ H'
def PEx (X : Cx) (e : Expr) (t : St → Hp → VK → (Value → Hp → Prop) → Prop) : Prop :=
  ∀ (pins : List (Addr × Obj)) (s : Shared) (σ : St) (H : Hp) (Q : VK) (R : Value → Hp → Prop), Inv X pins σ H s → t σ H Q R → wpAny (model X.prog X.w) X.A (eval e X.env) (EP X pins σ Q) (XP X pins fun cls σ' H' => σ' = σ ∧ R cls H') s
def PSx (X : Cx) (st : List Stmt) (t : Ends → (Value → St → Hp → Prop) → St → Hp → Prop) : Prop :=
  ∀ (pins : List (Addr × Obj)) (s : Shared) (σ : St) (H : Hp) (D : Ends) (R : Value → St → Hp → Prop), Inv X pins σ H s → t D R σ H → wpAny (model X.prog X.w) X.A (execs st X.env) (SP X pins D) (XP X pins R) s
theorem XP.imp {X : Cx} {pins : List (Addr × Obj)} {R R' : Value → St → Hp → Prop} (h : ∀ c σ H, R c σ H → R' c σ H) {e : Value} {s : Shared} (x : XP X pins R e s) : XP X pins R' e s := by
  obtain ⟨ea, cls, σ, H, s0, H', B, e1, I, F, q⟩ := x
  exact ⟨ea, cls, σ, H, s0, H', B, e1, I, F, h _ _ _ q⟩
section
variable {X : Cx} {k : Nat} {x : Str} {ps : List Str} {sp : Sp} {p pos : Pos} {e : Expr} {es : List Expr} {t : TA}
theorem pex_call (C : CalleeX X.prog X.w X.K X.mg X.base k x ps sp) (hr : Room k X.A) (hg : Gl X x) (ha : ∀ E, PA (X.wish E) (e :: es) t) (hdb : (x == ("__debug__" : Str)) = false := by decide)
    (he : starEach (e :: es) X.env = (false, eval e X.env) :: starEach es X.env := by rfl) (hpl : (backTo pos (starEach es X.env)).any (·.1) = false := by rfl) :
    PEx X (.Call (.Name x p) (e :: es) [] pos) (fun σ H Q R => t σ H fun vs H1 => sp vs H1 Q fun cls _ H2 => R cls H2) := by
  intro pins s σ H Q R I h
  obtain ⟨f, fd, F, m, kp, b⟩ := C
  refine wpAny_Call_Name_kw (ld_glob I hg m ?_ hdb)
  have g := ha (XP X pins fun cls σ' H' => σ' = σ ∧ R cls H') pos pins s σ H _ (I.wish _) h
  refine PySem.W.callWith_K (h₀ := X.base) I.ok.mod.kin kp (thn g fun us s1 ap => ?_) he hpl
  obtain ⟨vs, H1, I1, r, q⟩ := ap
  have I1 := I1.unwish
  refine ⟨I1.kIn, ?_⟩
  have hl : us.length = ps.length := by rw [← r.length]; exact F.len _ _ _ _ q
  have hb := b s1 us I1.kIn (by rw [List.append_nil]; exact hl)
  rw [List.append_nil] at hb
  refine wpAny_call (codeAny_mono (F.run X.A X.stack s1 H1 ⟨us, []⟩ us vs Q _ hr I1.env0 hb r q) fun z s' hq => ?_)
  cases z with
  | error e =>
    obtain ⟨ea, cls, H', B, rfl, fl, q⟩ := hq
    exact ⟨ea, cls, σ, H1, s1, H', B, rfl, I1, fl, rfl, q⟩
  | ok fl =>
    cases fl with
    | ret u => exact I1.after hq
    | next => exact False.elim hq
    | brk => exact False.elim hq
    | cont => exact False.elim hq
end
section
variable {X : Cx} {x : Str} {e : Expr} {pos pos' : Pos} {te : St → Hp → VK → (Value → Hp → Prop) → Prop}
theorem one_stmt {st : Stmt} {t : Ends → (Value → St → Hp → Prop) → St → Hp → Prop} (h : ∀ (pins : List (Addr × Obj)) (s : Shared) (σ : St) (H : Hp) (D : Ends) (R : Value → St → Hp → Prop), Inv X pins σ H s → t D R σ H → wpAny (model X.prog X.w) X.A (exec st X.env) (SP X pins D) (XP X pins R) s) : PSx X [st] t := by
  intro pins s σ H D R I q
  refine wpAny_execs_cons (thn (h pins s σ H D R I q) fun f s1 q => ?_)
  cases f with
  | next => exact wpAny_execs_nil q
  | ret v => exact q
  | brk => exact q
  | cont => exact q
theorem psx_expr (he : PEx X e te) (hs : swapsWith e none pos.line X.env = pure false := by rfl) : PSx X [.Expr e pos] (fun D R σ H => te σ H (fun _ H1 => D.nx σ H1) fun cls H1 => R cls σ H1) := by
  refine one_stmt fun pins s σ H D R I h => ?_
  exact wpAny_Expr_any (wpAny_mono (he pins s σ H _ _ I h) (fun v s1 ⟨y, H1, I1, r1, q1⟩ => ⟨σ, H1, I1, q1⟩) fun e s1 z => z.imp fun c σ' H' q => q.1 ▸ q.2) I.quiet hs
end
section
variable {X : Cx} {pins : List (Addr × Obj)} {σ : St} {H : Hp} {s : Shared}
theorem gone_ok {M : Model} {A : Around} {E : Value → Shared → Prop} {i : Nat} {n : Str} {pos : Pos} {Q : Unit → Shared → Prop} (I : Inv X pins σ H s) (hN : X.N.Nodup) (hi : X.N[i]? = some n) (hk : X.env.scope.names.lookup n = some .local)
    (h : ∀ s', Inv X pins (σ.set i none) H s' → Q () s') : wpAny M A (do bindName X.env n .none; unbindBehindTheSuite X.env n pos) Q E s := by
  obtain ⟨m, hn, hl⟩ := id I.loc
  have hcls : (X.env.scope.kind == .class || (X.env.scope.kind == .module && X.env.locals != X.env.globals)) = false := by rw [I.ok.kind]; rfl
  refine wpAny_nameGoes_keeps hk hn hcls fun h' v hn' hs => ?_
  obtain ⟨oL, _, _, hoL, _⟩ := id hn
  have old : ∀ b o, X.s₀.heap.get? b = some o → b ≠ X.env.locals := fun b o e => Nat.ne_of_lt (Nat.lt_of_lt_of_le (Heap.lt_size e) I.ok.above)
  refine h _ ⟨I.ok, I.os, I.bare, ⟨fun b o e n hb hx => (hs.2 b (old b o e)).trans (I.base.keep b o e n hb hx), fun b o e n hb hx => ?_, I.base.free, fun b o e hx => ?_, I.base.tups, I.base.frzs, I.base.tbls⟩, ⟨_, hn', fun j y v' e1 e2 e3 => ?_⟩, fun y c e => ?_, I.free, I.freeC, fun p hp => ?_, fun b ob e => ?_, by simpa using I.len⟩
  · obtain ⟨sl, e1⟩ := I.base.slot b o e n hb hx
    exact ⟨sl, (hs.2 b (old b o e)).trans e1⟩
  · obtain ⟨o', e1⟩ := I.base.there b o e hx
    exact ⟨o', (hs.2 b (old b o e)).trans e1⟩
  · by_cases hj : j = i
    · subst hj
      have hiσ : j < σ.length := by rw [I.len]; exact (List.getElem?_eq_some_iff.mp hi).1
      rw [List.getElem?_set_self hiσ] at e2
      cases e2
    · rw [List.getElem?_set_ne (Ne.symm hj)] at e2
      obtain ⟨u', r', q⟩ := hl j y v' e1 e2 e3
      refine ⟨u', r', ?_⟩
      rcases q with ⟨k, e⟩ | ⟨k, c, e, z⟩
      · have : y ≠ n := fun e => hj (nodup_ix hN e1 (e ▸ hi))
        exact .inl ⟨k, by simp [this, e]⟩
      · exact .inr ⟨k, c, e, z.sameBut hs (I.cne y c e)⟩
  · obtain ⟨v', z⟩ := I.cell y c e
    exact ⟨v', z.sameBut hs (I.cne y c e)⟩
  · obtain ⟨p1, p2, p3, p4⟩ := I.pin p hp
    exact ⟨(hs.2 p.1 p3).trans p1, p2, p3, p4⟩
  · refine (I.hok b ob e).stay (fun c w' hc q => (hs.2 c ?_).trans q) (fun _ q => q) fun _ _ q => q
    rintro rfl
    rcases hc with hc | hc
    · rw [← hc, I.free] at e
      cases e
    · rw [I.free] at hc
      cases hc
theorem ps_try {i : Nat} {body suite : List Stmt} {b₀ : Stmt} {x n : Str} {C : Addr} {p hp pos : Pos} {tb : Ends → (Value → St → Hp → Prop) → St → Hp → Prop} {ts : TS} (hfr : X.stack = X.env :: X.outer) (hf : X.env.frame = some X.env.locals) (hx : X.ex = []) (hb : PSx X body tb) (hg : Gl X x) (hm : X.mg x = some (.ref C))
    (hN : X.N.Nodup) (hi : X.N[i]? = some n) (hk : X.env.scope.names.lookup n = some .local) (hs : ∀ e, PSs (X.suite e) (b₀ :: suite) ts) (hdb : (x == ("__debug__" : Str)) = false := by decide) :
    PS X (.Try body [.ExceptHandler (some (.Name x p)) (some n) (b₀ :: suite) hp] [] [] pos) (fun D σ H => tb D (fun cls σ' H' => exmOne X.K cls (.ref C) = some true ∧ ∀ ea, H' ea = none →
      ts { nx := fun σ2 H2 => D.nx (σ2.set i none) H2, rt := D.rt, bk := fun σ2 H2 => D.bk (σ2.set i none) H2, ct := fun σ2 H2 => D.ct (σ2.set i none) H2 } (σ'.set i (some (.ref ea))) (upd H' ea (ExcO cls ea))) σ H) := by
  intro pins s σ H D I h
  refine wpAny_Try_except (wpAny_mono (hb pins s σ H D _ I h) (fun f s1 q => ?_) fun e s1 q => ?_)
  · cases f with
    | next => exact wpAny_execs_nil q
    | ret v => exact q
    | brk => exact q
    | cont => exact q
  obtain ⟨ea, cls, σ', H0, s0, H', B, rfl, I0, F, hmt, hq⟩ := q
  have frames := I0.ok.frames
  rw [hfr] at frames
  obtain ⟨t, ff⟩ := id F.fly
  rw [hfr] at ff
  refine wpAny_looks_onW frames hf ff fun h1 hh sm1 => ?_
  refine wpAny_landsW hh fun h2 f2 sm2 => ?_
  rw [← hfr] at f2
  have F2 := F.step f2 (sm1.trans sm2)
  have I2 := I0.call' F2.os F2.un F2.hok F2.bare (ch := []) fun b z => absurd z (by simp)
  obtain ⟨ob, e2, c2⟩ := f2.there
  refine wpAny_handleBy_cons (codeAny_handlers_test ?_) (by intro q; cases q)
  refine ld_glob (I2.suite (.ref ea)) hg hm ?_ hdb
  have LT : Looks (model X.prog X.w) h2 (typeOf (.ref ea)) cls := by
    rw [← c2]
    exact (Looks.ld e2).andThen .now
  refine (exm_one I2.kIn LT hmt).here ?_
  refine codeAny_handlers_suite_as ?_
  refine lands_againW (l := X.stack) f2 fun h3 f3 sm3 => ?_
  have F3 := F2.step f3 sm3
  have I3 := I0.caught hx F3
  refine store_ok I3 hN hi (.inl hk) (v := .ref ea) rfl (fun s4 I4 => ?_) (.inr hk)
  refine wpAny_mono (hs (.ref ea) pins s4 _ _ _ (I4.suite _) (hq ea F3.free)) (fun f s5 q => ?_) fun _ _ z => False.elim z
  cases f with
  | next =>
    obtain ⟨σ5, H5, I5, q5⟩ := q
    exact gone_ok (I5.unsuite I.ok) hN hi hk fun s6 I6 => ⟨_, _, I6, q5⟩
  | ret u =>
    obtain ⟨v, σ5, H5, I5, r5, q5⟩ := q
    exact gone_ok (I5.unsuite I.ok) hN hi hk fun s6 I6 => ⟨v, _, _, I6, r5, q5⟩
  | brk =>
    obtain ⟨σ5, H5, I5, q5⟩ := q
    exact gone_ok (I5.unsuite I.ok) hN hi hk fun s6 I6 => ⟨_, _, I6, q5⟩
  | cont =>
    obtain ⟨σ5, H5, I5, q5⟩ := q
    exact gone_ok (I5.unsuite I.ok) hN hi hk fun s6 I6 => ⟨_, _, I6, q5⟩
end
end L2
namespace L2
open PySem PySem.Spec PySem.Calls PyProof.Rows PySem.W PySem.Builtin PySem.Builtin.ObjectAttr PySem.Builtin.Getset_descriptor
section
variable {prog : Program} {w : World} {A : Around} {E : Value → Shared → Prop} {s : Shared} {K : Frag} {x C : Addr}
structure ExcAsk (K : Frag) (C : Addr) : Prop where
  ga : findIn K (.ref C) "__getattribute__" = some (some (.builtin "BaseException.__getattribute__"))
  gt : findIn K (.ref C) "__getattr__" = some none
  ca : findIn K (.ref C) "__class__" = some (some (.builtin "object.__class__"))
  gn : specialIn K (.builtin "object.__class__") "__get__" = some (some (.builtin "getset_descriptor.__get__"))
  tk : takesIn K (.builtin "object.__class__") = some true
  mo : mroIn K C (.type "object") = some true
  mb : mroIn K C (.type "BaseException") = some true
  cl : (clsIn K C).isSome = true
theorem exc_class_get {R : Result → Shared → Prop} {tp : Value} (X : K.In s.heap) (a : ExcAsk K C) (L0 : Looks (model prog w) s.heap (typeOf (.ref x)) (.ref C)) (h : R (.ok (.ret (.ref C))) s) :
    codeAny (model prog w) A (.call (.builtin "getset_descriptor.__get__") ⟨[.builtin "object.__class__", .ref x, tp], []⟩) R s := by
  cases s with
  | mk hh g dr t os =>
    have L1 := looks_mroIn (M := model prog w) X a.mo
    refine codeAny_call_builtin KF.slot_gs.plain KF.entry_gs (KF.slot_gs.check _ _ _ _ _ _ _ _ KF.type_class (KF.args_gs _ _ _) ?_)
    unfold Builtin.«getset_descriptor.__get__»
    unfold descrGet
    rw [dga_obj]
    refine wpAny_bind (wpAny_pure ?_)
    unfold descrGetter descrCheckInstance
    unfold descrNameAndClass isInstance
    simp only [KF.owner_class]
    repeat lk
    refine ⟨Code.quiet_builtin _ (by decide +kernel), codeAny_builtin KF.entry_class ?_⟩
    unfold Builtin.«object.__class__»
    unfold shownTypeOf
    repeat lk
    exact h
theorem exc_find {h : Heap} (X : K.In h) (a : ExcAsk K C) : Looks (model prog w) h (find (.ref x) (.ref C) "__class__") (.bind (.builtin "getset_descriptor.__get__") (.builtin "object.__class__")) := by
  have L1 := looks_findIn (M := model prog w) X a.ca
  have L2 : Looks (model prog w) h (getOf (some (.builtin "object.__class__"))) (some (.builtin "getset_descriptor.__get__")) := looks_specialIn X a.gn
  have L3 := looks_takesIn (M := model prog w) X a.tk
  refine L1.andThen (L2.andThen ?_)
  exact (show Looks (model prog w) h (dataDescriptor? (some (.builtin "object.__class__")) (some (.builtin "getset_descriptor.__get__"))) (some (.builtin "getset_descriptor.__get__", .builtin "object.__class__")) from L3.andThen .now).andThen (Looks.tag .now)
theorem exc_check {nameV : Value} {Q : Unit → Shared → Prop} (X : K.In s.heap) (a : ExcAsk K C) (L0 : Looks (model prog w) s.heap (typeOf (.ref x)) (.ref C)) (h : Q () s) :
    wpAny (model prog w) A (checkBuiltinCall "BaseException.__getattribute__" ⟨[.ref x, nameV], []⟩) Q E s := by
  have hk : builtinKind "BaseException.__getattribute__" = some .slot := by decide +kernel
  have hsplit : splitId "BaseException.__getattribute__" = some ("BaseException", "__getattribute__") := by decide +kernel
  have ha := PySem.F.args_bexc_ga (.ref x) nameV
  cases s with
  | mk hh g dr t os =>
    have L1 := looks_mroIn (M := model prog w) X a.mb
    simp only [checkBuiltinCall, hk, hsplit]
    refine wpAny_bind ?_
    unfold isInstance
    refine wpAny_bind (L0.at (L1.at ?_))
    repeat (first | assumption | wp_step)
theorem exc_ga {tk : Tok} {R : Result → Shared → Prop} (X : K.In s.heap) (a : ExcAsk K C) (L0 : Looks (model prog w) s.heap (typeOf (.ref x)) (.ref C)) (h : R (.ok (.ret (.ref C))) s) :
    codeAny (model prog w) A (.call (.builtin "BaseException.__getattribute__") ⟨[.ref x, .str "__class__" tk], []⟩) R s := by
  refine codeAny_call_builtin PySem.F.excAttr_ValueError.ga.plain PySem.F.entry_bexc_ga (exc_check X a L0 ?_)
  cases s with
  | mk hh g dr t os =>
    have L1 := exc_find (prog := prog) (w := w) (x := x) X a
    unfold Builtin.«object.__getattribute__»
    refine wpAny_bind (wpAny_pure ?_)
    lk
    lk
    lk
    refine wpAny_pure (wpAny_bind (L0.at (wpAny_bind (L1.at ?_))))
    show wpAny _ _ (bindTo _ _ (.ref x) (.ref C)) _ _ _
    unfold bindTo
    dsimp only
    refine wpAny_bind (wpAny_call (exc_class_get X a L0 ?_))
    exact wpAny_pure h
theorem exc_attr {Q : Option Value → Shared → Prop} (X : K.In s.heap) (a : ExcAsk K C) (L0 : Looks (model prog w) s.heap (typeOf (.ref x)) (.ref C)) (h : Q (some (.ref C)) { s with toks := s.toks + 1 }) :
    wpAny (model prog w) A (getAttr? (.ref x) "__class__") Q E s := by
  cases s with
  | mk hh g dr t os =>
    have L1 := looks_findIn (M := model prog w) X a.ga
    have L2 := looks_findIn (M := model prog w) X a.gt
    have f3 := PySem.F.excAttr_ValueError.ga.bind (.ref x)
    have hx2 : (Value.builtin "BaseException.__getattribute__" == Value.builtin "object.__getattribute__") = false := by decide +kernel
    unfold getAttr? getAttrBy? getAttrBy
    refine wpAny_bind (wpAny_mkText (wpAny_bind (wpAny_attempt (wpAny_holding (wpAny_bind (L0.at (wpAny_bind (L1.at ?_))))))))
    dsimp only
    rw [hx2, Bool.and_false, if_neg Bool.false_ne_true]
    unfold getAttrByItsOwn
    unfold hookBefore
    refine wpAny_bind (L2.at ?_)
    refine wpAny_bind (wpAny_attempt (wpAny_holding ?_))
    unfold callGetattribute boundAndCalled
    rw [Bool.false_and, if_neg Bool.false_ne_true, f3]
    refine wpAny_bind (wpAny_pure ?_)
    refine wpAny_call (exc_ga (s := ⟨hh, g, dr, t + 1, os⟩) X a L0 ?_)
    exact handed_on rfl (wpAny_pure h)
theorem kitx_exc (a : ExcAsk K C) : KitX K (.ref x) (.ref C) (fun h => ∃ o, h.get? x = some o ∧ o.cls = .ref C) where
  ty := fun _ _ _ ⟨o, e, c⟩ => c ▸ (Looks.ld e).andThen .now
  it := fun _ _ X _ => by
    have hc := a.cl
    unfold clsIn at hc
    split at hc
    · rename_i ho
      intro A' Q' E' s' k q
      unfold isType loadHead
      refine wpAny_bind (wpAny_loadPart (k _ _ (X _ _ ho)) ?_)
      exact wpAny_pure q
    · cases hc
  ne := fun h tp dd its n sl X htp => by
    have hc := a.cl
    refine Bool.eq_false_iff.mpr fun q => ?_
    have e : C = tp := Value.ref.inj (beq_iff_eq.mp q)
    subst e
    unfold clsIn at hc
    split at hc
    · rename_i ho
      have z := (X _ _ ho).symm.trans htp
      cases z
    · cases hc
  ca := fun X ⟨o, e, c⟩ k => exc_attr X a (c ▸ (Looks.ld e).andThen .now) k
end
end L2
namespace L2
open PySem PySem.Spec PyProof.Rows PySem.W
section
variable {X : Cx}
theorem isexc_ok {pins : List (Addr × Obj)} {σ : St} {H : Hp} {s : Shared} {ea C : Addr} {c : Value} {b : Bool} {A : Around} {E : Value → Shared → Prop} {Q : Value → Shared → Prop} (I : Inv X pins σ H s) (h : H ea = some (ExcO (.ref C) ea)) (a : ExcAsk X.K C) (e : kitOne X.K (.ref C) c = some b)
    (q : ∀ tk, Q (.bool b) { s with toks := tk }) : wpAny (model X.prog X.w) A (call (.builtin "isinstance") [.ref ea, c]) Q E s := by
  obtain ⟨p, _, _⟩ := (show ObjOk X.prog X.w H s.heap ea (ExcO (.ref C) ea) from I.hok ea _ h)
  exact kia_one (kitx_exc a) I.kIn p e (fun z => nomatch z) q
theorem call_isexcR : CallR X (.builtin "isinstance") (fun xs H Q => ∃ ea C D b, xs = [.ref ea, .ref D] ∧ H ea = some (ExcO (.ref C) ea) ∧ ExcAsk X.K C ∧ kitOne X.K (.ref C) (.ref D) = some b ∧ Q (.bl b) H) := by
  intro pins s σ H xs us Q I r h
  obtain ⟨ea, C, D, b, rfl, ho, a, e, q⟩ := h
  obtain ⟨u, w', rfl, rx, rt⟩ := vals2 r
  cases rx
  cases rt
  exact isexc_ok I ho a e fun tk => ⟨.bl b, H, I.tok _, rfl, q⟩
theorem call_isexcT : CallR X (.builtin "isinstance") (fun xs H Q => ∃ ea C n b, xs = [.ref ea, .ty n] ∧ H ea = some (ExcO (.ref C) ea) ∧ ExcAsk X.K C ∧ kitOne X.K (.ref C) (.type n) = some b ∧ Q (.bl b) H) := by
  intro pins s σ H xs us Q I r h
  obtain ⟨ea, C, n, b, rfl, ho, a, e, q⟩ := h
  obtain ⟨u, w', rfl, rx, rt⟩ := vals2 r
  cases rx
  cases rt
  exact isexc_ok I ho a e fun tk => ⟨.bl b, H, I.tok _, rfl, q⟩
end
structure FnOkM (P : Program) (w : World) (K : PySem.W.Frag) (mg : Str → Option Value) (base : Heap) (k : Nat) (f : Addr) (fd : FuncData) (ps : List Str) (sp : Sp) : Prop where
  len : ∀ vs H Q E, sp vs H Q E → vs.length = ps.length
  run : ∀ (A : Around) (outer : List Env) (s : Shared) (H : Hp) (args : Args) (us : List Value) (vs : List V) (Q : VK) (ev : Value), Room k A → Env0 P w K mg base A outer s H → BindsTo s fd args (ps.zip us) → Vals vs us → sp vs H Q E0 →
    codeAny (model P w) (A.mark (some ev)) (.call (.ref f) args) (CR CX0 outer P w H s Q E0) s
def CalleeM (P : Program) (w : World) (K : PySem.W.Frag) (mg : Str → Option Value) (base : Heap) (k : Nat) (x : Str) (ps : List Str) (sp : Sp) : Prop :=
  ∃ f fd, FnOkM P w K mg base k f fd ps sp ∧ mg x = some (.ref f) ∧ PySem.W.keepIn K (.ref f) = true ∧ Binds K fd ps []
section
variable {P : Program} {w : World} {K : PySem.W.Frag} {mg : Str → Option Value} {base : Heap} {x : Str} {st : Stmt} {N ps : List Str} {k : Nat} {sp : Sp}
theorem DefOf.okM (D : DefOf K mg x st ps) (S : FnScope N ps (defScope st)) (len : ∀ vs H Q E, sp vs H Q E → vs.length = ps.length)
    (hbody : ∀ (f : Addr) (cdv : Value) (A : Around) (outer : List Env) (s : Shared) (H : Hp) (vs : List V) (Q : VK) (ev : Value), Room k (A.deeper (envOfC x (defScope st) s.heap.objs.size f cdv)) → sp vs H Q E0 →
      ∃ t, PSs ((cxOf CX0 P w K mg base N x (defScope st) f cdv A outer s H E0).suite ev) (defBody st) t ∧ t { nx := fun _ H' => Q .non H', rt := Q } (start N vs) H) : CalleeM P w K mg base (k + 1) x ps sp := by
  obtain ⟨f, fd, F, b, m⟩ := D
  refine ⟨f, fd, ⟨len, fun A outer s H args us vs Q ev hr e0 hb r hsp => ?_⟩, m, F.kp, b⟩
  obtain ⟨oc, od, kV, doc, pm, an, cdv, ct, osl, rfl, lk, hcd⟩ := F.ex
  have hl := len _ _ _ _ hsp
  have kin : K.In s.heap := e0.mod.kin.keeps fun b o e => (e0.bs b o e).1
  have lim : s.heap.NoLimit := e0.mod.nolimit.keeps fun b o e => (e0.bs b o e).1
  have hkind : ∀ y ∈ ps.zip us, (defScope st).names.lookup y.1 = some .local ∨ ((defScope st).names.lookup y.1 = some .cell ∧ ((cellsFrom (s.heap.objs.size + 1) (defScope st).names []).lookup y.1).isSome = true) := fun ⟨n, v⟩ hy => by
    rcases S.par n (List.of_mem_zip hy).1 with q | q
    · exact .inl q
    · exact .inr ⟨q, PySem.W.cellsFrom_some _ _ _ (.inl q)⟩
  have hdp : (A.mark (some ev)).depth < recursionLimit := hr.depth
  refine codeAny_call_function hdp (kin _ _ lk) rfl S.co S.gen rfl (PySem.W.codeRec_of kin hcd) (hb _ _ _ _ ?_)
  refine wpAny_newFunctionEnv_cells S.kind hkind fun env he s1 y => ?_
  subst he
  refine ⟨lim.keeps y.toInCall.keep, codeAny_func ?_⟩
  obtain ⟨t, ht, hq⟩ := hbody f cdv A outer s H vs Q ev (hr.deeper _) hsp
  have I := (inv_start (CX := CX0) (E := E0) S hr.hd e0 hl r y).suite ev
  refine wpAny_mono (ht [] s1 (start N vs) H _ I hq) (fun fl s' hs => ?_) fun e s' hs => False.elim hs
  cases fl with
  | ret u =>
    obtain ⟨v, σ', H', J, rv, q⟩ := hs
    exact ⟨v, H', J.os, J.bare, J.base, J.hok, rv, q⟩
  | next =>
    obtain ⟨σ', H', J, q⟩ := hs
    exact ⟨V.non, H', J.os, J.bare, J.base, J.hok, rfl, q⟩
  | brk =>
    obtain ⟨_, _, _, q⟩ := hs
    exact False.elim q
  | cont =>
    obtain ⟨_, _, _, q⟩ := hs
    exact False.elim q
end
section
variable {X : Cx} {ev : Value} {k : Nat} {x : Str} {ps : List Str} {sp : Sp} {p pos : Pos} {e : Expr} {es : List Expr} {t : TA}
theorem pe_callM (C : CalleeM X.prog X.w X.K X.mg X.base k x ps sp) (hr : Room k X.A) (hg : Gl X x) (ha : PA (X.suite ev) (e :: es) t) (hdb : (x == ("__debug__" : Str)) = false := by decide)
    (he : starEach (e :: es) X.env = (false, eval e X.env) :: starEach es X.env := by rfl) (hpl : (backTo pos (starEach es X.env)).any (·.1) = false := by rfl) : PE (X.suite ev) (.Call (.Name x p) (e :: es) [] pos) (tCall sp [] E0 t) := by
  intro pins s σ H Q I h
  obtain ⟨f, fd, F, m, kp, b⟩ := C
  refine wpAny_Call_Name_kw (ld_glob I hg m ?_ hdb)
  refine PySem.W.callWith_K (h₀ := X.base) I.ok.mod.kin kp (thn (ha pos pins s σ H _ I h) fun us s1 ap => ?_) he hpl
  obtain ⟨vs, H1, I1, r, q⟩ := ap
  refine ⟨I1.kIn, ?_⟩
  rw [List.append_nil] at q
  have hl : us.length = ps.length := by rw [← r.length]; exact F.len _ _ _ _ q
  have hb := b s1 us I1.kIn (by rw [List.append_nil]; exact hl)
  rw [List.append_nil] at hb
  have e1 := I1.env0
  have e0 : Env0 X.prog X.w X.K X.mg X.base X.A X.stack s1 H1 := ⟨e1.frames, e1.mod, e1.bs, e1.bsz, e1.funs, e1.frf, e1.hok, e1.bare⟩
  refine wpAny_call (codeAny_mono (F.run X.A X.stack s1 H1 ⟨us, []⟩ us vs Q ev hr e0 hb r q) fun z s' hq => ?_)
  cases z with
  | error e => exact False.elim hq
  | ok fl =>
    cases fl with
    | ret u => exact I1.after hq
    | next => exact False.elim hq
    | brk => exact False.elim hq
    | cont => exact False.elim hq
end
end L2
namespace L2
open PySem PySem.Spec PyProof.Rows PySem.W
section
variable {X : Cx} {e : Expr} {te : TE}
theorem pe_fstr {c : Str} {k : Nat} {p1 p2 pos : Pos} (he : PE X e te) (hc : (Str.empty ++ c).length ≤ sizeLine := by decide +kernel) :
    PE X (.JoinedStr [.Constant (.str c) k p1, .FormattedValue e 114 none p2] pos) (fun σ H Q => te σ H fun v H1 => ∃ y, v = .str y ∧ (reprText y).length ≤ sizeLine ∧ (Str.empty ++ c ++ reprText y).length ≤ sizeLine ∧ Q (.str (Str.empty ++ c ++ reprText y)) H1) := by
  intro pins s σ H Q I h
  refine wpAny_JoinedStr ?_
  show wpAny _ _ (eval (.Constant (.str c) k p1) X.env) _ _ _
  refine Calls.Constant_str ⟨c, _, rfl, hc, ?_⟩
  show wpAny _ _ (eval (.FormattedValue e 114 none p2) X.env) _ _ _
  refine wpAny_FormattedValue_repr (thn (he pins _ σ H _ (I.tok _) h) fun u s1 z => ?_)
  obtain ⟨v, H1, I1, rv, y, rfl, z1, z2, q⟩ := z
  obtain ⟨t, rfl⟩ := (show ∃ t, u = Value.str y t from rv)
  refine wpAny_pyReprObj_str ?_ z1
  refine formatField_str (fun t' tk => ?_) z1
  refine ⟨_, _, rfl, z2, z2, ⟨.str (Str.empty ++ c ++ reprText y), H1, ?_, ⟨_, rfl⟩, q⟩⟩
  exact I1.tok _
end
end L2
set_option Elab.async false
set_option linter.all false
set_option maxRecDepth 100000
set_option maxHeartbeats 4000000
namespace L2
open PySem PySem.Spec PyProof.Rows PySem.W
section
variable {X : Cx} {pins : List (Addr × Obj)} {σ : St} {H : Hp} {s : Shared}
inductive DataV (H : Hp) : V → PyData → Prop where
  | non : DataV H .non .none
  | bl (b : Bool) : DataV H (.bl b) (.bool b)
  | int (i : Int) : DataV H (.int i) (.int i)
  | str (x : Str) : DataV H (.str x) (.str x)
  | lst {a : Addr} {xs : List V} {ds : List PyData} (e : H a = some (.lst xs)) (l : xs.length = ds.length) (h : ∀ (i : Nat) (v : V) (d : PyData), xs[i]? = some v → ds[i]? = some d → DataV H v d) : DataV H (.ref a) (.list ds)
  | tup {a : Addr} {xs : List V} {ds : List PyData} (e : H a = some (.tup xs)) (l : xs.length = ds.length) (h : ∀ (i : Nat) (v : V) (d : PyData), xs[i]? = some v → ds[i]? = some d → DataV H v d) : DataV H (.ref a) (.tuple ds)
theorem readsAll_of {h : Heap} : ∀ (us : List Value) (ds : List PyData), us.length = ds.length → (∀ (i : Nat) (u : Value) (d : PyData), us[i]? = some u → ds[i]? = some d → ∃ as, Reads h u d as) → ∃ as, ReadsAll h us ds as
  | [], [], _, _ => ⟨_, .nil⟩
  | [], _ :: _, l, _ => by cases l
  | _ :: _, [], l, _ => by cases l
  | u :: us, d :: ds, l, h => by
    obtain ⟨as, r⟩ := h 0 u d rfl rfl
    obtain ⟨bs, q⟩ := readsAll_of us ds (Nat.succ.inj l) fun i v e h1 h2 => h (i + 1) v e h1 h2
    exact ⟨_, .cons r q⟩
theorem DataV.reads {P : Program} {w : World} {h : Heap} {v : V} {d : PyData} (hok : HOk P w H h) (x : DataV H v d) : ∀ u, RelV v u → ∃ as, Reads h u d as := by
  induction x with
  | non => intro u r; cases r; exact ⟨_, .none⟩
  | bl b => intro u r; cases r; exact ⟨_, .bool b⟩
  | int i => intro u r; obtain ⟨t, rfl⟩ := (show ∃ t, u = Value.int i t from r); exact ⟨_, .int i t⟩
  | str y => intro u r; obtain ⟨t, rfl⟩ := (show ∃ t, u = Value.str y t from r); exact ⟨_, .str y t⟩
  | @lst a xs ds e l hh ih =>
    intro u r
    cases (show u = Value.ref a from r)
    obtain ⟨z, its, n, rv, ho⟩ := (show ObjOk P w H h a (.lst xs) from hok a _ e)
    have hl := rv.length
    obtain ⟨as, ra⟩ := readsAll_of (h := h) its ds (by omega) fun i u d h1 h2 => by
      have hi : i < xs.length := by have := (List.getElem?_eq_some_iff.mp h1).1; omega
      obtain ⟨u', hu', rr⟩ := rv.get (List.getElem?_eq_getElem hi)
      rw [h1] at hu'
      cases hu'
      exact ih i _ d (List.getElem?_eq_getElem hi) h2 _ rr
    exact ⟨_, .list ho rfl rfl (by simpa using ra)⟩
  | @tup a xs ds e l hh ih =>
    intro u r
    cases (show u = Value.ref a from r)
    obtain ⟨z, its, rv, o, ho, hcls, n, hd⟩ := (show ObjOk P w H h a (.tup xs) from hok a _ e)
    have hl := rv.length
    obtain ⟨as, ra⟩ := readsAll_of (h := h) its ds (by omega) fun i u d h1 h2 => by
      have hi : i < xs.length := by have := (List.getElem?_eq_some_iff.mp h1).1; omega
      obtain ⟨u', hu', rr⟩ := rv.get (List.getElem?_eq_getElem hi)
      rw [h1] at hu'
      cases hu'
      exact ih i _ d (List.getElem?_eq_getElem hi) h2 _ rr
    exact ⟨_, .tuple ho hcls hd (by simpa using ra)⟩
def rEqD (neg : Bool) : V → V → Hp → VK → Prop := fun x y H Q => ∃ d e, DataV H x d ∧ DataV H y e ∧ SeqAt.shaped d = true ∧ SeqAt.shaped e = true ∧ SeqAt.noMix d e = true ∧ Q (.bl (if neg then !PySem.Spec.same d e else PySem.Spec.same d e)) H
theorem op_eqD (hu : X.A.units + 64 < cLine) : OpR X (compareOp .Eq) (rEqD false) := by
  intro pins s σ H x y v u Q I rx ry h
  obtain ⟨d, e, h1, h2, z1, z2, z3, q⟩ := h
  obtain ⟨as, r1⟩ := h1.reads I.hok v rx
  obtain ⟨bs, r2⟩ := h2.reads I.hok u ry
  exact eq_dataH_same r1 r2 z1 z2 hu z3 ⟨.bl _, H, I, rfl, q⟩
end
end L2
set_option Elab.async false
set_option linter.all false
set_option maxRecDepth 100000
set_option maxHeartbeats 4000000
namespace L2
open PySem PySem.Spec PyProof.Rows PySem.W
def cVal : Expr → Option V
  | .Constant (.int i) _ _ => some (.int i)
  | .Constant (.str x) _ _ => some (.str x)
  | _ => none
def cVals : List Expr → Option (List V)
  | [] => some []
  | e :: es => match cVal e, cVals es with
    | some v, some vs => some (v :: vs)
    | _, _ => none
section
variable {X : Cx}
theorem pa_consts : ∀ {es : List Expr} {vs : List V}, cVals es = some vs → PA X es (fun _ H Q => Q vs H)
  | [], vs, h => by
    cases h
    exact pa_nil
  | e :: es, vs, h => by
    unfold cVals at h
    cases h1 : cVal e with
    | none => rw [h1] at h; cases h
    | some v =>
      cases h2 : cVals es with
      | none => rw [h1, h2] at h; cases h
      | some vs' =>
        rw [h1, h2] at h
        cases h
        have ih := pa_consts h2
        unfold cVal at h1
        split at h1
        · cases h1
          exact pa_cons (te := tC (.int _)) pe_int ih
        · cases h1
          exact pa_cons (te := tC (.str _)) pe_str ih
        · cases h1
theorem pe_lstC {es : List Expr} {vs : List V} {pos : Pos} (h : cVals es = some vs) (hz : vs.length ≤ sizeLine) : PE X (.List es pos) (fun σ H Q => ∀ p, H p = none → Q (.ref p) (upd H p (.lst vs))) :=
  fun pins s σ H Q I q => pe_lst (pa_consts h) pins s σ H Q I ⟨hz, q⟩
structure QE (X : Cx) (e : Expr) (t : TE) : Prop where
  out : PE X e t
structure QA (X : Cx) (es : List Expr) (t : TA) : Prop where
  out : PA X es t
structure QS (X : Cx) (st : Stmt) (t : TS) : Prop where
  out : PS X st t
structure QSs (X : Cx) (st : List Stmt) (t : TS) : Prop where
  out : PSs X st t
def tConsts (vs : List V) : TE := fun _ H Q => ∀ p, H p = none → Q (.ref p) (upd H p (.lst vs))
theorem qe_lstC {es : List Expr} {vs : List V} {pos : Pos} (h : cVals es = some vs) (hz : vs.length ≤ sizeLine) : QE X (.List es pos) (tConsts vs) := ⟨pe_lstC h hz⟩
theorem qa_nil : QA X [] tNil := ⟨pa_nil⟩
theorem qa_cons {e : Expr} {es : List Expr} {te : TE} {t : TA} (ha : QE X e te) (hr : QA X es t) (hs : starEach (e :: es) X.env = (false, eval e X.env) :: starEach es X.env := by rfl) : QA X (e :: es) (tCons te t) := ⟨pa_cons ha.out hr.out hs⟩
theorem qe_lst {es : List Expr} {t : TA} {pos : Pos} (h : QA X es t) : QE X (.List es pos) (tLst t) := ⟨pe_lst h.out⟩
theorem qe {e : Expr} {t : TE} (h : PE X e t) : QE X e t := ⟨h⟩
theorem qe_ix {a b : Expr} {ta tb : TE} {pos : Pos} {r : R2} (hr : IxR X r) (ha : QE X a ta) (hb : PE X b tb) (hs : PlainIx b) : QE X (.Subscript a b pos) (tOp r ta tb) := ⟨pe_ix hr ha.out hb hs⟩
theorem qs {st : Stmt} {t : TS} (h : PS X st t) : QS X st t := ⟨h⟩
theorem qs_setQ {i : Nat} {x : Str} {e : Expr} {te : TE} {pos pos' : Pos} (hN : X.N.Nodup) (hi : X.N[i]? = some x) (hx : Loc X.env.scope x) (he : QE X e te) (hs : swapsWith e (some (.Name x pos')) pos.line X.env = pure false := by rfl)
    (hf : X.fn x = true ∨ X.env.scope.names.lookup x = some .local := by first | exact .inl rfl | exact .inr rfl | assumption) : QS X (.Assign [.Name x pos'] e pos) (tAsg te (gName i)) := ⟨ps_set hN hi hx he.out hs hf⟩
theorem qs_if {c : Expr} {a b : List Stmt} {tc : TT} {t u : TS} {pos : Pos} (hc : PT X c tc) (ha : QSs X a t) (hb : QSs X b u) : QS X (.If c a b pos) (tIfS tc t u) := ⟨ps_if hc ha.out hb.out⟩
theorem QS.imp {st : Stmt} {t t' : TS} (h : QS X st t) (i : ∀ D σ H, t' D σ H → t D σ H) : QS X st t' := ⟨PS.imp h.out i⟩
theorem qss_nil : QSs X [] tNext := ⟨pss_nil⟩
theorem qss_one {st : Stmt} {t : TS} (h : QS X st t) : QSs X [st] t := ⟨pss_one h.out⟩
theorem qss_cons {st : Stmt} {rest : List Stmt} {t u : TS} (h : QS X st t) (hr : QSs X rest u) : QSs X (st :: rest) (tSeq t u) := ⟨pss_cons h.out hr.out⟩
theorem QSs.ex {st : List Stmt} {t : TS} {D : Ends} {σ : St} {H : Hp} (h : QSs X st t) (q : t D σ H) : ∃ t, PSs X st t ∧ t D σ H := ⟨t, h.out, q⟩
end
end L2
set_option Elab.async false
set_option linter.all false
set_option maxRecDepth 100000
set_option maxHeartbeats 4000000
namespace L2
open PySem PySem.Spec PyProof.Rows PySem.W
def Itx (x : PySem.Str) : It := ⟨fun i _ => i < x.cps.size, fun i H v H' => H' = H ∧ ∃ c, x.cps[i]? = some c ∧ v = .str ⟨#[c]⟩, fun i _ => i = x.cps.size⟩
theorem turn_str {P : Program} {w : World} {K : PySem.W.Frag} {tg : Expr} {it : Addr} {x : PySem.Str} {t : Tok} {ty : String} (hne : ["enumerate", "zip", "dict_itemiterator", "dict_reverseitemiterator", "odict_iterator", "itertools.zip_longest", "itertools.pairwise"].contains ty = false)
    (hW : ∀ A : Around, A.handled = none → Walks P w A it [it] [it] x.cps.size (SignAt x) (fun i h => h.IsStrIter it ty x t i))
    (hS : ∀ (A : Around) (i : Nat) (s : Shared) (Q : Value → Shared → Prop) (E : Value → Shared → Prop), s.heap.IsStrIter it ty x t i → Q (.ref it) s → wpAny (model P w) A (pyIter (.ref it)) Q E s) :
    Turn P w K tg (Itx x) [it] it (fun i h => h.IsStrIter it ty x t i) where
  mem := by simp
  obj := fun i h st b hb => by
    obtain rfl : b = it := List.mem_singleton.mp hb
    obtain ⟨o, e, c, d⟩ := st
    exact ⟨o, e, fun v z => by rw [d] at z; cases z⟩
  keep := fun i h h' st k => by
    obtain ⟨o, e, r⟩ := st
    exact ⟨o, k it (List.mem_singleton.mpr rfl) o e, r⟩
  item := by
    intro X hP hw hK hc i pins s σ H E I hf st hg
    subst hP hw hK
    obtain ⟨f0, f1, f2, f3, f4, f5⟩ := hf it (List.mem_singleton.mpr rfl)
    refine (hW X.A (I.ok.hd hc)).item i s _ _ hg st fun v h' tk hv st' kk => ?_
    obtain ⟨c, u, hx, rfl⟩ := hv
    have I1 : Inv X pins σ H { s with heap := h', toks := tk } := I.turned (fun b o hb e => kk b o (by simpa using hb) e) f0 f1 f3 f4 f5
    obtain ⟨o, e, cl, d⟩ := id st'
    exact ⟨_, rfl, go_of (s := { s with heap := h', toks := tk }) e cl d hne ⟨.str ⟨#[c]⟩, H, I1, ⟨u, rfl⟩, ⟨rfl, c, hx, rfl⟩, st', fun b hb => (hf b hb).1⟩⟩
  done := by
    intro X hP hw hK hc i pins s σ H E I hf st hg
    subst hP hw hK
    obtain ⟨f0, f1, f2, f3, f4, f5⟩ := hf it (List.mem_singleton.mpr rfl)
    have hg' : i = x.cps.size := hg
    subst hg'
    exact (hW X.A (I.ok.hd hc)).done s _ _ st fun h' tk kk => ⟨rfl, I.turned (fun b o hb e => kk b o (by simpa using hb) e) f0 f1 f3 f4 f5⟩
  self := fun A i s Q E st h => hS A i s Q E st h
section
variable {X : Cx} {tg : Expr}
def iStr (tl : TE) : TI := fun σ H R => tl σ H fun x H1 => ∃ y, x = .str y ∧ R (Itx y) H1
theorem pi_str {l : Expr} {tl : TE} (hl : PE X l tl) : PI X tg l (iStr tl) := by
  intro pins s σ H R I h
  refine thn (hl pins s σ H _ I h) fun v s1 ⟨x, H1, I1, r1, q1⟩ => ?_
  obtain ⟨y, rfl, q⟩ := q1
  obtain ⟨t, rfl⟩ := r1
  have hfp : ∀ b ∈ [s1.heap.objs.size], FpOk X pins H1 b := fun b hb => by
    obtain rfl : b = s1.heap.objs.size := List.mem_singleton.mp hb
    exact I1.fpOk (Nat.le_refl _) (I1.hok.fresh (Nat.le_refl _))
  cases ha : y.cps.all (· < 128) with
  | false =>
    refine wpAny_pyIter_wide ha ?_
    exact ⟨s1.heap.objs.size, [s1.heap.objs.size], _, _, H1, rfl, I1.kept (t' := s1.toks) fun b o e => Heap.get?_push_of_some _ e,
      turn_str (t := t) (ty := "str_iterator") (by decide) (fun A hA => Walks.strWide hA _ y t) (fun A i s Q E st h => wpAny_pyIter_striter_wide st h), ⟨_, Heap.get?_push_size _ rfl, rfl, rfl⟩, hfp, q⟩
  | true =>
    refine wpAny_pyIter_ascii ha ?_
    exact ⟨s1.heap.objs.size, [s1.heap.objs.size], _, _, H1, rfl, I1.kept (t' := s1.toks) fun b o e => Heap.get?_push_of_some _ e,
      turn_str (t := t) (ty := "str_ascii_iterator") (by decide) (fun A hA => Walks.strAscii hA _ y t) (fun A i s Q E st h => wpAny_pyIter_striter_ascii st h), ⟨_, Heap.get?_push_size _ rfl, rfl, rfl⟩, hfp, q⟩
end
section
variable {own : Nat} {g : TG} {tt : TT} {te : TE} {σ : St} {H : Hp} {Q : List V → Hp → Prop}
theorem comp_str {x : PySem.Str} (Pv : Nat → List V → Hp → Prop) (h0 : Pv 0 [] H) (hz : x.cps.size ≤ sizeLine) (hb : ∀ i xs H, Pv i xs H → xs.length ≤ i)
    (hs : ∀ i c xs H, x.cps[i]? = some c → Pv i xs H → cTurn own g tt te σ (.str ⟨#[c]⟩) H xs (Pv (i + 1))) (hd : ∀ xs H, Pv x.cps.size xs H → Q xs H) : ∃ W : Nat → Nat → List V → Hp → Prop, (∃ m, W 0 m [] H) ∧ tCompW (Itx x) own g tt te σ Q W := by
  refine ⟨fun i m xs H => m = x.cps.size - i ∧ i ≤ x.cps.size ∧ Pv i xs H, ⟨x.cps.size, by simp, Nat.zero_le _, h0⟩, ?_⟩
  rintro i m xs H ⟨rfl, hi, p⟩
  have hxs := hb i xs H p
  by_cases hlt : i < x.cps.size
  · refine .inr ⟨hlt, by omega, Pv (i + 1), fun ys' H' p' => ⟨x.cps.size - (i + 1), by omega, rfl, hlt, p'⟩, fun v H' y => ?_⟩
    obtain ⟨e, c, hc, y⟩ := y
    subst e y
    exact hs i c xs _ hc p
  · have e : i = x.cps.size := by omega
    subst e
    exact .inl ⟨rfl, hd xs H p⟩
end
theorem strVals : ∀ {ts : List PySem.Str} {us : List Value}, Vals (ts.map V.str) us → ∃ l : List (PySem.Str × Tok), us = strValues l ∧ l.map (·.1) = ts
  | [], _, .nil => ⟨[], rfl, rfl⟩
  | x :: ts, _, .cons r rs => by
    obtain ⟨t, rfl⟩ := r
    obtain ⟨l, e1, e2⟩ := strVals (ts := ts) rs
    exact ⟨(x, t) :: l, by rw [e1]; rfl, by rw [← e2]; rfl⟩
theorem valsStr : ∀ (l : List (PySem.Str × Tok)), Vals ((l.map (·.1)).map V.str) (strValues l)
  | [] => .nil
  | (x, t) :: l => .cons ⟨t, rfl⟩ (valsStr l)
section
variable {X : Cx}
def rJoin (K : PySem.W.Frag) : V → List V → Hp → VK → Prop := fun x vs H Q => ∃ (sep : PySem.Str) (l : Addr) (ts : List PySem.Str), x = .str sep ∧ vs = [.ref l] ∧ SqL K H l (ts.map V.str) ∧ JoinOk sep ts = true ∧ Q (.str (Txt.join sep ts)) H
theorem mt_join {K : PySem.W.Frag} (hK : X.K = K) : MtR X "str.join" (rJoin K) := by
  subst hK
  intro pins s σ H x vs v us Q I rx rv h
  obtain ⟨sep, l, ts, rfl, rfl, hq, ok, q⟩ := h
  obtain ⟨t, rfl⟩ := (show ∃ t, v = Value.str sep t from rx)
  obtain ⟨u, rfl, ru⟩ := vals1 rv
  cases ru
  obtain ⟨its, rv', pl, hz⟩ := I.list hq
  obtain ⟨ps, rfl, e2⟩ := strVals rv'
  exact SC.join pl.isList e2 ok fun t' k => ⟨.str (Txt.join sep ts), H, I.tok _, ⟨t', rfl⟩, q⟩
def rStarts : V → List V → Hp → VK → Prop := fun x vs H Q => ∃ y z : PySem.Str, x = .str y ∧ vs = [.str z] ∧ Q (.bl (Txt.startswith y z)) H
theorem mt_starts : MtR X "str.startswith" rStarts := by
  intro pins s σ H x vs v us Q I rx rv h
  obtain ⟨y, z, rfl, rfl, q⟩ := h
  obtain ⟨t, rfl⟩ := (show ∃ t, v = Value.str y t from rx)
  obtain ⟨u, rfl, ru⟩ := vals1 rv
  obtain ⟨t', rfl⟩ := (show ∃ t, u = Value.str z t from ru)
  exact SC.startswith ⟨.bl _, H, I, rfl, q⟩
theorem call_intT : CallR X (.type "int") (fun xs H Q => ∃ (x : PySem.Str) (n : Int), xs = [.str x] ∧ PySem.intText? x = some n ∧ x.length ≤ 640 ∧ Q (.int n) H) := by
  intro pins s σ H xs us Q I r h
  obtain ⟨x, n, rfl, hn, hl, q⟩ := h
  obtain ⟨u, rfl, t, rfl⟩ := vals1 r
  exact KIN.call_text hn hl ⟨.int n, H, I.tok _, ⟨_, rfl⟩, q⟩
theorem join_many {sep : PySem.Str} (hs : sep.length = 1) : ∀ ts : List PySem.Str, ts.length ≤ (PySem.Str.join sep ts).length + 1
  | [] => Nat.zero_le _
  | [x] => by show 1 ≤ _; omega
  | x :: y :: r => by
    have ih := join_many hs (y :: r)
    rw [PyProof.Rows.join_cons_cons, PySem.Str.length_append, PySem.Str.length_append]
    simp only [List.length_cons] at ih ⊢
    omega
theorem split_few (x : PySem.Str) {y : PySem.Str} (hy : y.length = 1) : (Txt.split x y).length ≤ x.length + 1 := by
  have := join_many hy (Txt.split x y)
  rw [StrLaws.join_split] at this
  exact this
theorem split_len (x y : PySem.Str) : ∀ t ∈ Txt.split x y, t.length ≤ x.length := fun t ht => by
  have := join_mem_le y (Txt.split x y) t ht
  rw [StrLaws.join_split] at this
  exact this
def rSplit : V → List V → Hp → VK → Prop := fun x vs H Q => ∃ y z : PySem.Str, x = .str y ∧ vs = [.str z] ∧ z.length = 1 ∧ y.length ≤ 10000 ∧ ∀ l, H l = none → Q (.ref l) (upd H l (.lst ((Txt.split y z).map V.str)))
theorem mt_split : MtR X "str.split" rSplit := by
  intro pins s σ H x vs v us Q I rx rv h
  obtain ⟨y, z, rfl, rfl, hz, hy, q⟩ := h
  obtain ⟨t, rfl⟩ := (show ∃ t, v = Value.str y t from rx)
  obtain ⟨u, rfl, ru⟩ := vals1 rv
  obtain ⟨t', rfl⟩ := (show ∃ t, u = Value.str z t from ru)
  have few := split_few y hz
  have big : (10001 : Nat) ≤ sizeLine := by decide
  have hz0 : (z.length == 0) = false := by rw [hz]; rfl
  have fin : ∀ (l : List (PySem.Str × Tok)) (tk : Nat), l.map (·.1) = Txt.split y z → EP X pins σ Q (.ref s.heap.objs.size) { s with heap := s.heap.push { cls := .type "list", data := .seq (strValues l).toArray }, toks := tk } := fun l tk e => by
    refine ⟨.ref _, _, I.laid (t' := tk) (o := .lst ((Txt.split y z).map V.str)) (fun b o e => Heap.get?_push_of_some _ e) (Nat.le_refl _) ⟨?_, strValues l, 0, ?_, Heap.get?_push_size _ rfl⟩, rfl, q _ (I.hok.fresh (Nat.le_refl _))⟩
    · rw [List.length_map]
      omega
    · rw [← e]
      exact valsStr l
  have key : Txt.split y z = if (decide (y.length < z.length) || decide (Builtin.Str.strKind y < Builtin.Str.strKind z)) = true then [y] else
      if (Builtin.Str.occurrences y z 0 y.length (y.length + 1)).isEmpty = true then [y] else Builtin.Str.partsBetween y (Builtin.Str.occurrences y z 0 y.length (y.length + 1)) z.length := rfl
  cases h1 : (decide (y.length < z.length) || decide (Builtin.Str.strKind y < Builtin.Str.strKind z)) with
  | true =>
    rw [h1, if_pos rfl] at key
    exact call_meets F.slot_str_split (typeIs_str _ _ _) F.entry_str_split (F.args_str_split_2 _ _) (meets_str_split_cannot_occur y z t t' h1) (fin [(y, t)] s.toks key.symm)
  | false =>
    rw [h1, if_neg (by decide)] at key
    cases hf : (Builtin.Str.occurrences y z 0 y.length (y.length + 1)).isEmpty with
    | true =>
      rw [hf, if_pos rfl] at key
      exact call_meets F.slot_str_split (typeIs_str _ _ _) F.entry_str_split (F.args_str_split_2 _ _) (meets_str_split_not_found y z t t' h1 hz0 hf) (fin [(y, t)] s.toks key.symm)
    | false =>
      rw [hf, if_neg (by decide)] at key
      rw [key] at few
      refine call_meets F.slot_str_split (typeIs_str _ _ _) F.entry_str_split (F.args_str_split_2 _ _) (meets_str_split_sep y z t t' h1 hz0 hf (by omega) (by omega)) ?_
      have e := strsFrom_eq s.toks (Builtin.Str.partsBetween y (Builtin.Str.occurrences y z 0 y.length (y.length + 1)) z.length)
      simp only [e]
      exact fin (numbered s.toks _) _ ((numbered_texts _ _).trans key.symm)
theorem pe_gstr {x y : PySem.Str} {t : Tok} {pos : Pos} (hg : Gl X x) (hm : X.mg x = some (.str y t)) (hd : (x == ("__debug__" : PySem.Str)) = false := by decide) : PE X (.Name x pos) (tC (.str y)) := pe_glob (v := .str y) hg hm ⟨t, rfl⟩ hd
end
end L2
set_option Elab.async false
set_option linter.all false
set_option maxRecDepth 100000
set_option maxHeartbeats 4000000
namespace Tx
open PySem PyProof.Rows
abbrev FIG : PySem.Str := "0123456789"
abbrev BL : PySem.Str := " "
theorem fig_list : FIG.cps.toList = [48, 49, 50, 51, 52, 53, 54, 55, 56, 57] := by decide +kernel
theorem zero_list : ("0" : PySem.Str).cps.toList = [48] := by decide +kernel
theorem zero_len : ("0" : PySem.Str).length = 1 := by decide +kernel
theorem nil_list : ("" : PySem.Str).cps.toList = [] := by decide +kernel
theorem bl_len : BL.length = 1 := by decide +kernel
def isFig (c : Nat) : Bool := decide (c ∈ FIG.cps.toList)
theorem isFig_iff {c : Nat} : isFig c = true ↔ 48 ≤ c ∧ c ≤ 57 := by
  unfold isFig
  rw [decide_eq_true_eq, fig_list]
  simp only [List.mem_cons, List.not_mem_nil, or_false]
  omega
theorem fig_in (c : Nat) : (!(Builtin.Str.occurrences FIG ⟨#[c]⟩ 0 FIG.length 1).isEmpty) = isFig c := StrLaws.found_one FIG c
theorem str_eq {a b : PySem.Str} : a = b ↔ a.cps.toList = b.cps.toList := ⟨fun e => by rw [e], fun e => PySem.Str.ext' (Array.toList_inj.mp e)⟩
theorem eq_nil {w : PySem.Str} : w = ("" : PySem.Str) ↔ w.cps.toList = [] := by rw [str_eq, nil_list]
theorem starts0 {w : PySem.Str} {c : Nat} {r : List Nat} (h : w.cps.toList = c :: r) : Txt.startswith w "0" = decide (c = 48) := by
  have hl : w.length = r.length + 1 := by
    show w.cps.size = _
    rw [← Array.length_toList, h]
    rfl
  unfold Txt.startswith
  rw [StrLaws.subAt_eq, h, zero_len, zero_list, hl, decide_eq_true (by omega)]
  simp
  rw [Bool.eq_iff_iff, beq_iff_eq, decide_eq_true_eq]
def isNum (w : PySem.Str) : Bool := !decide (w = ("" : PySem.Str)) && (w.cps.toList.all isFig && (decide (w = ("0" : PySem.Str)) || !Txt.startswith w "0"))
def val (w : PySem.Str) : Int := ((NumText.digitsVal w.cps.toList : Nat) : Int)
def wordsT (t : PySem.Str) : List PySem.Str := if t = ("" : PySem.Str) then [] else Txt.split t BL
def valsT (t : PySem.Str) : List Int := (wordsT t).map val
def readT (t : PySem.Str) : Option (List Int) := if ((wordsT t).all isNum && Sl.isRow (valsT t)) = true then some (valsT t) else none
theorem words_len {t : PySem.Str} : ∀ w ∈ wordsT t, w.length ≤ t.length := fun w hw => by
  unfold wordsT at hw
  split at hw
  · cases hw
  · exact L2.split_len t BL w hw
theorem words_few (t : PySem.Str) : (wordsT t).length ≤ t.length + 1 := by
  unfold wordsT
  split
  · exact Nat.zero_le _
  · exact L2.split_few t bl_len
theorem isNum_split {w : PySem.Str} (h : isNum w = true) : ∃ c r, w.cps.toList = c :: r ∧ NumText.AllDigits (c :: r) ∧ (w = ("0" : PySem.Str) ∨ c ≠ 48) := by
  unfold isNum at h
  simp only [Bool.and_eq_true, Bool.not_eq_true', decide_eq_false_iff_not, Bool.or_eq_true, decide_eq_true_eq, List.all_eq_true] at h
  obtain ⟨h1, h2, h3⟩ := h
  cases e : w.cps.toList with
  | nil => exact absurd (eq_nil.mpr e) h1
  | cons c r =>
    refine ⟨c, r, rfl, fun d hd => isFig_iff.mp (h2 d (by rw [e]; exact hd)), ?_⟩
    rcases h3 with z | z
    · exact .inl z
    · rw [starts0 e, decide_eq_false_iff_not] at z
      exact .inr z
theorem isNum_text {w : PySem.Str} (h : isNum w = true) (hl : w.length ≤ 640) : PySem.intText? w = some (val w) := by
  obtain ⟨c, r, e, hd, _⟩ := isNum_split h
  exact intText_digits (by rw [e]; exact hd) (by rw [e]; exact List.cons_ne_nil _ _) (by omega)
theorem none_row {t : PySem.Str} (h : Sl.isRow (valsT t) = false) : readT t = none := by
  unfold readT
  rw [h, Bool.and_false]
  rfl
theorem some_of {t : PySem.Str} (h1 : ∀ w ∈ wordsT t, isNum w = true) (h2 : Sl.isRow (valsT t) = true) : readT t = some (valsT t) := by
  unfold readT
  rw [List.all_eq_true.mpr h1, h2]
  rfl
theorem word_bad {w : PySem.Str} (h : w.cps.toList.all isFig = false) : isNum w = false := by
  unfold isNum
  rw [h]
  simp
theorem word_nil {w : PySem.Str} (h : w = ("" : PySem.Str)) : isNum w = false := by
  unfold isNum
  rw [decide_eq_true h]
  rfl
def numT (n : Int) : PySem.Str := PySem.Str.ofString (toString n)
def textOf (ns : List Int) : PySem.Str := Txt.join BL (ns.map numT)
theorem numT_len {n : Int} (h0 : 0 ≤ n) (h1 : n ≤ 1000000000000) : (numT n).length ≤ 13 := toString_length_le h0 (by decide) (show n < 10 ^ 13 by omega)
theorem sum_le {l : List PySem.Str} {B : Nat} (h : ∀ x ∈ l, x.length ≤ B) : (l.map (·.length)).sum ≤ l.length * B := by
  induction l with
  | nil => simp
  | cons a r ih =>
    have h1 := h a List.mem_cons_self
    have h2 := ih fun x hx => h x (List.mem_cons_of_mem _ hx)
    rw [List.map_cons, List.sum_cons, List.length_cons, Nat.add_mul]
    omega
theorem nums_len {ns : List Int} (h : ∀ n ∈ ns, 0 ≤ n ∧ n ≤ 1000000000000) : ∀ x ∈ ns.map numT, x.length ≤ 13 := fun x hx => by
  obtain ⟨n, hn, rfl⟩ := List.mem_map.mp hx
  exact numT_len (h n hn).1 (h n hn).2
theorem text_ok {ns : List Int} (h : ∀ n ∈ ns, 0 ≤ n ∧ n ≤ 1000000000000) (hl : ns.length ≤ 25) : JoinOk BL (ns.map numT) = true := by
  refine joinOk_of_weight ?_ (by rw [bl_len]; decide)
  have := sum_le (nums_len h)
  rw [List.length_map] at this ⊢
  omega
theorem small_log {n : Int} (h0 : 0 ≤ n) (h1 : n ≤ 1000000000000) : n.natAbs.log2 < 1920 := by
  by_cases hz : n.natAbs = 0
  · rw [hz]
    decide
  · exact Nat.lt_trans ((Nat.log2_lt hz).mpr (show n.natAbs < 2 ^ 40 by omega)) (by decide)
end Tx
set_option Elab.async false
set_option linter.all false
set_option maxRecDepth 100000
set_option maxHeartbeats 4000000
namespace Sp
open PySem L2
def top (i : Nat) : Stmt := PySem.Challenge.pw_sliderings_k14_each_refusal_its_own.main.body.getD i (.Pass ⟨0, 0, 0, 0⟩)
abbrev s_is_row : Stmt := top 12
abbrev s_keeps : Stmt := top 13
abbrev s_breach : Stmt := top 14
abbrev s_in_bounds : Stmt := top 15
abbrev s_rises : Stmt := top 16
abbrev s_check_rule : Stmt := top 17
abbrev s_check_row : Stmt := top 18
abbrev s_found_breach : Stmt := top 19
abbrev s_even_breach : Stmt := top 20
abbrev s_sums_breach : Stmt := top 21
abbrev s_parts_breach : Stmt := top 22
abbrev s_grown : Stmt := top 24
abbrev s_fell : Stmt := top 25
abbrev s_check_kept : Stmt := top 26
abbrev s_least_above : Stmt := top 27
abbrev s_moved : Stmt := top 29
abbrev s_differences : Stmt := top 30
abbrev s_most : Stmt := top 34
abbrev s_shortest : Stmt := top 35
abbrev s_shown : Stmt := top 40
abbrev s_read : Stmt := top 41
abbrev s_is_number : Stmt := top 42
abbrev s__law_cell_at : Stmt := top 44
abbrev s__law_which : Stmt := top 45
abbrev s__law_by_rule : Stmt := top 46
abbrev s__law_no_row : Stmt := top 47
abbrev s__law_broken : Stmt := top 48
abbrev s__law_no_size : Stmt := top 49
abbrev s__law_no_number : Stmt := top 50
abbrev s__law_done : Stmt := top 51
abbrev s_law : Stmt := top 52
section
variable {P : Program} {w : World} {K : PySem.W.Frag} {mg : Str → Option Value} {base : Heap}
def spInB : Sp := fun vs H Q _ => ∃ n, vs = [.int n] ∧ Q (.bl (Sl.inB n)) H
theorem sc_in_bounds : FnScope ["number"] ["number"] (defScope s_in_bounds) := ⟨rfl, rfl, rfl, by decide +kernel, rfl, by decide +kernel, by decide +kernel⟩
theorem ok_in_bounds (D : DefOf K mg "in_bounds" s_in_bounds ["number"]) (g1 : ∃ t, mg "GREATEST" = some (.int 1000000000000 t)) : Callee P w K mg base 1 "in_bounds" ["number"] spInB := by
  obtain ⟨t1, g1⟩ := g1
  refine D.ok sc_in_bounds (fun vs H Q E h => ?_) (fun f cdv A outer s H vs Q E hr h => ?_)
  · obtain ⟨n, rfl, _⟩ := h
    rfl
  obtain ⟨n, rfl, q⟩ := h
  refine ⟨_, pss_one (ps_ret (pe_chain op_le op_le pe_int (pv 0) (pe_gint rfl g1))), ?_⟩
  refine ⟨_, rfl, _, _, rfl, rfl, _, rfl, ?_⟩
  refine ite2 (fun c => ?_) (fun c => ?_)
  · refine ⟨_, _, rfl, rfl, ?_⟩
    have e : Sl.inB n = decide (n ≤ 1000000000000) := by
      unfold Sl.inB
      rw [c, Bool.true_and]
    rw [e] at q
    exact q
  · have e : Sl.inB n = false := by
      unfold Sl.inB
      rw [Bool.eq_false_iff.mpr c, Bool.false_and]
    rw [e] at q
    exact q
def spRises (K : PySem.W.Frag) : Sp := fun vs H Q _ => ∃ a ns, vs = [.ref a] ∧ SqL K H a (vint ns) ∧ ns.length ≤ 1000 ∧ ∀ H', Same H H' → Q (.bl (Sl.rises ns)) H'
theorem sc_rises : FnScope ["numbers"] ["numbers"] (defScope s_rises) := ⟨rfl, rfl, rfl, by decide +kernel, rfl, by decide +kernel, by decide +kernel⟩
theorem zip_get {ns : List Int} {i : Nat} {x y : V} (h1 : (vint ns)[i]? = some x) (h2 : (vint (ns.drop 1))[i]? = some y) : x = .int (ns.getD i 0) ∧ y = .int (ns.getD (i + 1) 0) ∧ i + 1 < ns.length := by
  obtain ⟨a1, a2⟩ := ints_some h1
  obtain ⟨b1, b2⟩ := ints_some h2
  rw [List.length_drop] at b1
  refine ⟨a2, ?_, by omega⟩
  rw [b2, Sl.getD_drop, Nat.add_comm]
def riseB (ns : List Int) (i : Nat) : List Bool := (List.range i).map fun j => decide (ns.getD j 0 < ns.getD (j + 1) 0)
theorem riseB_succ (ns : List Int) (i : Nat) : riseB ns (i + 1) = riseB ns i ++ [decide (ns.getD i 0 < ns.getD (i + 1) 0)] := by
  unfold riseB
  rw [List.range_succ, List.map_append]
  rfl
theorem riseB_all (ns : List Int) : (riseB ns (ns.length - 1)).all id = Sl.rises ns := by
  rw [Bool.eq_iff_iff, Sl.rises_iff, Sl.up_get, List.all_eq_true]
  constructor
  · intro h j hj
    have := h (decide (ns.getD j 0 < ns.getD (j + 1) 0)) (List.mem_map.mpr ⟨j, List.mem_range.mpr (by omega), rfl⟩)
    simpa using this
  · intro h b hb
    obtain ⟨j, hj, rfl⟩ := List.mem_map.mp hb
    have := h j (by have := List.mem_range.mp hj; omega)
    simpa using this
theorem ok_rises (D : DefOf K mg "rises" s_rises ["numbers"]) (m1 : mg "all" = none) (m2 : mg "zip" = none) : Callee P w K mg base 1 "rises" ["numbers"] (spRises K) := by
  refine D.ok sc_rises (fun vs H Q E h => ?_) (fun f cdv A outer s H vs Q E hr h => ?_)
  · obtain ⟨a, ns, rfl, _⟩ := h
    rfl
  obtain ⟨a, ns, rfl, hS, hl, q⟩ := h
  refine ⟨_, pss_one (ps_ret (pe_callB (call_all rfl) rfl m1 PyProof.Rows.boot_all (pa_cons
    (pe_comp (own := ["ahead", "behind"]) (N' := ["numbers"]) (comp_scope (defScope s_rises) ["numbers"] rfl rfl (by decide +kernel)) rfl
      (pi_zip rfl m2 (pa_cons (pv 0) (pa_cons (pe_slice sl_list (pv 0) (po_some pe_int) po_none) pa_nil)))
      (fun _ _ _ _ => pg_pairK (K := K) (i := 0) (j := 1) rfl rfl (pg_own (own := ["ahead", "behind"]) ["numbers"] (by decide +kernel) rfl rfl) (pg_own (own := ["ahead", "behind"]) ["numbers"] (by decide +kernel) rfl rfl))
      (fun _ _ _ _ => pf_nil)
      (fun _ _ _ _ => pe_cmpR op_lt (pv 0) (pv 1) (nomark _))) pa_nil))), ?_⟩
  refine ⟨_, rfl, _, rfl, 1, rfl, a, _, rfl, hS, fun p hp => ?_⟩
  have e1 : cutV (vint ns) (some 1) none = vint (ns.drop 1) := cut_drop ns 1
  rw [e1]
  have s1 : Same H (upd H p (.lst (vint (ns.drop 1)))) := same_upd hp _
  refine ⟨a, p, rfl, ⟨_, s1.seq hS⟩, ⟨_, SqL.of upd_same⟩, ?_⟩
  have hm : min (vint ns).length (vint (ns.drop 1)).length = ns.length - 1 := by
    rw [ints_len, ints_len, List.length_drop]
    omega
  refine comp_zip (ys := vint ns) (zs := vint (ns.drop 1)) (fun i xs H2 => Same (upd H p (.lst (vint (ns.drop 1)))) H2 ∧ xs = (riseB ns i).map V.bl) ⟨Same.refl _, rfl⟩ (ints_small hl)
    (fun i xs H2 z => ?_) (fun i xs H2 _ z => ⟨z.1.seq (s1.seq hS), SqL.of (z.1 _ _ upd_same)⟩) ?_ ?_
  · rw [z.2, List.length_map]
    simp [riseB]
  · rintro i x y xs H2 c h1 h2 ⟨z1, rfl⟩ hc
    obtain ⟨rfl, rfl, hi⟩ := zip_get h1 h2
    refine gPair_of upd_same ?_
    refine ⟨[some _, some _], rfl, rfl, noTest ?_⟩
    refine ⟨_, rfl, _, rfl, _, _, rfl, rfl, z1.trans (same_upd hc _), ?_⟩
    rw [riseB_succ, List.map_append]
    rfl
  · rintro xs H2 ⟨z1, rfl⟩ c hc
    rw [hm]
    refine ⟨c, riseB ns (ns.length - 1), rfl, SqL.of upd_same, ?_⟩
    rw [riseB_all]
    exact q _ (s1.trans (z1.trans (same_upd hc _)))
def spIsRow (K : PySem.W.Frag) : Sp := fun vs H Q _ => ∃ a ns, vs = [.ref a] ∧ SqL K H a (vint ns) ∧ ns.length ≤ 1000 ∧ ∀ H', Same H H' → Q (.bl (Sl.isRow ns)) H'
theorem sc_is_row : FnScope ["some"] ["some"] (defScope s_is_row) := ⟨rfl, rfl, rfl, by decide +kernel, rfl, by decide +kernel, by decide +kernel⟩
theorem all_take {ns : List Int} (f : Int → Bool) : (ns.map f).all id = ns.all f := by
  rw [List.all_map]
  rfl
theorem ok_is_row (D : DefOf K mg "is_row" s_is_row ["some"]) (c1 : Callee P w K mg base 1 "in_bounds" ["number"] spInB) (c2 : Callee P w K mg base 1 "rises" ["numbers"] (spRises K))
    (g1 : ∃ t, mg "MOST_NUMBERS" = some (.int 20 t)) (m1 : mg "len" = none) (m2 : mg "all" = none) : Callee P w K mg base 2 "is_row" ["some"] (spIsRow K) := by
  obtain ⟨t1, g1⟩ := g1
  refine D.ok sc_is_row (fun vs H Q E h => ?_) (fun f cdv A outer s H vs Q E hr h => ?_)
  · obtain ⟨a, ns, rfl, _⟩ := h
    rfl
  obtain ⟨a, ns, rfl, hS, hl, q⟩ := h
  refine ⟨_, pss_one (ps_ret (pe_and (pe_cmpR op_le (pe_callB call_len_seq rfl m1 PySem.boot_len (pa_cons (pv 0) pa_nil)) (pe_gint rfl g1) (nomark _))
    (pe_and (pe_callB (call_all rfl) rfl m2 PyProof.Rows.boot_all (pa_cons
      (pe_comp (own := ["number"]) (N' := ["some"]) (comp_scope (defScope s_is_row) ["some"] rfl rfl (by decide +kernel)) rfl
        (pi_list (pv 0)) (fun _ _ _ _ => pg_own (i := 0) ["some"] (by decide +kernel) rfl rfl) (fun _ _ _ _ => pf_nil)
        (fun _ _ _ _ => pe_callD c1 hr rfl (pa_cons (pv 0) pa_nil))) pa_nil))
      (pe_one (pe_callD c2 hr rfl (pa_cons (pv 0) pa_nil)))))), ?_⟩
  refine ⟨_, rfl, a, _, rfl, .inl hS, _, _, rfl, rfl, _, rfl, ?_⟩
  rw [ints_len]
  refine ite2 (fun c => ?_) (fun c => ?_)
  · have c' : (ns.length : Int) ≤ 20 := of_decide_eq_true c
    refine ⟨_, rfl, a, rfl, ⟨_, hS⟩, ?_⟩
    refine comp_list (ys := vint ns) (fun i xs H2 => Same H H2 ∧ xs = ((ns.take i).map Sl.inB).map V.bl) ⟨Same.refl _, by simp⟩ (ints_small hl)
      (fun i xs H2 z => ?_) (fun i xs H2 _ z => z.1.seq hS) ?_ ?_
    · rw [z.2, List.length_map, List.length_map, List.length_take]
      omega
    · rintro i x xs H2 h1 ⟨z1, rfl⟩
      obtain ⟨hi, rfl⟩ := ints_some h1
      refine ⟨[some _], rfl, rfl, noTest ?_⟩
      refine ⟨_, rfl, _, rfl, z1, ?_⟩
      rw [map_take_succ _ hi, List.map_append]
      rfl
    · rintro xs H2 ⟨z1, rfl⟩ c0 hc
      refine ⟨c0, (ns.take (vint ns).length).map Sl.inB, rfl, SqL.of upd_same, _, rfl, ?_⟩
      rw [ints_len, List.take_length, all_take]
      have s2 : Same H (upd H2 c0 (.lst ((ns.map Sl.inB).map V.bl))) := z1.trans (same_upd hc _)
      refine ite2 (fun d => ?_) (fun d => ?_)
      · refine ⟨_, rfl, a, ns, rfl, s2.seq hS, hl, fun H3 s3 => ?_⟩
        have e : Sl.isRow ns = Sl.rises ns := by
          unfold Sl.isRow
          rw [d, Bool.true_and, decide_eq_true (by omega), Bool.true_and]
        have := q H3 (s2.trans s3)
        rw [e] at this
        exact this
      · have e : Sl.isRow ns = false := by
          unfold Sl.isRow
          rw [Bool.eq_false_iff.mpr d, Bool.false_and, Bool.and_false]
        have := q _ s2
        rw [e] at this
        exact this
  · have c' : ¬ (ns.length : Int) ≤ 20 := of_decide_eq_false (Bool.eq_false_iff.mpr c)
    have e : Sl.isRow ns = false := by
      unfold Sl.isRow
      rw [decide_eq_false (by omega), Bool.false_and]
    have := q H (Same.refl _)
    rw [e] at this
    exact this
end
section
variable {P : Program} {w : World} {K : PySem.W.Frag} {mg : Str → Option Value} {base : Heap}
def rstr : Sl.Rule → Str
  | .even => "even"
  | .sums => "sums"
  | .parts => "parts"
def Told (r : Sl.Rule) (ns : List Int) (H : Hp) (Q : VK) : Prop :=
  (¬ Sl.Brk r ns → ∀ H', Same H H' → Q .non H') ∧ ∀ p t H', Sl.Shows r ns t → Same H H' → H' p = some (.tup (vint t)) → Q (.ref p) H'
def spBr (K : PySem.W.Frag) (r : Sl.Rule) : Sp := fun vs H Q _ => ∃ a ns, vs = [.ref a] ∧ SqL K H a (vint ns) ∧ Sl.Up ns ∧ ns.length ≤ 100 ∧ Told r ns H Q
theorem sc_even_breach : FnScope ["numbers", "place", "middle", "first", "last"] ["numbers"] (defScope s_even_breach) := ⟨rfl, rfl, rfl, by decide +kernel, rfl, by decide +kernel, by decide +kernel⟩
theorem ok_even_breach (D : DefOf K mg "even_breach" s_even_breach ["numbers"]) (m1 : mg "enumerate" = none) : Callee P w K mg base 1 "even_breach" ["numbers"] (spBr K .even) := by
  refine D.ok sc_even_breach (fun vs H Q E h => ?_) (fun f cdv A outer s H vs Q E hr h => ?_)
  · obtain ⟨a, ns, rfl, _⟩ := h
    rfl
  obtain ⟨a, ns, rfl, hS, hu, hl, q0, q1⟩ := h
  refine ⟨_, pss_cons (ps_for PassesOwn.never rfl (pi_enum rfl m1 (pa_cons (pv 0) pa_nil)) (pg_pair (i := 1) (j := 2) rfl (pg_name sc_even_breach.nd rfl (Or.inl rfl)) (pg_name sc_even_breach.nd rfl (Or.inl rfl)))
      (pss_one (ps_for PassesOwn.never rfl (pi_list (pe_slice sl_list (pv 0) po_none (po_some (pv 1)))) (pg_name (i := 3) sc_even_breach.nd rfl (Or.inl rfl))
        (pss_cons (ps_set (i := 4) sc_even_breach.nd rfl (Or.inl rfl) (pe_op op_sub (pe_op op_mul pe_int (pv 2)) (pv 3)))
        (pss_one (ps_if (pt_cmpR op_in_seq (pv 4) (pv 0) (by with_unfolding_all rfl)) (pss_one (ps_ret (pe_tup (pa_cons (pv 3) (pa_cons (pv 2) (pa_cons (pv 4) pa_nil)))))) pss_nil))))))
    (pss_one (ps_ret pe_non)), ?_⟩
  refine ⟨_, rfl, a, rfl, ⟨_, hS⟩, for_enum (xs := vint ns) (fun i σ H2 => ∃ u v x y, σ = [some (.ref a), u, v, x, y] ∧ Same H H2 ∧ ∀ j, j < i → ∀ b ∈ ns.take j, ¬ 2 * ns.getD j 0 - b ∈ ns)
    ⟨_, _, _, _, rfl, Same.refl _, fun j hj => absurd hj (Nat.not_lt_zero _)⟩ (fun i σ H2 _ ⟨_, _, _, _, _, z, _⟩ => z.seq hS) ?_ ?_⟩
  · rintro i x σ H2 p hx ⟨u, v, x', y', rfl, z1, z2⟩ hp
    obtain ⟨hi, rfl⟩ := ints_some hx
    refine gPair_of upd_same ?_
    have s2 : Same H (upd H2 p (.tup [.int i, .int (ns.getD i 0)])) := z1.trans (same_upd hp _)
    refine ⟨_, rfl, _, rfl, i, rfl, a, _, rfl, s2.seq hS, fun c hc => ?_⟩
    rw [cut_take]
    have s3 := s2.trans (same_upd hc (.lst (vint (ns.take i))))
    refine ⟨c, rfl, ⟨_, SqL.of upd_same⟩, for_list (xs := vint (ns.take i)) (fun j σ H3 => ∃ x y, σ = [some (.ref a), some (.int i), some (.int (ns.getD i 0)), x, y] ∧ Same H H3 ∧ H3 c = some (.lst (vint (ns.take i))) ∧ ∀ b ∈ (ns.take i).take j, ¬ 2 * ns.getD i 0 - b ∈ ns)
      ⟨_, _, rfl, s3, upd_same, fun b hb => nomatch hb⟩ (fun j σ H3 _ ⟨_, _, _, _, z, _⟩ => SqL.of z) ?_ ?_⟩
    · rintro j y σ H3 hy ⟨x1, y1, rfl, t1, t2, t3⟩
      obtain ⟨hj, rfl⟩ := ints_some hy
      have hb : (ns.take i).getD j 0 ∈ ns.take i := Sl.mem_getD.mpr ⟨j, hj, rfl⟩
      generalize hbe : (ns.take i).getD j 0 = b at hb
      refine ⟨_, rfl, _, _, rfl, rfl, .inl ⟨by decide, by decide⟩, _, rfl, _, _, rfl, rfl, ?_⟩
      refine ⟨_, rfl, _, rfl, a, _, rfl, .inl (t1.seq hS), rfl, ints_flat _, _, rfl, ?_⟩
      rw [if_neg Bool.false_ne_true, ints_in]
      refine ite2 (fun c1 => ?_) (fun c1 => ?_)
      · refine ⟨_, rfl, _, rfl, _, rfl, (by show 3 ≤ sizeLine; decide), fun d hd => ?_⟩
        exact q1 d [b, ns.getD i 0, 2 * ns.getD i 0 - b] _ (Sl.even_found hu hi hb (of_decide_eq_true c1)) (t1.trans (same_upd hd _)) upd_same
      · refine ⟨_, _, rfl, t1, t2, fun b' hb' => ?_⟩
        obtain ⟨k, hk1, hk2, ek⟩ := Sl.mem_take.mp hb'
        by_cases hkj : k = j
        · rw [← ek, hkj, hbe]
          exact of_decide_eq_false (Bool.eq_false_iff.mpr c1)
        · exact t3 b' (Sl.mem_take.mpr ⟨k, hk1, by omega, ek⟩)
    · rintro σ H3 ⟨x1, y1, rfl, t1, t2, t3⟩
      refine ⟨_, _, _, _, rfl, t1, fun j hj b hb => ?_⟩
      by_cases hji : j = i
      · subst hji
        refine t3 b ?_
        rw [ints_len, List.take_length]
        exact hb
      · exact z2 j (by omega) b hb
  · rintro σ H2 ⟨u, v, x', y', rfl, z1, z2⟩
    exact q0 (Sl.even_none hu fun i hi => z2 i (by rw [ints_len]; exact hi)) H2 z1
theorem sc_parts_breach : FnScope ["numbers", "place", "first", "second", "whole"] ["numbers"] (defScope s_parts_breach) := ⟨rfl, rfl, rfl, by decide +kernel, rfl, by decide +kernel, by decide +kernel⟩
theorem ok_parts_breach (D : DefOf K mg "parts_breach" s_parts_breach ["numbers"]) (m1 : mg "enumerate" = none) : Callee P w K mg base 1 "parts_breach" ["numbers"] (spBr K .parts) := by
  refine D.ok sc_parts_breach (fun vs H Q E h => ?_) (fun f cdv A outer s H vs Q E hr h => ?_)
  · obtain ⟨a, ns, rfl, _⟩ := h
    rfl
  obtain ⟨a, ns, rfl, hS, hu, hl, q0, q1⟩ := h
  refine ⟨_, pss_cons (ps_for PassesOwn.never rfl (pi_enum rfl m1 (pa_cons (pv 0) pa_nil)) (pg_pair (i := 1) (j := 2) rfl (pg_name sc_parts_breach.nd rfl (Or.inl rfl)) (pg_name sc_parts_breach.nd rfl (Or.inl rfl)))
      (pss_one (ps_for PassesOwn.never rfl (pi_list (pe_slice sl_list (pv 0) (po_some (pv 1)) po_none)) (pg_name (i := 3) sc_parts_breach.nd rfl (Or.inl rfl))
        (pss_cons (ps_set (i := 4) sc_parts_breach.nd rfl (Or.inl rfl) (pe_op op_add (pv 2) (pv 3)))
        (pss_one (ps_if (pt_cmpR op_in_seq (pv 4) (pv 0) (by with_unfolding_all rfl)) (pss_one (ps_ret (pe_tup (pa_cons (pv 2) (pa_cons (pv 3) (pa_cons (pv 4) pa_nil)))))) pss_nil))))))
    (pss_one (ps_ret pe_non)), ?_⟩
  refine ⟨_, rfl, a, rfl, ⟨_, hS⟩, for_enum (xs := vint ns) (fun i σ H2 => ∃ u v x y, σ = [some (.ref a), u, v, x, y] ∧ Same H H2 ∧ ∀ j, j < i → ∀ b ∈ ns.drop j, ¬ ns.getD j 0 + b ∈ ns)
    ⟨_, _, _, _, rfl, Same.refl _, fun j hj => absurd hj (Nat.not_lt_zero _)⟩ (fun i σ H2 _ ⟨_, _, _, _, _, z, _⟩ => z.seq hS) ?_ ?_⟩
  · rintro i x σ H2 p hx ⟨u, v, x', y', rfl, z1, z2⟩ hp
    obtain ⟨hi, rfl⟩ := ints_some hx
    refine gPair_of upd_same ?_
    have s2 : Same H (upd H2 p (.tup [.int i, .int (ns.getD i 0)])) := z1.trans (same_upd hp _)
    refine ⟨_, rfl, _, rfl, i, rfl, a, _, rfl, s2.seq hS, fun c hc => ?_⟩
    rw [cut_drop]
    have s3 := s2.trans (same_upd hc (.lst (vint (ns.drop i))))
    refine ⟨c, rfl, ⟨_, SqL.of upd_same⟩, for_list (xs := vint (ns.drop i)) (fun j σ H3 => ∃ x y, σ = [some (.ref a), some (.int i), some (.int (ns.getD i 0)), x, y] ∧ Same H H3 ∧ H3 c = some (.lst (vint (ns.drop i))) ∧ ∀ b ∈ (ns.drop i).take j, ¬ ns.getD i 0 + b ∈ ns)
      ⟨_, _, rfl, s3, upd_same, fun b hb => nomatch hb⟩ (fun j σ H3 _ ⟨_, _, _, _, z, _⟩ => SqL.of z) ?_ ?_⟩
    · rintro j y σ H3 hy ⟨x1, y1, rfl, t1, t2, t3⟩
      obtain ⟨hj, rfl⟩ := ints_some hy
      have hb : (ns.drop i).getD j 0 ∈ ns.drop i := Sl.mem_getD.mpr ⟨j, hj, rfl⟩
      generalize hbe : (ns.drop i).getD j 0 = b at hb
      refine ⟨_, rfl, _, rfl, _, _, rfl, rfl, ?_⟩
      refine ⟨_, rfl, _, rfl, a, _, rfl, .inl (t1.seq hS), rfl, ints_flat _, _, rfl, ?_⟩
      rw [if_neg Bool.false_ne_true, ints_in]
      refine ite2 (fun c1 => ?_) (fun c1 => ?_)
      · refine ⟨_, rfl, _, rfl, _, rfl, (by show 3 ≤ sizeLine; decide), fun d hd => ?_⟩
        exact q1 d [ns.getD i 0, b, ns.getD i 0 + b] _ (Sl.parts_found hu hi hb (of_decide_eq_true c1)) (t1.trans (same_upd hd _)) upd_same
      · refine ⟨_, _, rfl, t1, t2, fun b' hb' => ?_⟩
        obtain ⟨k, hk1, hk2, ek⟩ := Sl.mem_take.mp hb'
        by_cases hkj : k = j
        · rw [← ek, hkj, hbe]
          exact of_decide_eq_false (Bool.eq_false_iff.mpr c1)
        · exact t3 b' (Sl.mem_take.mpr ⟨k, hk1, by omega, ek⟩)
    · rintro σ H3 ⟨x1, y1, rfl, t1, t2, t3⟩
      refine ⟨_, _, _, _, rfl, t1, fun j hj b hb => ?_⟩
      by_cases hji : j = i
      · subst hji
        refine t3 b ?_
        rw [ints_len, List.take_length]
        exact hb
      · exact z2 j (by omega) b hb
  · rintro σ H2 ⟨u, v, x', y', rfl, z1, z2⟩
    exact q0 (Sl.parts_none hu fun i hi => z2 i (by rw [ints_len]; exact hi)) H2 z1
structure Pairs (ns : List Int) (i j : Nat) (H : Hp) (kvs : List (Key × V)) : Prop where
  of : ∀ k v, valV kvs (Sum.inl k : Key) = some v → ∃ a b p, v = .ref p ∧ H p = some (.tup (vint [a, b])) ∧ k = a + b ∧ Sl.Proc ns i j a b
  has : ∀ a b, Sl.Proc ns i j a b → valV kvs (Sum.inl (a + b) : Key) ≠ none
  ap : Sl.Apart ns i j
theorem Pairs.zero (ns : List Int) (H : Hp) : Pairs ns 0 0 H [] := ⟨(fun k v e => nomatch e), (fun a b p => (Sl.Proc.zero p).elim), Sl.Apart.zero⟩
theorem Pairs.keep {ns : List Int} {i j : Nat} {H H' : Hp} {kvs : List (Key × V)} (h : Pairs ns i j H kvs) (k : ∀ p t, H p = some (.tup t) → H' p = some (.tup t)) : Pairs ns i j H' kvs :=
  ⟨fun x v e => let ⟨a, b, p, e1, e2, r⟩ := h.of x v e; ⟨a, b, p, e1, k _ _ e2, r⟩, h.has, h.ap⟩
theorem Pairs.end_ {ns : List Int} {i : Nat} {H : Hp} {kvs : List (Key × V)} (h : Pairs ns i (ns.length - i) H kvs) : Pairs ns (i + 1) 0 H kvs :=
  ⟨fun x v e => let ⟨a, b, p, e1, e2, e3, r⟩ := h.of x v e; ⟨a, b, p, e1, e2, e3, Sl.Proc.end_.mp r⟩, fun a b p => h.has a b (Sl.Proc.end_.mpr p), h.ap.end_⟩
theorem Pairs.put {ns : List Int} {i j : Nat} {H : Hp} {kvs : List (Key × V)} {p : Addr} (hu : Sl.Up ns) (hj : i + j < ns.length) (h : Pairs ns i j H kvs) (hp : H p = some (.tup (vint [ns.getD i 0, ns.getD (i + j) 0])))
    (n : valV kvs (Sum.inl (ns.getD i 0 + ns.getD (i + j) 0) : Key) = none) : Pairs ns i (j + 1) H (putK kvs (Sum.inl (ns.getD i 0 + ns.getD (i + j) 0)) (.ref p)) := by
  refine ⟨fun k v e => ?_, fun a b q => ?_, h.ap.succ hu hj fun a b q e => ?_⟩
  · rw [valV_put] at e
    split at e
    · rename_i ek
      have ek' : k = ns.getD i 0 + ns.getD (i + j) 0 := Sum.inl.inj ek
      exact ⟨_, _, p, (Option.some.inj e).symm, hp, ek', (Sl.Proc.succ hj).mpr (.inr ⟨rfl, rfl⟩)⟩
    · obtain ⟨a, b, c, e1, e2, e3, r⟩ := h.of k v e
      exact ⟨a, b, c, e1, e2, e3, (Sl.Proc.succ hj).mpr (.inl r)⟩
  · rw [valV_put]
    split
    · intro z; cases z
    · rename_i ek
      rcases (Sl.Proc.succ hj).mp q with r | ⟨e1, e2⟩
      · exact h.has a b r
      · exact absurd (by rw [e1, e2]) ek
  · exact h.has a b q (by rw [e]; exact n)
theorem putK_le (kvs : List (Key × V)) (k : Key) (v : V) : (putK kvs k v).length ≤ kvs.length + 1 := by
  unfold putK
  split
  · rw [List.length_map]; omega
  · rw [List.length_append]; exact Nat.le_refl _
theorem sc_sums_breach : FnScope ["numbers", "pairs", "place", "first", "second", "whole"] ["numbers"] (defScope s_sums_breach) := ⟨rfl, rfl, rfl, by decide +kernel, rfl, by decide +kernel, by decide +kernel⟩
theorem ok_sums_breach (D : DefOf K mg "sums_breach" s_sums_breach ["numbers"]) (m1 : mg "enumerate" = none) : Callee P w K mg base 1 "sums_breach" ["numbers"] (spBr K .sums) := by
  refine D.ok sc_sums_breach (fun vs H Q E h => ?_) (fun f cdv A outer s H vs Q E hr h => ?_)
  · obtain ⟨a, ns, rfl, _⟩ := h
    rfl
  obtain ⟨a, ns, rfl, hS, hu, hl, q0, q1⟩ := h
  have hun := hu_of hr
  refine ⟨_, pss_cons (ps_set (i := 1) sc_sums_breach.nd rfl (Or.inl rfl) pe_dnewK)
    (pss_cons (ps_for PassesOwn.never rfl (pi_enum rfl m1 (pa_cons (pv 0) pa_nil)) (pg_pair (i := 2) (j := 3) rfl (pg_name sc_sums_breach.nd rfl (Or.inl rfl)) (pg_name sc_sums_breach.nd rfl (Or.inl rfl)))
      (pss_one (ps_for PassesOwn.never rfl (pi_list (pe_slice sl_list (pv 0) (po_some (pv 2)) po_none)) (pg_name (i := 4) sc_sums_breach.nd rfl (Or.inl rfl))
        (pss_cons (ps_set (i := 5) sc_sums_breach.nd rfl (Or.inl rfl) (pe_op op_add (pv 3) (pv 4)))
        (pss_cons (ps_if (pt_cmp (pc_din hun (pv 5) (pv 1)) (by with_unfolding_all rfl)) (pss_one (ps_ret (pe_op op_catT (pe_dget hun (pv 1) (pv 5) (fun _ _ => rfl)) (pe_tup (pa_cons (pv 3) (pa_cons (pv 4) pa_nil)))))) pss_nil)
        (pss_one (ps_dput hun (pv 1) (pv 5) (pe_tup (pa_cons (pv 3) (pa_cons (pv 4) pa_nil))) rfl)))))))
    (pss_one (ps_ret pe_non))), ?_⟩
  intro d hd
  have s1 : Same H (upd H d (.dK [])) := same_upd hd _
  refine ⟨_, rfl, a, rfl, ⟨_, s1.seq hS⟩, for_enum (xs := vint ns) (fun i σ H2 => ∃ u v x y kvs, σ = [some (.ref a), some (.ref d), u, v, x, y] ∧ Same H H2 ∧ H2 d = some (.dK kvs) ∧ kvs.length ≤ 100 * i ∧ Pairs ns i 0 H2 kvs)
    ⟨_, _, _, _, [], rfl, s1, upd_same, Nat.zero_le _, Pairs.zero _ _⟩ (fun i σ H2 _ ⟨_, _, _, _, _, _, z, _⟩ => z.seq hS) ?_ ?_⟩
  · rintro i x σ H2 p hx ⟨u, v, x', y', kvs, rfl, z1, z2, z3, z4⟩ hp
    obtain ⟨hi, rfl⟩ := ints_some hx
    refine gPair_of upd_same ?_
    have t2 := same_upd hp (.tup [.int i, .int (ns.getD i 0)])
    have s2 := z1.trans t2
    refine ⟨_, rfl, _, rfl, i, rfl, a, _, rfl, s2.seq hS, fun c hc => ?_⟩
    rw [cut_drop]
    have t3 := same_upd hc (.lst (vint (ns.drop i)))
    have cd : c ≠ d := (ne_of_none (t2 _ _ z2) hc).symm
    refine ⟨c, rfl, ⟨_, SqL.of upd_same⟩, for_list (xs := vint (ns.drop i)) (fun j σ H3 => ∃ x y kvs, σ = [some (.ref a), some (.ref d), some (.int i), some (.int (ns.getD i 0)), x, y] ∧ Same H H3 ∧ H3 c = some (.lst (vint (ns.drop i))) ∧ H3 d = some (.dK kvs) ∧ kvs.length ≤ 100 * i + j ∧ Pairs ns i j H3 kvs)
      ⟨_, _, kvs, rfl, s2.trans t3, upd_same, t3 _ _ (t2 _ _ z2), z3, z4.keep fun b t e => t3 _ _ (t2 _ _ e)⟩ (fun j σ H3 _ ⟨_, _, _, _, _, z, _⟩ => SqL.of z) ?_ ?_⟩
    · rintro j y σ H3 hy ⟨x1, y1, kvs, rfl, y2, y3, y4, y5, y6⟩
      obtain ⟨hj, rfl⟩ := ints_some hy
      rw [List.length_drop] at hj
      have hij : i + j < ns.length := by omega
      rw [Sl.getD_drop]
      refine ⟨_, rfl, _, rfl, _, _, rfl, rfl, ?_⟩
      refine ⟨_, rfl, _, rfl, d, _, rfl, DGet.k (k := Sum.inl _) y4, _, rfl, ?_⟩
      cases e : valV kvs (Sum.inl (ns.getD i 0 + ns.getD (i + j) 0) : Key) with
      | some v =>
        refine iteT ?_
        obtain ⟨b1, b2, p1, rfl, e1, e2, pr⟩ := y6.of _ _ e
        refine ⟨_, rfl, _, rfl, d, _, rfl, (by have := DGet.k (k := Sum.inl (ns.getD i 0 + ns.getD (i + j) 0)) y4; rw [e] at this; exact this), ?_⟩
        refine ⟨_, rfl, _, rfl, (by show 2 ≤ sizeLine; decide), fun d2 h2 => ?_⟩
        have t4 := same_upd h2 (.tup (vint [ns.getD i 0, ns.getD (i + j) 0]))
        refine ⟨p1, d2, _, _, rfl, rfl, SqT.of (t4 _ _ e1), SqT.of upd_same, (by simp), (by show 4 ≤ sizeLine; decide), (fun z => nomatch z), fun _ d3 h3 => ?_⟩
        exact q1 d3 [b1, b2, ns.getD i 0, ns.getD (i + j) 0] _ (Sl.sums_found hu hij pr e2) (y2.trans (t4.trans (same_upd h3 _))) upd_same
      | none =>
        refine iteF ?_
        refine ⟨_, rfl, _, rfl, (by show 2 ≤ sizeLine; decide), fun d2 h2 => ?_⟩
        have t4 := same_upd h2 (.tup (vint [ns.getD i 0, ns.getD (i + j) 0]))
        refine ⟨_, rfl, _, rfl, d, _, rfl, DPut.k (k := Sum.inl _) (t4 _ _ y4) (small_of (by omega)), ?_⟩
        have dd2 : d2 ≠ d := (ne_of_none y4 h2).symm
        refine ⟨_, _, putK kvs (Sum.inl (ns.getD i 0 + ns.getD (i + j) 0)) (.ref d2), rfl, (y2.trans t4).upd hd, ?_, upd_same, ?_, ?_⟩
        · rw [upd_ne cd]
          exact t4 _ _ y3
        · have := putK_le kvs (Sum.inl (ns.getD i 0 + ns.getD (i + j) 0)) (.ref d2)
          omega
        · refine (y6.keep (H' := upd (upd H3 d2 (.tup (vint [ns.getD i 0, ns.getD (i + j) 0]))) d _) fun b t eb => ?_).put hu hij (by rw [upd_ne dd2]; exact upd_same) e
          rw [upd_ne (ne_of eb y4 (by intro z; cases z))]
          exact t4 _ _ eb
    · rintro σ H3 ⟨x1, y1, kvs, rfl, y2, y3, y4, y5, y6⟩
      rw [ints_len, List.length_drop] at y5 y6
      exact ⟨_, _, _, _, kvs, rfl, y2, y4, by omega, y6.end_⟩
  · rintro σ H2 ⟨u, v, x', y', kvs, rfl, z1, z2, z3, z4⟩
    rw [ints_len] at z4
    exact q0 (Sl.sums_none hu z4.ap) H2 z1
def spFound (K : PySem.W.Frag) : Sp := fun vs H Q _ => ∃ a ns r, vs = [.ref a, .str (rstr r)] ∧ SqL K H a (vint ns) ∧ Sl.Up ns ∧ ns.length ≤ 100 ∧ Told r ns H Q
theorem sc_found_breach : FnScope ["numbers", "rule"] ["numbers", "rule"] (defScope s_found_breach) := ⟨rfl, rfl, rfl, by decide +kernel, rfl, by decide +kernel, by decide +kernel⟩
theorem ok_found_breach (D : DefOf K mg "found_breach" s_found_breach ["numbers", "rule"]) (c1 : Callee P w K mg base 1 "even_breach" ["numbers"] (spBr K .even)) (c2 : Callee P w K mg base 1 "sums_breach" ["numbers"] (spBr K .sums))
    (c3 : Callee P w K mg base 1 "parts_breach" ["numbers"] (spBr K .parts)) : Callee P w K mg base 2 "found_breach" ["numbers", "rule"] (spFound K) := by
  refine D.ok sc_found_breach (fun vs H Q E h => ?_) (fun f cdv A outer s H vs Q E hr h => ?_)
  · obtain ⟨a, ns, r, rfl, _⟩ := h
    rfl
  obtain ⟨a, ns, r, rfl, hS, hu, hl, q⟩ := h
  refine ⟨_, pss_cons (ps_if (pt_cmpR op_eq (pv 1) pe_str (nomark _)) (pss_one (ps_ret (pe_callD c1 hr rfl (pa_cons (pv 0) pa_nil)))) pss_nil)
    (pss_cons (ps_if (pt_cmpR op_eq (pv 1) pe_str (nomark _)) (pss_one (ps_ret (pe_callD c2 hr rfl (pa_cons (pv 0) pa_nil)))) pss_nil)
    (pss_one (ps_ret (pe_callD c3 hr rfl (pa_cons (pv 0) pa_nil))))), ?_⟩
  refine ⟨_, rfl, rfl, _, rfl, ?_⟩
  cases r with
  | even => exact iteY (by decide +kernel) ⟨_, rfl, a, ns, rfl, hS, hu, hl, q⟩
  | sums => exact iteN (by decide +kernel) ⟨_, rfl, rfl, _, rfl, iteY (by decide +kernel) ⟨_, rfl, a, ns, rfl, hS, hu, hl, q⟩⟩
  | parts => exact iteN (by decide +kernel) ⟨_, rfl, rfl, _, rfl, iteN (by decide +kernel) ⟨_, rfl, a, ns, rfl, hS, hu, hl, q⟩⟩
end
section
variable {P : Program} {w : World} {K : PySem.W.Frag} {mg : Str → Option Value} {base : Heap}
def RulesAt (K : PySem.W.Frag) (mg : Str → Option Value) : Prop := ∃ r, mg "RULES" = some (.ref r) ∧ ∀ H, SqT K H r [.str "even", .str "sums", .str "parts"]
theorem sc_check_rule : FnScope ["rule"] ["rule"] (defScope s_check_rule) := ⟨rfl, rfl, rfl, by decide +kernel, rfl, by decide +kernel, by decide +kernel⟩
end
section
variable {P : Program} {w : World} {K : PySem.W.Frag} {mg : Str → Option Value} {base : Heap}
theorem row_len {ns : List Int} (h : Sl.isRow ns = true) : ns.length ≤ 20 := (Sl.isRow_iff.mp h).1
theorem sc_check_row : FnScope ["row"] ["row"] (defScope s_check_row) := ⟨rfl, rfl, rfl, by decide +kernel, rfl, by decide +kernel, by decide +kernel⟩
end
section
variable {P : Program} {w : World} {K : PySem.W.Frag} {mg : Str → Option Value} {base : Heap}
theorem Told.after {r : Sl.Rule} {ns : List Int} {H H' : Hp} {Q : VK} (h : Told r ns H Q) (s : Same H H') : Told r ns H' Q := ⟨fun n H2 s2 => h.1 n H2 (s.trans s2), fun p t H2 sh s2 e => h.2 p t H2 sh (s.trans s2) e⟩
theorem sc_breach : FnScope ["row", "rule"] ["row", "rule"] (defScope s_breach) := ⟨rfl, rfl, rfl, by decide +kernel, rfl, by decide +kernel, by decide +kernel⟩
end
section
variable {P : Program} {w : World} {K : PySem.W.Frag} {mg : Str → Option Value} {base : Heap}
theorem sc_keeps : FnScope ["row", "rule"] ["row", "rule"] (defScope s_keeps) := ⟨rfl, rfl, rfl, by decide +kernel, rfl, by decide +kernel, by decide +kernel⟩
end
section
variable {P : Program} {w : World} {K : PySem.W.Frag} {mg : Str → Option Value} {base : Heap}
theorem sc_check_kept : FnScope ["row", "rule"] ["row", "rule"] (defScope s_check_kept) := ⟨rfl, rfl, rfl, by decide +kernel, rfl, by decide +kernel, by decide +kernel⟩
theorem kept_of_row {r : Sl.Rule} {ns : List Int} (h : Sl.isRow ns = true) (nb : ¬ Sl.Brk r ns) : Sl.Kept r ns :=
  let ⟨_, h2, h3⟩ := Sl.isRow_iff.mp h
  ⟨h3, fun n hn => (h2 n hn).1, nb⟩
end
section
variable {P : Program} {w : World} {K : PySem.W.Frag} {mg : Str → Option Value} {base : Heap}
theorem sc_least_above : FnScope ["numbers", "rule", "number"] ["numbers", "rule"] (defScope s_least_above) := ⟨rfl, rfl, rfl, by decide +kernel, rfl, by decide +kernel, by decide +kernel⟩
theorem last_at {ns : List Int} {x : Int} (h : ns.getLast? = some x) : atI (vint ns) (-1) = some (.int x) := by
  rcases List.eq_nil_or_concat ns with e | ⟨l, y, e⟩
  · subst e; cases h
  · rw [List.concat_eq_append] at e
    subst e
    have hx : y = x := by simpa using h
    rw [← ints_snoc, hx]
    exact atI_last _ _
def tStart (K : PySem.W.Frag) (i : Nat) : TE := fun σ H Q => ∃ a ns, σ[i]? = some (some (.ref a)) ∧ SqL K H a (vint ns) ∧ Q (.int (Sl.start ns)) H
theorem start_cases (ns : List Int) : (ns = [] ∧ Sl.start ns = 0) ∨ ∃ x, ns ≠ [] ∧ ns.getLast? = some x ∧ Sl.start ns = x + 1 := by
  cases e : ns.getLast? with
  | none => exact .inl ⟨List.getLast?_eq_none_iff.mp e, by unfold Sl.start; rw [e]⟩
  | some x => exact .inr ⟨x, (fun z => by rw [z] at e; cases e), rfl, by unfold Sl.start; rw [e]⟩
theorem sc_grown : FnScope ["row", "rule", "more", "numbers"] ["row", "rule", "more"] (defScope s_grown) := ⟨rfl, rfl, rfl, by decide +kernel, rfl, by decide +kernel, by decide +kernel⟩
end
section
structure PutIn (ns : List Int) (n : Int) (ms : List Int) : Prop where
  up : Sl.Up ms
  mem : ∀ x, x ∈ ms ↔ x ∈ ns ∨ x = n
  len : ms.length = ns.length + 1
theorem up_ext : ∀ {l m : List Int}, Sl.Up l → Sl.Up m → (∀ x, x ∈ l ↔ x ∈ m) → l = m
  | [], [], _, _, _ => rfl
  | [], b :: m, _, _, h => absurd ((h b).mpr List.mem_cons_self) (by simp)
  | a :: l, [], _, _, h => absurd ((h a).mp List.mem_cons_self) (by simp)
  | a :: l, b :: m, h1, h2, h => by
    obtain ⟨a1, a2⟩ := List.pairwise_cons.mp h1
    obtain ⟨b1, b2⟩ := List.pairwise_cons.mp h2
    have e : a = b := by
      rcases List.mem_cons.mp ((h a).mp List.mem_cons_self) with z | z
      · exact z
      · rcases List.mem_cons.mp ((h b).mpr List.mem_cons_self) with y | y
        · exact y.symm
        · have := b1 a z
          have := a1 b y
          omega
    subst e
    rw [up_ext a2 b2 fun x => ?_]
    constructor
    · intro hx
      rcases List.mem_cons.mp ((h x).mp (List.mem_cons_of_mem _ hx)) with z | z
      · have := a1 x hx; omega
      · exact z
    · intro hx
      rcases List.mem_cons.mp ((h x).mpr (List.mem_cons_of_mem _ hx)) with z | z
      · have := b1 x hx; omega
      · exact z
theorem PutIn.eq {ns l m : List Int} {n : Int} (h : PutIn ns n l) (h' : PutIn ns n m) : l = m := up_ext h.up h'.up fun x => (h.mem x).trans (h'.mem x).symm
end
section
variable {P : Program} {w : World} {K : PySem.W.Frag} {mg : Str → Option Value} {base : Heap}
theorem sc_fell : FnScope ["row", "rule", "number"] ["row", "rule", "number"] (defScope s_fell) := ⟨rfl, rfl, rfl, by decide +kernel, rfl, by decide +kernel, by decide +kernel⟩
end
section
variable {P : Program} {w : World} {K : PySem.W.Frag} {mg : Str → Option Value} {base : Heap}
def spCell (K : PySem.W.Frag) : Sp := fun vs H Q _ => ∃ a ns k, vs = [.ref a, .int ((k : Nat) : Int)] ∧ SqL K H a (vint ns) ∧ Q (.int (ns.getD k 0)) H
theorem sc_cell_at : FnScope ["script", "k"] ["script", "k"] (defScope s__law_cell_at) := ⟨rfl, rfl, rfl, by decide +kernel, rfl, by decide +kernel, by decide +kernel⟩
theorem ok_cell_at (D : DefOf K mg "_law_cell_at" s__law_cell_at ["script", "k"]) (m1 : mg "len" = none) : Callee P w K mg base 1 "_law_cell_at" ["script", "k"] (spCell K) := by
  refine D.ok sc_cell_at (fun vs H Q E h => ?_) (fun f cdv A outer s H vs Q E hr h => ?_)
  · obtain ⟨a, ns, k, rfl, _⟩ := h
    rfl
  obtain ⟨a, ns, k, rfl, hS, q⟩ := h
  refine ⟨_, pss_cons (ps_if (pt_cmpR op_lt (pv 1) (pe_callB call_len_seq rfl m1 PySem.boot_len (pa_cons (pv 0) pa_nil)) (nomark _)) (pss_one (ps_ret (pe_ix ix_list (pv 0) (pv 1) (fun _ _ => rfl)))) pss_nil)
    (pss_one (ps_ret pe_int)), ?_⟩
  refine ⟨_, rfl, _, rfl, a, _, rfl, .inl hS, _, _, rfl, rfl, _, rfl, ?_⟩
  rw [ints_len]
  refine ite2 (fun c => ?_) (fun c => ?_)
  · have c' : ((k : Nat) : Int) < (ns.length : Int) := of_decide_eq_true c
    exact ⟨_, rfl, _, rfl, a, _, _, _, rfl, rfl, hS, ints_at (by omega), q⟩
  · have c' : ¬ ((k : Nat) : Int) < (ns.length : Int) := of_decide_eq_false (Bool.eq_false_iff.mpr c)
    have e : ns.getD k 0 = 0 := by
      rw [List.getD_eq_getElem?_getD, List.getElem?_eq_none (by omega)]
      rfl
    rw [e] at q
    exact q
structure Drawn (ms : List Int) (i : Nat) (last d : Int) : Prop where
  up : Sl.Up ms
  pos : ∀ m ∈ ms, 0 ≤ m
  le : ∀ m ∈ ms, m ≤ last
  lo : -1 ≤ last
  hi : last ≤ (i : Int) * d - 1
theorem Drawn.nil (d : Int) : Drawn [] 0 (-1) d := ⟨List.Pairwise.nil, (fun _ h => nomatch h), (fun _ h => nomatch h), Int.le_refl _, by omega⟩
theorem Drawn.snoc {ms : List Int} {i : Nat} {last d v : Int} (h : Drawn ms i last d) (h0 : 0 ≤ v) (h1 : v ≤ d - 1) : Drawn (ms ++ [last + 1 + v]) (i + 1) (last + 1 + v) d := by
  have hl := h.lo
  have hh := h.hi
  have e : ((i + 1 : Nat) : Int) * d = (i : Int) * d + d := by
    rw [show ((i + 1 : Nat) : Int) = (i : Int) + 1 by omega, Int.add_mul, Int.one_mul]
  refine ⟨Sl.up_snoc h.up fun n hn => ?_, fun n hn => ?_, fun n hn => ?_, by omega, by omega⟩
  · have := h.le n hn; omega
  · rcases Sl.mem_snoc.mp hn with z | z
    · exact h.pos n z
    · omega
  · rcases Sl.mem_snoc.mp hn with z | z
    · have := h.le n z; omega
    · omega
theorem Drawn.skip {ms : List Int} {i : Nat} {last d v : Int} (h : Drawn ms i last d) (h0 : 0 ≤ v) (h1 : v ≤ d - 1) : Drawn ms (i + 1) (last + 1 + v) d := by
  have hl := h.lo
  have hh := h.hi
  have e : ((i + 1 : Nat) : Int) * d = (i : Int) * d + d := by
    rw [show ((i + 1 : Nat) : Int) = (i : Int) + 1 by omega, Int.add_mul, Int.one_mul]
  exact ⟨h.up, h.pos, fun n hn => by have := h.le n hn; omega, by omega, by omega⟩
end
section
structure EC (K : PySem.W.Frag) (mg : Str → Option Value) (x : Str) (C : Addr) : Prop where
  m : mg x = some (.ref C)
  k : PySem.W.excIn K C mroV newV = true
end
section
variable {P : Program} {w : World} {K : PySem.W.Frag} {mg : Str → Option Value} {base : Heap}
def isRule (y : Str) : Bool := inV (.str y) [.str "even", .str "sums", .str "parts"]
def RuleText (y : Str) : Prop := (reprText y).length ≤ sizeLine ∧ (Str.empty ++ "no rule is called " ++ reprText y).length ≤ sizeLine
theorem isRule_rstr (r : Sl.Rule) : isRule (rstr r) = true := by cases r <;> decide +kernel
def spRuleT (C : Addr) : Sp := fun vs H Q E => ∃ y : Str, vs = [.str y] ∧ (isRule y = true → Q .non H) ∧ (isRule y = false → RuleText y ∧ E (.ref C) none H)
theorem ok_check_ruleT {C : Addr} (D : DefOf K mg "check_rule" s_check_rule ["rule"]) (g : RulesAt K mg) (ec : EC K mg "NoRule" C) : CalleeX P w K mg base 1 "check_rule" ["rule"] (spRuleT C) := by
  obtain ⟨rr, g1, g2⟩ := g
  refine D.okX sc_check_rule (fun vs H Q E h => ?_) (fun f cdv A outer s H vs Q E hr h => ?_)
  · obtain ⟨y, rfl, _⟩ := h
    rfl
  obtain ⟨y, rfl, q1, q2⟩ := h
  refine ⟨_, pss_one (ps_if (pt_cmpR op_notIn_seq (pv 0) (pe_gref rfl g1) (by with_unfolding_all rfl)) (pss_one (ps_raise rto_cxOf rfl ⟨ec.m, ec.k⟩ (pa_cons (pe_fstr (pv 0)) pa_nil))) pss_nil), ?_⟩
  refine ⟨_, rfl, rr, _, rfl, .inr (g2 H), rfl, rfl, _, rfl, ?_⟩
  cases e : isRule y with
  | true => exact iteN (by rw [show inV (.str y) [.str "even", .str "sums", .str "parts"] = true from e]; decide) (q1 e)
  | false =>
    refine iteY (by rw [show inV (.str y) [.str "even", .str "sums", .str "parts"] = false from e]; rfl) ?_
    obtain ⟨⟨z1, z2⟩, q⟩ := q2 e
    exact ⟨_, rfl, y, rfl, z1, z2, (by show 1 ≤ sizeLine; decide), q⟩
end
section
variable {P : Program} {w : World} {K : PySem.W.Frag} {mg : Str → Option Value} {base : Heap}
def spRowT (K : PySem.W.Frag) (C : Addr) : Sp := fun vs H Q E => ∃ a ns, vs = [.ref a] ∧ SqL K H a (vint ns) ∧ ns.length ≤ 1000 ∧ (Sl.isRow ns = true → ∀ H', Same H H' → Q .non H') ∧ (Sl.isRow ns = false → ∀ H', Same H H' → E (.ref C) none H')
theorem ok_check_rowT {C : Addr} (D : DefOf K mg "check_row" s_check_row ["row"]) (c1 : Callee P w K mg base 2 "is_row" ["some"] (spIsRow K)) (ec : EC K mg "NoRow" C) : CalleeX P w K mg base 3 "check_row" ["row"] (spRowT K C) := by
  refine D.okX sc_check_row (fun vs H Q E h => ?_) (fun f cdv A outer s H vs Q E hr h => ?_)
  · obtain ⟨a, ns, rfl, _⟩ := h
    rfl
  obtain ⟨a, ns, rfl, hS, hl, q1, q2⟩ := h
  refine ⟨_, pss_one (ps_if (pt_not (pt_val (pe_callD c1 hr rfl (pa_cons (pv 0) pa_nil)))) (pss_one (ps_raise rto_cxOf rfl ⟨ec.m, ec.k⟩ (pa_cons pe_str pa_nil))) pss_nil), ?_⟩
  refine ⟨_, rfl, a, ns, rfl, hS, hl, fun H' s1 => ⟨_, rfl, ?_⟩⟩
  cases e : Sl.isRow ns with
  | true => exact iteF (q1 e H' s1)
  | false => exact iteT ⟨(by show 1 ≤ sizeLine; decide), q2 e H' s1⟩
end
section
variable {P : Program} {w : World} {K : PySem.W.Frag} {mg : Str → Option Value} {base : Heap}
def spBreachT (K : PySem.W.Frag) (C1 C2 : Addr) : Sp := fun vs H Q E => ∃ a ns y, vs = [.ref a, .str y] ∧ SqL K H a (vint ns) ∧ ns.length ≤ 1000 ∧ (isRule y = false → RuleText y ∧ E (.ref C1) none H) ∧
  (isRule y = true → Sl.isRow ns = false → ∀ H', Same H H' → E (.ref C2) none H') ∧ (isRule y = true → Sl.isRow ns = true → ∃ r, y = rstr r ∧ Told r ns H Q)
theorem ok_breachT {C1 C2 : Addr} (D : DefOf K mg "breach" s_breach ["row", "rule"]) (c1 : CalleeX P w K mg base 1 "check_rule" ["rule"] (spRuleT C1)) (c2 : CalleeX P w K mg base 3 "check_row" ["row"] (spRowT K C2))
    (c3 : Callee P w K mg base 2 "found_breach" ["numbers", "rule"] (spFound K)) : CalleeX P w K mg base 4 "breach" ["row", "rule"] (spBreachT K C1 C2) := by
  refine D.okX sc_breach (fun vs H Q E h => ?_) (fun f cdv A outer s H vs Q E hr h => ?_)
  · obtain ⟨a, ns, y, rfl, _⟩ := h
    rfl
  obtain ⟨a, ns, y, rfl, hS, hl, q1, q2, q3⟩ := h
  refine ⟨_, pss_cons (ps_expr (pe_callX rto_cxOf c1 (hr.mono (by decide)) rfl (pa_cons (pv 1) pa_nil))) (pss_cons (ps_expr (pe_callX rto_cxOf c2 hr rfl (pa_cons (pv 0) pa_nil)))
    (pss_one (ps_ret (pe_callD c3 (hr.mono (by decide)) rfl (pa_cons (pv 0) (pa_cons (pv 1) pa_nil)))))), ?_⟩
  refine ⟨_, rfl, y, rfl, fun er => ?_, q1⟩
  refine ⟨_, rfl, a, ns, rfl, hS, hl, fun hrow H' s1 => ?_, fun nrow H' s1 => q2 er nrow H' s1⟩
  obtain ⟨r, rfl, q⟩ := q3 er hrow
  exact ⟨_, rfl, _, rfl, a, ns, r, rfl, s1.seq hS, (Sl.isRow_iff.mp hrow).2.2, (by have := row_len hrow; omega), q.after s1⟩
def Refused (y : Str) (ns : List Int) (C1 C2 : Addr) (H : Hp) (E : XK) : Prop := (isRule y = false ∧ RuleText y ∧ E (.ref C1) none H) ∨ (isRule y = true ∧ Sl.isRow ns = false ∧ ∀ H', Same H H' → E (.ref C2) none H')
def spKeepsR (K : PySem.W.Frag) (C1 C2 : Addr) : Sp := fun vs H _ E => ∃ a ns y, vs = [.ref a, .str y] ∧ SqL K H a (vint ns) ∧ ns.length ≤ 1000 ∧ Refused y ns C1 C2 H E
theorem Refused.breach {y : Str} {ns : List Int} {C1 C2 a : Addr} {H : Hp} {E : XK} {Q : VK} (h : Refused y ns C1 C2 H E) (hS : SqL K H a (vint ns)) (hl : ns.length ≤ 1000) : spBreachT K C1 C2 [.ref a, .str y] H Q E := by
  refine ⟨a, ns, y, rfl, hS, hl, fun e => ?_, fun e e2 => ?_, fun e e2 => ?_⟩
  · rcases h with ⟨_, h⟩ | ⟨h, _⟩
    · exact h
    · rw [e] at h; cases h
  · rcases h with ⟨h, _⟩ | ⟨_, _, h⟩
    · rw [e] at h; cases h
    · exact h
  · rcases h with ⟨h, _⟩ | ⟨_, h, _⟩
    · rw [e] at h; cases h
    · rw [e2] at h; cases h
theorem ok_keepsR {C1 C2 : Addr} (D : DefOf K mg "keeps" s_keeps ["row", "rule"]) (c1 : CalleeX P w K mg base 4 "breach" ["row", "rule"] (spBreachT K C1 C2)) : CalleeX P w K mg base 5 "keeps" ["row", "rule"] (spKeepsR K C1 C2) := by
  refine D.okX sc_keeps (fun vs H Q E h => ?_) (fun f cdv A outer s H vs Q E hr h => ?_)
  · obtain ⟨a, ns, y, rfl, _⟩ := h
    rfl
  obtain ⟨a, ns, y, rfl, hS, hl, q⟩ := h
  refine ⟨_, pss_one (ps_ret (pe_cmp (pc_isN (pe_callX rto_cxOf c1 hr rfl (pa_cons (pv 0) (pa_cons (pv 1) pa_nil)))))), ?_⟩
  exact ⟨_, rfl, _, rfl, q.breach hS hl⟩
end
section
variable {P : Program} {w : World} {K : PySem.W.Frag} {mg : Str → Option Value} {base : Heap}
def spKeptT (K : PySem.W.Frag) (C1 C2 C3 : Addr) : Sp := fun vs H Q E => ∃ a ns y, vs = [.ref a, .str y] ∧ SqL K H a (vint ns) ∧ ns.length ≤ 1000 ∧ (Refused y ns C1 C2 H E ∨ ∃ r, y = rstr r ∧ Sl.isRow ns = true ∧
  (Sl.Brk r ns → ∀ H', Same H H' → E (.ref C3) none H') ∧ (¬ Sl.Brk r ns → ∀ H', Same H H' → Q .non H'))
theorem ok_check_keptT {C1 C2 C3 : Addr} (D : DefOf K mg "check_kept" s_check_kept ["row", "rule"]) (c1 : CalleeX P w K mg base 4 "breach" ["row", "rule"] (spBreachT K C1 C2)) (ec : EC K mg "Broken" C3) :
    CalleeX P w K mg base 5 "check_kept" ["row", "rule"] (spKeptT K C1 C2 C3) := by
  refine D.okX sc_check_kept (fun vs H Q E h => ?_) (fun f cdv A outer s H vs Q E hr h => ?_)
  · obtain ⟨a, ns, y, rfl, _⟩ := h
    rfl
  obtain ⟨a, ns, y, rfl, hS, hl, q⟩ := h
  refine ⟨_, pss_one (ps_if (pt_cmp (pc_notN (pe_callX rto_cxOf c1 hr rfl (pa_cons (pv 0) (pa_cons (pv 1) pa_nil))))) (pss_one (ps_raise rto_cxOf rfl ⟨ec.m, ec.k⟩ (pa_cons pe_str pa_nil))) pss_nil), ?_⟩
  rcases q with q | ⟨r, rfl, hrow, q1, q2⟩
  · exact ⟨_, rfl, _, rfl, q.breach hS hl⟩
  refine ⟨_, rfl, _, rfl, a, ns, _, rfl, hS, hl, fun e => ?_, fun _ e => ?_, fun _ _ => ⟨r, rfl, fun nb H' s1 => ⟨_, rfl, iteN (by decide) (q2 nb H' s1)⟩, fun p t H' sh s1 e => ⟨_, rfl, iteY ?_ ⟨(by show 1 ≤ sizeLine; decide), q1 sh.brk H' s1⟩⟩⟩⟩
  · rw [isRule_rstr] at e; cases e
  · rw [hrow] at e; cases e
  · rfl
end
section
variable {P : Program} {w : World} {K : PySem.W.Frag} {mg : Str → Option Value} {base : Heap}
def spLeastT (C : Addr) : Sp := fun vs H Q E => ∃ a ns r, vs = [.ref a, .str (rstr r)] ∧ H a = some (.lst (vint ns)) ∧ Sl.Kept r ns ∧ ns.length ≤ 20 ∧ (Sl.nxt r ns ≤ 1000000000000 → ∀ H', Same H H' → Q (.int (Sl.nxt r ns)) H') ∧ (1000000000000 < Sl.nxt r ns → ∀ H', Same H H' → E (.ref C) none H')
theorem ok_least_aboveT {C : Addr} (D : DefOf K mg "least_above" s_least_above ["numbers", "rule"]) (c1 : Callee P w K mg base 2 "found_breach" ["numbers", "rule"] (spFound K)) (g1 : ∃ t, mg "GREATEST" = some (.int 1000000000000 t)) (ec : EC K mg "NoNumber" C) :
    CalleeX P w K mg base 3 "least_above" ["numbers", "rule"] (spLeastT C) := by
  obtain ⟨t1, g1⟩ := g1
  refine D.okX sc_least_above (fun vs H Q E h => ?_) (fun f cdv A outer s H vs Q E hr h => ?_)
  · obtain ⟨a, ns, r, rfl, _⟩ := h
    rfl
  obtain ⟨a, ns, r, rfl, hA, kp, hl, qa, qe⟩ := h
  refine ⟨_, pss_cons (ps_set (i := 2) sc_least_above.nd rfl (Or.inl rfl) (PE.imp (t' := tStart K 0) (pe_ifExp (pt_truth (pv 0) (fun _ => rfl)) (pe_op op_add (pe_ix ix_list (pv 0) (pe_un un_neg pe_int) (fun _ _ => rfl)) pe_int) pe_int) ?st))
    (pss_cons (ps_while PassesOwn.leaving (pt_cmpR op_le (pv 2) (pe_gint rfl g1) (nomark _))
      (pss_cons (ps_if (pt_cmp (pc_isN (pe_callD c1 hr rfl (pa_cons (pe_op op_cat (pv 0) (pe_lst (pa_cons (pv 2) pa_nil))) (pa_cons (pv 1) pa_nil))))) (pss_one (ps_ret (pv 2))) pss_nil)
      (pss_one (ps_aug (i := 2) sc_least_above.nd rfl (Or.inl rfl) pe_int ip_add))))
    (pss_one (ps_raise rto_cxOf rfl ⟨ec.m, ec.k⟩ (pa_cons pe_str pa_nil)))), ?_⟩
  case st =>
    rintro σ H' Q' ⟨b, ms, e1, e2, q'⟩
    refine ⟨_, e1, _, .inl ⟨_, e2, rfl⟩, ?_⟩
    rcases start_cases ms with ⟨z1, z2⟩ | ⟨x, z1, z2, z3⟩
    · rw [z2] at q'
      subst z1
      exact iteF q'
    · refine iteY ?_ ⟨_, e1, 1, rfl, b, _, _, _, rfl, rfl, e2, last_at z2, _, _, rfl, rfl, ?_⟩
      · cases ms with
        | nil => exact absurd rfl z1
        | cons y l => rfl
      · rw [z3] at q'
        exact q'
  obtain ⟨n1, n2, n3, n4⟩ := Sl.nxt_spec kp hl
  have st0 := Sl.start_nonneg kp.pos
  refine ⟨a, ns, rfl, SqL.of hA, ?_⟩
  refine ⟨fun m σ H2 => ∃ n, σ = [some (.ref a), some (.str (rstr r)), some (.int n)] ∧ Same H H2 ∧ Sl.start ns ≤ n ∧ n ≤ Sl.nxt r ns ∧ m = (Sl.nxt r ns - n).toNat, ⟨_, _, rfl, Same.refl _, Int.le_refl _, n1, rfl⟩, ?_⟩
  rintro m σ H2 ⟨n, rfl, s2, h1, h2, rfl⟩
  refine ⟨_, rfl, _, _, rfl, rfl, _, rfl, ite2 (fun hc => ?_) (fun hc => ?_)⟩
  case refine_2 =>
    have hc' : ¬ n ≤ 1000000000000 := of_decide_eq_false (Bool.eq_false_iff.mpr hc)
    exact ⟨(by show 1 ≤ sizeLine; decide), qe (by omega) H2 s2⟩
  have hc' : n ≤ 1000000000000 := of_decide_eq_true hc
  refine ⟨fun σ' H3 => σ' = [some (.ref a), some (.str (rstr r)), some (.int (n + 1))] ∧ Same H H3 ∧ n < Sl.nxt r ns, fun σ' H3 ⟨e, s3, h3⟩ => ⟨(Sl.nxt r ns - (n + 1)).toNat, by omega, n + 1, e, s3, by omega, by omega, rfl⟩, ?_⟩
  refine ⟨_, rfl, _, rfl, (by show 1 ≤ sizeLine; decide), fun d hd => ?_⟩
  have t3 := same_upd hd (.lst (vint [n]))
  refine ⟨a, d, _, _, rfl, rfl, t3 _ _ (s2 _ _ hA), upd_same, (by rw [ints_len]; exact Nat.le_of_lt (small1000 (by show ns.length + 1 ≤ 1000; omega))), fun c hc => ?_⟩
  have t4 := same_upd hc (.lst (vint ns ++ vint [n]))
  have s4 := s2.trans (t3.trans t4)
  have up1 : Sl.Up (ns ++ [n]) := Sl.up_snoc kp.up fun x hx => by have := Sl.start_gt kp.up x hx; omega
  refine ⟨_, rfl, c, ns ++ [n], r, rfl, SqL.of (by rw [← ints_app]; exact upd_same), up1, (by rw [List.length_append]; show ns.length + 1 ≤ 100; omega), fun nb H3 s3 => ⟨_, rfl, iteY (by decide) ?_⟩, fun p t H3 sh s3 e => ⟨_, rfl, iteN refNon ?_⟩⟩
  · have e : n = Sl.nxt r ns := by
      rcases Int.lt_or_eq_of_le h2 with z | z
      · exact absurd (n4 n h1 z) nb
      · exact z
    refine ⟨_, rfl, ?_⟩
    rw [e]
    exact qa (by omega) H3 (s4.trans s3)
  · have e : n < Sl.nxt r ns := by
      rcases Int.lt_or_eq_of_le h2 with z | z
      · exact z
      · rw [z] at sh
        exact absurd sh.brk n3
    exact ⟨_, rfl, _, _, rfl, rfl, rfl, s4.trans s3, e⟩
def spGrownR (K : PySem.W.Frag) (C1 C2 C3 C4 C5 : Addr) : Sp := fun vs H _ E => ∃ a ns y more, vs = [.ref a, .str y, .int more] ∧ SqL K H a (vint ns) ∧ ns.length ≤ 1000 ∧ (Refused y ns C1 C2 H E ∨ ∃ r, y = rstr r ∧ Sl.isRow ns = true ∧
  ((Sl.Brk r ns ∧ ∀ H', Same H H' → E (.ref C3) none H') ∨ (¬ Sl.Brk r ns ∧ (more < 0 ∨ 20 < (ns.length : Int) + more) ∧ ∀ H', Same H H' → E (.ref C4) none H') ∨
    (¬ Sl.Brk r ns ∧ ∃ m k : Nat, more = (m : Int) ∧ ns.length + m ≤ 20 ∧ k < m ∧ 1000000000000 < Sl.nxt r (Sl.grow r ns k) ∧ ∀ H', Same H H' → E (.ref C5) none H')))
theorem ok_grownR {C1 C2 C3 C4 C5 : Addr} (D : DefOf K mg "grown" s_grown ["row", "rule", "more"]) (c1 : CalleeX P w K mg base 5 "check_kept" ["row", "rule"] (spKeptT K C1 C2 C3)) (c2 : CalleeX P w K mg base 3 "least_above" ["numbers", "rule"] (spLeastT C5))
    (g1 : ∃ t, mg "MOST_NUMBERS" = some (.int 20 t)) (m1 : mg "len" = none) (m2 : mg "list" = none) (ec : EC K mg "NoSize" C4) : CalleeX P w K mg base 6 "grown" ["row", "rule", "more"] (spGrownR K C1 C2 C3 C4 C5) := by
  obtain ⟨t1, g1⟩ := g1
  refine D.okX sc_grown (fun vs H Q E h => ?_) (fun f cdv A outer s H vs Q E hr h => ?_)
  · obtain ⟨a, ns, y, m, rfl, _⟩ := h
    rfl
  obtain ⟨a, ns, y, more, rfl, hS, hl, q⟩ := h
  refine ⟨_, pss_cons (ps_expr (pe_callX rto_cxOf c1 hr rfl (pa_cons (pv 0) (pa_cons (pv 1) pa_nil))))
    (pss_cons (ps_if (PW.pt (pw_or (pt_cmpR op_lt (pv 2) pe_int (nomark _)) (pw_or1 (pt_cmpR op_gt (pe_op op_add (pe_callB call_len_seq rfl m1 PySem.boot_len (pa_cons (pv 0) pa_nil)) (pv 2)) (pe_gint rfl g1) (nomark _))))) (pss_one (ps_raise rto_cxOf rfl ⟨ec.m, ec.k⟩ (pa_cons pe_str pa_nil))) pss_nil)
    (pss_cons (ps_set (i := 3) sc_grown.nd rfl (Or.inl rfl) (pe_callTy call_list_of rfl m2 PySem.Pv.boot_list (pa_cons (pv 0) pa_nil)))
    (pss_cons (ps_while PassesOwn.leaving (pt_cmpR op_lt (pe_callB call_len_seq rfl m1 PySem.boot_len (pa_cons (pv 3) pa_nil)) (pe_op op_add (pe_callB call_len_seq rfl m1 PySem.boot_len (pa_cons (pv 0) pa_nil)) (pv 2)) (nomark _))
      (pss_one (ps_expr (pe_bm PySem.F.plainAttrs_list PySem.F.slot_list_append PySem.F.type_list_append mt_append (pv 3) (pa_cons (pe_callX rto_cxOf c2 (hr.mono (by decide)) rfl (pa_cons (pv 3) (pa_cons (pv 1) pa_nil))) pa_nil)))))
    (pss_one (ps_ret (pv 3)))))), ?_⟩
  rcases q with q | ⟨r, rfl, hrow, q⟩
  · exact ⟨_, rfl, _, rfl, a, ns, y, rfl, hS, hl, .inl q⟩
  refine ⟨_, rfl, _, rfl, a, ns, _, rfl, hS, hl, .inr ⟨r, rfl, hrow, fun br H1 s1 => ?_, fun nb H1 s1 => ?_⟩⟩
  · rcases q with ⟨_, q⟩ | ⟨nb, _⟩ | ⟨nb, _⟩
    · exact q H1 s1
    · exact absurd br nb
    · exact absurd br nb
  rcases q with ⟨br, _⟩ | ⟨_, hm, q⟩ | ⟨_, m, k, rfl, hlm, hk, hnx, q⟩
  · exact absurd br nb
  · refine ⟨_, rfl, _, _, rfl, rfl, _, rfl, ite2 (fun c => ⟨(by show 1 ≤ sizeLine; decide), q H1 s1⟩) (fun c => ?_)⟩
    have c' : ¬ more < 0 := of_decide_eq_false (Bool.eq_false_iff.mpr c)
    refine ⟨_, rfl, a, _, rfl, .inl (s1.seq hS), _, rfl, _, _, rfl, rfl, _, _, rfl, rfl, _, rfl, iteY (decide_eq_true ?_) ⟨(by show 1 ≤ sizeLine; decide), q H1 s1⟩⟩
    rw [ints_len]
    omega
  refine ⟨_, rfl, _, _, rfl, rfl, _, rfl, iteN (fun z => absurd (of_decide_eq_true z) (by omega)) ?_⟩
  refine ⟨_, rfl, a, _, rfl, .inl (s1.seq hS), _, rfl, _, _, rfl, rfl, _, _, rfl, rfl, _, rfl, iteN (fun z => absurd (of_decide_eq_true z) (by rw [ints_len]; omega)) ?_⟩
  refine ⟨_, rfl, a, _, rfl, .inl (s1.seq hS), fun p hp => ?_⟩
  have s2 := s1.trans (same_upd hp (.lst (vint ns)))
  have hpH : H p = none := s1.free hp
  have kp := kept_of_row hrow nb
  refine ⟨fun j σ H2 => ∃ i, σ = [some (.ref a), some (.str (rstr r)), some (.int (m : Nat)), some (.ref p)] ∧ NewL H H2 p (Sl.grow r ns i) ∧ i ≤ k ∧ j = m - i, ⟨m, 0, rfl, ⟨s2, hpH, upd_same⟩, Nat.zero_le _, rfl⟩, ?_⟩
  rintro j σ H2 ⟨i, rfl, ⟨z1, z2, z3⟩, hi, rfl⟩
  refine ⟨_, rfl, p, _, rfl, .inl (SqL.of z3), _, rfl, a, _, rfl, .inl (z1.seq hS), _, rfl, _, _, rfl, rfl, _, _, rfl, rfl, _, rfl, ?_⟩
  rw [ints_len, ints_len, Sl.grow_len]
  refine iteY (decide_eq_true (by omega)) ?_
  refine ⟨fun σ' H3 => σ' = [some (.ref a), some (.str (rstr r)), some (.int (m : Nat)), some (.ref p)] ∧ NewL H H3 p (Sl.grow r ns (i + 1)) ∧ i < k, fun σ' H3 ⟨e, nl, ik⟩ => ⟨m - (i + 1), by omega, i + 1, e, nl, ik, rfl⟩, ?_⟩
  refine ⟨_, rfl, .inl ⟨rfl, _, SqL.of z3⟩, _, rfl, _, rfl, p, Sl.grow r ns i, r, rfl, z3, Sl.grow_kept kp i (by omega), (by rw [Sl.grow_len]; omega), fun hg H3 s3 => ?_, fun _ H3 s3 => q H3 (z1.trans s3)⟩
  refine ⟨p, _, _, rfl, rfl, s3 _ _ z3, (by rw [ints_len, Sl.grow_len]; exact small1000 (by omega)), rfl, ?_⟩
  rw [ints_snoc]
  refine ⟨⟨(z1.trans s3).upd z2, z2, upd_same⟩, ?_⟩
  rcases Nat.lt_or_eq_of_le hi with z | z
  · exact z
  · rw [z] at hg
    omega
def spFellR (K : PySem.W.Frag) (C1 C2 C3 C5 : Addr) : Sp := fun vs H _ E => ∃ a ns y n, vs = [.ref a, .str y, .int n] ∧ SqL K H a (vint ns) ∧ ns.length ≤ 1000 ∧ (Refused y ns C1 C2 H E ∨ ∃ r, y = rstr r ∧ Sl.isRow ns = true ∧
  ((Sl.Brk r ns ∧ ∀ H', Same H H' → E (.ref C3) none H') ∨ (¬ Sl.Brk r ns ∧ Sl.inB n = false ∧ ∀ H', Same H H' → E (.ref C5) none H')))
theorem ok_fellR {C1 C2 C3 C5 : Addr} (D : DefOf K mg "fell" s_fell ["row", "rule", "number"]) (c1 : CalleeX P w K mg base 5 "check_kept" ["row", "rule"] (spKeptT K C1 C2 C3)) (c2 : Callee P w K mg base 1 "in_bounds" ["number"] spInB)
    (c3 : Callee P w K mg base 2 "found_breach" ["numbers", "rule"] (spFound K)) (m1 : mg "sorted" = none) (ec : EC K mg "NoNumber" C5) : CalleeX P w K mg base 6 "fell" ["row", "rule", "number"] (spFellR K C1 C2 C3 C5) := by
  refine D.okX sc_fell (fun vs H Q E h => ?_) (fun f cdv A outer s H vs Q E hr h => ?_)
  · obtain ⟨a, ns, y, n, rfl, _⟩ := h
    rfl
  obtain ⟨a, ns, y, n, rfl, hS, hl, q⟩ := h
  refine ⟨_, pss_cons (ps_expr (pe_callX rto_cxOf c1 hr rfl (pa_cons (pv 0) (pa_cons (pv 1) pa_nil))))
    (pss_cons (ps_if (pt_not (pt_val (pe_callD c2 (hr.mono (by decide)) rfl (pa_cons (pv 2) pa_nil)))) (pss_one (ps_raise rto_cxOf rfl ⟨ec.m, ec.k⟩ (pa_cons pe_str pa_nil))) pss_nil)
    (pss_cons (ps_if (pt_cmpR op_in_seq (pv 2) (pv 0) (by with_unfolding_all rfl)) (pss_one (ps_ret pe_non)) pss_nil)
    (pss_one (ps_ret (pe_callD c3 (hr.mono (by decide)) rfl (pa_cons (pe_callB call_sortedI rfl m1 PyProof.Rows.boot_sorted (pa_cons (pe_op op_cat (pv 0) (pe_lst (pa_cons (pv 2) pa_nil))) pa_nil)) (pa_cons (pv 1) pa_nil))))))), ?_⟩
  rcases q with q | ⟨r, rfl, hrow, q⟩
  · exact ⟨_, rfl, _, rfl, a, ns, y, rfl, hS, hl, .inl q⟩
  refine ⟨_, rfl, _, rfl, a, ns, _, rfl, hS, hl, .inr ⟨r, rfl, hrow, fun br H1 s1 => ?_, fun nb H1 s1 => ?_⟩⟩
  · rcases q with ⟨_, q⟩ | ⟨nb, _⟩
    · exact q H1 s1
    · exact absurd br nb
  rcases q with ⟨br, _⟩ | ⟨_, hb, q⟩
  · exact absurd br nb
  · exact ⟨_, rfl, n, rfl, _, rfl, iteY (by rw [hb]; rfl) ⟨(by show 1 ≤ sizeLine; decide), q H1 s1⟩⟩
end
section
variable {P : Program} {w : World} {K : PySem.W.Frag} {mg : Str → Option Value} {base : Heap}
theorem isexcRK {X : Cx} {K : PySem.W.Frag} (hK : X.K = K) : CallR X (.builtin "isinstance") (fun xs H Q => ∃ ea C D b, xs = [.ref ea, .ref D] ∧ H ea = some (ExcO (.ref C) ea) ∧ ExcAsk K C ∧ PySem.W.kitOne K (.ref C) (.ref D) = some b ∧ Q (.bl b) H) := by
  subst hK
  exact call_isexcR
theorem isexcTK {X : Cx} {K : PySem.W.Frag} (hK : X.K = K) : CallR X (.builtin "isinstance") (fun xs H Q => ∃ ea C n b, xs = [.ref ea, .ty n] ∧ H ea = some (ExcO (.ref C) ea) ∧ ExcAsk K C ∧ PySem.W.kitOne K (.ref C) (.type n) = some b ∧ Q (.bl b) H) := by
  subst hK
  exact call_isexcT
theorem boot_verr : bootBuiltins "ValueError" = some (.type "ValueError") := by decide +kernel
theorem kit_ref {C D : Addr} {cd : ClassData} {b : Bool} (h1 : PySem.W.clsIn K D = some cd) (h2 : PySem.W.typeIn K (.ref D) = some (.type "type")) (h3 : PySem.W.subIn K (.ref C) (.ref D) = some b) (h4 : PySem.W.subIn K (.ref C) (.ref C) = some true) :
    PySem.W.kitOne K (.ref C) (.ref D) = some b := by
  unfold PySem.W.kitOne
  split
  · rename_i e
    have e' : C = D := Value.ref.inj (beq_iff_eq.mp e)
    subst e'
    rw [h3] at h4
    exact h4.symm
  · show (if ((PySem.W.clsIn K D).isSome && PySem.W.typeIn K (.ref D) == some (.type "type")) = true then PySem.W.subIn K (.ref C) (.ref D) else none) = some b
    rw [h1, h2]
    exact h3
theorem kit_ty {C : Addr} (h : PySem.W.subIn K (.ref C) (.type "ValueError") = some true) : PySem.W.kitOne K (.ref C) (.type "ValueError") = some true := by
  unfold PySem.W.kitOne
  split
  · rfl
  · exact h
theorem exm_ref {C D : Addr} {cd : ClassData} {b : Bool} (h1 : PySem.W.clsIn K D = some cd) (h2 : PySem.W.typeIn K (.ref D) = some (.type "type")) (h3 : PySem.W.subIn K (.ref C) (.ref D) = some b) (h5 : PySem.W.subIn K (.ref D) (.type "BaseException") = some true) :
    PySem.W.exmOne K (.ref C) (.ref D) = some b := by
  unfold PySem.W.exmOne
  rw [h5]
  show (if ((PySem.W.clsIn K D).isSome && PySem.W.typeIn K (.ref D) == some (.type "type")) = true then PySem.W.subIn K (.ref C) (.ref D) else none) = some b
  rw [h1, h2]
  exact h3
end
section
variable {P : Program} {w : World} {K : PySem.W.Frag} {mg : Str → Option Value} {base : Heap}
def img (ns : List Int) (b t : Int) : List Int := ns.map fun n => n * t + b
def spMovedT (K : PySem.W.Frag) (C2 C5 : Addr) : Sp := fun vs H Q E => ∃ a ns b t, vs = [.ref a, .int b, .int t] ∧ SqL K H a (vint ns) ∧ ns.length ≤ 1000 ∧
  (Sl.isRow ns = false → ∀ H', Same H H' → E (.ref C2) none H') ∧
  (Sl.isRow ns = true → (t < 1 ∨ (img ns b t).all Sl.inB = false) → ∀ H', Same H H' → E (.ref C5) none H') ∧
  (Sl.isRow ns = true → 1 ≤ t → (img ns b t).all Sl.inB = true → ∀ p H', NewL H H' p (img ns b t) → Q (.ref p) H')
theorem sc_moved : FnScope ["row", "by", "times", "image"] ["row", "by", "times"] (defScope s_moved) := ⟨rfl, rfl, rfl, by decide +kernel, rfl, by decide +kernel, by decide +kernel⟩
theorem ok_movedT {C2 C5 : Addr} (D : DefOf K mg "moved" s_moved ["row", "by", "times"]) (c1 : CalleeX P w K mg base 3 "check_row" ["row"] (spRowT K C2)) (c2 : Callee P w K mg base 1 "in_bounds" ["number"] spInB)
    (m1 : mg "all" = none) (ec : EC K mg "NoNumber" C5) : CalleeX P w K mg base 4 "moved" ["row", "by", "times"] (spMovedT K C2 C5) := by
  refine D.okX sc_moved (fun vs H Q E h => ?_) (fun f cdv A outer s H vs Q E hr h => ?_)
  · obtain ⟨a, ns, b, t, rfl, _⟩ := h
    rfl
  obtain ⟨a, ns, b, t, rfl, hS, hl, q1, q2, q3⟩ := h
  refine ⟨_, pss_cons (ps_expr (pe_callX rto_cxOf c1 hr rfl (pa_cons (pv 0) pa_nil)))
    (pss_cons (ps_if (pt_cmpR op_lt (pv 2) pe_int (nomark _)) (pss_one (ps_raise rto_cxOf rfl ⟨ec.m, ec.k⟩ (pa_cons pe_str pa_nil))) pss_nil)
    (pss_cons (ps_comp (own := ["number"]) (N' := ["row", "by", "times", "image"]) (i := 3) (comp_scope (defScope s_moved) ["row", "by", "times", "image"] rfl rfl (by decide +kernel)) rfl sc_moved.nd rfl (Or.inl rfl)
        (pi_list (pv 0)) (fun _ _ _ _ => pg_own (i := 0) ["row", "by", "times", "image"] (by decide +kernel) rfl rfl) (fun _ _ _ _ => pf_nil)
        (fun _ _ _ _ => pe_op op_add (pe_op op_mul (pv 0) (pv 3)) (pv 2)))
    (pss_cons (ps_if (pt_not (pt_val (pe_callB (call_all rfl) rfl m1 PyProof.Rows.boot_all (pa_cons
        (pe_comp (own := ["number"]) (N' := ["row", "by", "times", "image"]) (comp_scope (defScope s_moved) ["row", "by", "times", "image"] rfl rfl (by decide +kernel)) rfl
          (pi_list (pv 3)) (fun _ _ _ _ => pg_own (i := 0) ["row", "by", "times", "image"] (by decide +kernel) rfl rfl) (fun _ _ _ _ => pf_nil)
          (fun _ _ _ _ => pe_callD c2 (hr.mono (by decide)) rfl (pa_cons (pv 0) pa_nil))) pa_nil)))) (pss_one (ps_raise rto_cxOf rfl ⟨ec.m, ec.k⟩ (pa_cons pe_str pa_nil))) pss_nil)
    (pss_one (ps_ret (pv 3)))))), ?_⟩
  refine ⟨_, rfl, a, ns, rfl, hS, hl, fun hrow H1 s1 => ?_, fun nrow H1 s1 => q1 nrow H1 s1⟩
  refine ⟨_, rfl, _, _, rfl, rfl, _, rfl, ite2 (fun c => ?_) (fun c => ?_)⟩
  · exact ⟨(by show 1 ≤ sizeLine; decide), q2 hrow (.inl (of_decide_eq_true c)) H1 s1⟩
  have ht : 1 ≤ t := by
    have := of_decide_eq_false (Bool.eq_false_iff.mpr c)
    omega
  have hb := (Sl.isRow_iff.mp hrow).2.1
  refine ⟨_, rfl, a, rfl, ⟨_, s1.seq hS⟩, ?_⟩
  refine comp_list (ys := vint ns) (fun i xs H2 => Same H1 H2 ∧ xs = vint ((ns.take i).map fun n => n * t + b)) ⟨Same.refl _, rfl⟩ (ints_small hl)
    (fun i xs H2 z => ?_) (fun i xs H2 _ z => (s1.trans z.1).seq hS) ?_ ?_
  · rw [z.2, ints_len, List.length_map, List.length_take]
    omega
  · rintro i x xs H2 h1 ⟨z1, rfl⟩
    obtain ⟨hi, rfl⟩ := ints_some h1
    have hm := hb _ (Sl.mem_getD.mpr ⟨i, hi, rfl⟩)
    refine ⟨[some _], rfl, rfl, noTest ?_⟩
    refine ⟨_, rfl, _, rfl, _, _, rfl, rfl, .inl ⟨by omega, by omega⟩, _, rfl, _, _, rfl, rfl, z1, ?_⟩
    rw [map_take_succ _ hi, ints_snoc]
  · rintro xs H2 ⟨z1, rfl⟩ p hp
    rw [ints_len, List.take_length]
    have t2 := same_upd hp (.lst (vint (img ns b t)))
    have s2 := s1.trans (z1.trans t2)
    have hpH : H p = none := (s1.trans z1).free hp
    show tSeq _ _ _ _ (upd H2 p (.lst (vint (img ns b t))))
    generalize hH3 : upd H2 p (.lst (vint (img ns b t))) = H3 at s2 t2
    have hp3 : H3 p = some (.lst (vint (img ns b t))) := by rw [← hH3]; exact upd_same
    have hli : (img ns b t).length ≤ 1000 := by unfold img; rw [List.length_map]; exact hl
    refine ⟨_, rfl, p, rfl, ⟨_, SqL.of hp3⟩, ?_⟩
    refine comp_list (ys := vint (img ns b t)) (fun i xs H4 => Same H3 H4 ∧ xs = (((img ns b t).take i).map Sl.inB).map V.bl) ⟨Same.refl _, by simp⟩ (ints_small hli)
      (fun i xs H4 z => ?_) (fun i xs H4 _ z => SqL.of (z.1 _ _ hp3)) ?_ ?_
    · rw [z.2, List.length_map, List.length_map, List.length_take]
      omega
    · rintro i x xs H4 h1 ⟨z4, rfl⟩
      obtain ⟨hi, rfl⟩ := ints_some h1
      refine ⟨[some _], rfl, rfl, noTest ?_⟩
      refine ⟨_, rfl, _, rfl, z4, ?_⟩
      rw [map_take_succ _ hi, List.map_append]
      rfl
    · rintro xs H4 ⟨z4, rfl⟩ c0 hc
      refine ⟨c0, ((img ns b t).take (vint (img ns b t)).length).map Sl.inB, rfl, SqL.of upd_same, _, rfl, ?_⟩
      rw [ints_len, List.take_length, all_take]
      have t5 := same_upd hc (.lst (((img ns b t).map Sl.inB).map V.bl))
      have s5 := s2.trans (z4.trans t5)
      cases e : (img ns b t).all Sl.inB with
      | true => exact iteF ⟨_, rfl, q3 hrow ht e p _ ⟨s5, hpH, (z4.trans t5) _ _ hp3⟩⟩
      | false => exact iteT ⟨(by show 1 ≤ sizeLine; decide), q2 hrow (.inr e) _ s5⟩
end
section
variable {P : Program} {w : World} {K : PySem.W.Frag} {mg : Str → Option Value} {base : Heap}
def spDiffN (K : PySem.W.Frag) (C2 : Addr) : Sp := fun vs H _ E => ∃ a ns, vs = [.ref a] ∧ SqL K H a (vint ns) ∧ ns.length ≤ 1000 ∧ Sl.isRow ns = false ∧ ∀ H', Same H H' → E (.ref C2) none H'
theorem sc_differences : FnScope ["row", "counts", "place", "greater", "lesser", "difference"] ["row"] (defScope s_differences) := ⟨rfl, rfl, rfl, by decide +kernel, rfl, by decide +kernel, by decide +kernel⟩
theorem ok_diffN {C2 : Addr} (D : DefOf K mg "differences" s_differences ["row"]) (c1 : CalleeX P w K mg base 3 "check_row" ["row"] (spRowT K C2)) : CalleeX P w K mg base 4 "differences" ["row"] (spDiffN K C2) := by
  refine D.okX sc_differences (fun vs H Q E h => ?_) (fun f cdv A outer s H vs Q E hr h => ?_)
  · obtain ⟨a, ns, rfl, _⟩ := h
    rfl
  obtain ⟨a, ns, rfl, hS, hl, nrow, q⟩ := h
  refine ⟨_, pss_cons (ps_expr (pe_callX rto_cxOf c1 hr rfl (pa_cons (pv 0) pa_nil))) pss_never, ?_⟩
  exact ⟨_, rfl, a, ns, rfl, hS, hl, (fun z => by rw [nrow] at z; cases z), fun _ H1 s1 => q H1 s1⟩
def spMostN (C1 C4 : Addr) : Sp := fun vs H _ E => ∃ (y : Str) (b : Int), vs = [.str y, .int b] ∧ (isRule y = false → RuleText y ∧ E (.ref C1) none H) ∧ (isRule y = true → (b < 1 ∨ 20 < b) ∧ E (.ref C4) none H)
theorem sc_most : FnScope ["rule", "bound", "row"] ["rule", "bound"] (defScope s_most) := ⟨rfl, rfl, rfl, by decide +kernel, rfl, by decide +kernel, by decide +kernel⟩
theorem ok_mostN {C1 C4 : Addr} (D : DefOf K mg "most" s_most ["rule", "bound"]) (c1 : CalleeX P w K mg base 1 "check_rule" ["rule"] (spRuleT C1)) (g1 : ∃ t, mg "GREATEST_BOUND" = some (.int 20 t)) (ec : EC K mg "NoSize" C4) : CalleeX P w K mg base 2 "most" ["rule", "bound"] (spMostN C1 C4) := by
  obtain ⟨t1, g1⟩ := g1
  refine D.okX sc_most (fun vs H Q E h => ?_) (fun f cdv A outer s H vs Q E hr h => ?_)
  · obtain ⟨y, b, rfl, _⟩ := h
    rfl
  obtain ⟨y, b, rfl, q1, q2⟩ := h
  refine ⟨_, pss_cons (ps_expr (pe_callX rto_cxOf c1 hr rfl (pa_cons (pv 0) pa_nil)))
    (pss_cons (ps_if (pt_not (pt_chain op_le op_le pe_int (pv 1) (pe_gint rfl g1))) (pss_one (ps_raise rto_cxOf rfl ⟨ec.m, ec.k⟩ (pa_cons pe_str pa_nil))) pss_nil) pss_never), ?_⟩
  refine ⟨_, rfl, y, rfl, fun er => ?_, q1⟩
  obtain ⟨hb, q⟩ := q2 er
  refine ⟨_, rfl, _, _, rfl, rfl, _, rfl, ite2 (fun c => ?_) (fun c => ?_)⟩
  case refine_2 => exact ⟨_, rfl, iteT ⟨(by show 1 ≤ sizeLine; decide), q⟩⟩
  have c' : (1 : Int) ≤ b := of_decide_eq_true c
  exact ⟨_, _, rfl, rfl, _, rfl, iteY (by rw [decide_eq_false (show ¬ b ≤ 20 by omega)]; rfl) ⟨(by show 1 ≤ sizeLine; decide), q⟩⟩
def spShortN (C4 : Addr) : Sp := fun vs H _ E => ∃ b : Int, vs = [.int b] ∧ (b < 1 ∨ 6 < b) ∧ E (.ref C4) none H
theorem sc_shortest : FnScope ["marks", "last", "row"] ["marks"] (defScope s_shortest) := ⟨rfl, rfl, rfl, by decide +kernel, rfl, by decide +kernel, by decide +kernel⟩
theorem ok_shortN {C4 : Addr} (D : DefOf K mg "shortest" s_shortest ["marks"]) (g1 : ∃ t, mg "MOST_MARKS" = some (.int 6 t)) (ec : EC K mg "NoSize" C4) : CalleeX P w K mg base 1 "shortest" ["marks"] (spShortN C4) := by
  obtain ⟨t1, g1⟩ := g1
  refine D.okX sc_shortest (fun vs H Q E h => ?_) (fun f cdv A outer s H vs Q E hr h => ?_)
  · obtain ⟨b, rfl, _⟩ := h
    rfl
  obtain ⟨b, rfl, hb, q⟩ := h
  refine ⟨_, pss_cons (ps_if (pt_not (pt_chain op_le op_le pe_int (pv 0) (pe_gint rfl g1))) (pss_one (ps_raise rto_cxOf rfl ⟨ec.m, ec.k⟩ (pa_cons pe_str pa_nil))) pss_nil) pss_never, ?_⟩
  refine ⟨_, rfl, _, _, rfl, rfl, _, rfl, ite2 (fun c => ?_) (fun c => ?_)⟩
  case refine_2 => exact ⟨_, rfl, iteT ⟨(by show 1 ≤ sizeLine; decide), q⟩⟩
  have c' : (1 : Int) ≤ b := of_decide_eq_true c
  exact ⟨_, _, rfl, rfl, _, rfl, iteY (by rw [decide_eq_false (show ¬ b ≤ 6 by omega)]; rfl) ⟨(by show 1 ≤ sizeLine; decide), q⟩⟩
end
section
def LL (H : Hp) (p : Addr) (mss : List (List Int)) : Prop := ∃ as : List Addr, as.length = mss.length ∧ H p = some (.lst (as.map V.ref)) ∧ ∀ (j : Nat) a ms, as[j]? = some a → mss[j]? = some ms → H a = some (.lst (vint ms))
end
section
variable {P : Program} {w : World} {K : PySem.W.Frag} {mg : Str → Option Value} {base : Heap}
theorem map_take_s {α β : Type} (f : α → β) {l : List α} {i : Nat} {x : α} (h : l[i]? = some x) : (l.take (i + 1)).map f = (l.take i).map f ++ [f x] := by
  rw [List.take_add_one, h, List.map_append]
  rfl
def spShownT (K : PySem.W.Frag) (C2 : Addr) : Sp := fun vs H Q E => ∃ a ns, vs = [.ref a] ∧ SqL K H a (vint ns) ∧ ns.length ≤ 1000 ∧ (Sl.isRow ns = false → ∀ H', Same H H' → E (.ref C2) none H') ∧ (Sl.isRow ns = true → ∀ H', Same H H' → Q (.str (Tx.textOf ns)) H')
theorem sc_shown : FnScope ["row"] ["row"] (defScope s_shown) := ⟨rfl, rfl, rfl, by decide +kernel, rfl, by decide +kernel, by decide +kernel⟩
theorem ok_shownT {C2 : Addr} (D : DefOf K mg "shown" s_shown ["row"]) (c1 : CalleeX P w K mg base 3 "check_row" ["row"] (spRowT K C2)) (m1 : mg "str" = none) : CalleeX P w K mg base 4 "shown" ["row"] (spShownT K C2) := by
  refine D.okX sc_shown (fun vs H Q E h => ?_) (fun f cdv A outer s H vs Q E hr h => ?_)
  · obtain ⟨a, ns, rfl, _⟩ := h
    rfl
  obtain ⟨a, ns, rfl, hS, hl, q1, q2⟩ := h
  refine ⟨_, pss_cons (ps_expr (pe_callX rto_cxOf c1 hr rfl (pa_cons (pv 0) pa_nil)))
    (pss_one (ps_ret (pe_bm PySem.F.plainAttrs_str PySem.F.slot_str_join PySem.F.type_str_join (mt_join (K := K) rfl) pe_str (pa_cons
      (pe_comp (own := ["number"]) (N' := ["row"]) (comp_scope (defScope s_shown) ["row"] rfl rfl (by decide +kernel)) rfl (pi_list (pv 0)) (fun _ _ _ _ => pg_own (i := 0) ["row"] (by decide +kernel) rfl rfl) (fun _ _ _ _ => pf_nil)
        (fun _ _ _ _ => pe_callTy call_str_int rfl m1 PySem.Pv.boot_str (pa_cons (pv 0) pa_nil))) pa_nil)))), ?_⟩
  refine ⟨_, rfl, a, ns, rfl, hS, hl, fun hrow H1 s1 => ?_, fun nrow H1 s1 => q1 nrow H1 s1⟩
  have hb := (Sl.isRow_iff.mp hrow).2.1
  have hl20 := (Sl.isRow_iff.mp hrow).1
  refine ⟨rfl, _, rfl, a, rfl, ⟨_, s1.seq hS⟩, ?_⟩
  refine comp_list (ys := vint ns) (fun i xs H2 => Same H1 H2 ∧ xs = ((ns.take i).map Tx.numT).map V.str) ⟨Same.refl _, rfl⟩ (ints_small hl)
    (fun i xs H2 z => ?_) (fun i xs H2 _ z => (s1.trans z.1).seq hS) ?_ ?_
  · rw [z.2, List.length_map, List.length_map, List.length_take]
    omega
  · rintro i x xs H2 h1 ⟨z1, rfl⟩
    obtain ⟨hi, rfl⟩ := ints_some h1
    have hm := hb _ (Sl.mem_getD.mpr ⟨i, hi, rfl⟩)
    refine ⟨[some _], rfl, rfl, noTest ?_⟩
    refine ⟨_, rfl, _, rfl, Tx.small_log hm.1 hm.2, z1, ?_⟩
    rw [map_take_succ _ hi, List.map_append]
    rfl
  · rintro xs H2 ⟨z1, rfl⟩ p hp
    rw [ints_len, List.take_length]
    exact ⟨Tx.BL, p, ns.map Tx.numT, rfl, rfl, SqL.of upd_same, Tx.text_ok hb (by omega), q2 hrow _ (s1.trans (z1.trans (same_upd hp _)))⟩
def spIsNum : Sp := fun vs H Q _ => ∃ x : Str, vs = [.str x] ∧ x.length ≤ 1000 ∧ ∀ H', Same H H' → Q (.bl (Tx.isNum x)) H'
theorem sc_is_number : FnScope ["word"] ["word"] (defScope s_is_number) := ⟨rfl, rfl, rfl, by decide +kernel, rfl, by decide +kernel, by decide +kernel⟩
theorem ok_is_number (D : DefOf K mg "is_number" s_is_number ["word"]) (g1 : ∃ t, mg "FIGURES" = some (.str Tx.FIG t)) (m1 : mg "all" = none) : Callee P w K mg base 1 "is_number" ["word"] spIsNum := by
  obtain ⟨t1, g1⟩ := g1
  refine D.ok sc_is_number (fun vs H Q E h => ?_) (fun f cdv A outer s H vs Q E hr h => ?_)
  · obtain ⟨x, rfl, _⟩ := h
    rfl
  obtain ⟨x, rfl, hl, q⟩ := h
  refine ⟨_, pss_cons (ps_if (PW.pt (pw_or (pt_cmpR op_eq (pv 0) pe_str (nomark _)) (pw_or1 (pt_not (pt_val (pe_callB (call_all rfl) rfl m1 PyProof.Rows.boot_all (pa_cons
        (pe_comp (own := ["sign"]) (N' := ["word"]) (comp_scope (defScope s_is_number) ["word"] rfl rfl (by decide +kernel)) rfl (pi_str (pv 0)) (fun _ _ _ _ => pg_own (i := 0) ["word"] (by decide +kernel) rfl rfl) (fun _ _ _ _ => pf_nil)
          (fun _ _ _ _ => pe_cmpR op_in_str (pv 0) (pe_gstr rfl g1) (by with_unfolding_all rfl))) pa_nil))))))) (pss_one (ps_ret pe_bl)) pss_nil)
    (pss_one (ps_ret (pe_or (pe_cmpR op_eq (pv 0) pe_str (nomark _)) (pe_one (pe_not (pe_bm PySem.F.plainAttrs_str PySem.F.slot_str_startswith PySem.F.type_str_startswith mt_starts (pv 0) (pa_cons pe_str pa_nil))))))), ?_⟩
  refine ⟨_, rfl, rfl, _, rfl, ite2 (fun c => ?_) (fun c => ?_)⟩
  · have e : x = ("" : Str) := V.str.inj (of_decide_eq_true c)
    refine iteT ?_
    have := q H (Same.refl _)
    rw [Tx.word_nil e] at this
    exact this
  have hne : ¬ x = ("" : Str) := fun z => c (decide_eq_true (by rw [z]))
  refine ⟨_, rfl, x, rfl, ?_⟩
  refine comp_str (x := x) (fun i xs H2 => Same H H2 ∧ xs = ((x.cps.toList.take i).map Tx.isFig).map V.bl) ⟨Same.refl _, rfl⟩ (Nat.le_of_lt (small1000 hl))
    (fun i xs H2 z => ?_) ?_ ?_
  · rw [z.2, List.length_map, List.length_map, List.length_take]
    omega
  · rintro i c xs H2 hc ⟨z1, rfl⟩
    refine ⟨[some _], rfl, rfl, noTest ?_⟩
    refine ⟨_, rfl, _, _, rfl, rfl, z1, ?_⟩
    rw [Tx.fig_in, map_take_s Tx.isFig (x := c) (by rw [Array.getElem?_toList]; exact hc), List.map_append]
    rfl
  · rintro xs H2 ⟨z1, rfl⟩ p hp
    rw [List.take_of_length_le (by rw [Array.length_toList]; exact Nat.le_refl _)]
    have s2 := z1.trans (same_upd hp (.lst ((x.cps.toList.map Tx.isFig).map V.bl)))
    refine ⟨p, x.cps.toList.map Tx.isFig, rfl, SqL.of upd_same, _, rfl, ?_⟩
    have q' := q _ s2
    have ea : (x.cps.toList.map Tx.isFig).all id = x.cps.toList.all Tx.isFig := by rw [List.all_map]; rfl
    rw [ea]
    cases e : x.cps.toList.all Tx.isFig with
    | false =>
      refine iteT ?_
      rw [Tx.word_bad e] at q'
      exact q'
    | true =>
      refine iteF ?_
      unfold Tx.isNum at q'
      rw [decide_eq_false hne, e] at q'
      refine ⟨_, rfl, rfl, _, rfl, ite2 (fun d => ?_) (fun d => ?_)⟩
      · have d' : x = ("0" : Str) := V.str.inj (of_decide_eq_true d)
        rw [decide_eq_true d'] at q'
        exact q'
      · have d' : ¬ x = ("0" : Str) := fun z => d (decide_eq_true (by rw [z]))
        rw [decide_eq_false d'] at q'
        exact ⟨_, rfl, rfl, x, _, rfl, rfl, _, rfl, q'⟩
def tWords (i : Nat) : TE := fun σ H Q => ∃ t : Str, σ[i]? = some (some (.str t)) ∧ t.length ≤ 640 ∧ ∀ p, H p = none → Q (.ref p) (upd H p (.lst ((Tx.wordsT t).map V.str)))
def spReadT (C6 : Addr) : Sp := fun vs H Q E => ∃ t : Str, vs = [.str t] ∧ t.length ≤ 640 ∧ (Tx.readT t = none → ∀ H', Same H H' → E (.ref C6) none H') ∧ (∀ ns, Tx.readT t = some ns → ∀ p H', NewL H H' p ns → Q (.ref p) H')
theorem sc_read : FnScope ["text", "words", "numbers"] ["text"] (defScope s_read) := ⟨rfl, rfl, rfl, by decide +kernel, rfl, by decide +kernel, by decide +kernel⟩
theorem str_len0 {x : Str} (h : x.length = 0) : x = ("" : Str) := Tx.eq_nil.mpr (List.eq_nil_of_length_eq_zero (by rw [Array.length_toList]; exact h))
theorem ok_readT {C6 : Addr} (D : DefOf K mg "read" s_read ["text"]) (c1 : Callee P w K mg base 1 "is_number" ["word"] spIsNum) (c2 : Callee P w K mg base 2 "is_row" ["some"] (spIsRow K)) (m1 : mg "all" = none) (m2 : mg "int" = none) (ec : EC K mg "NotRead" C6) :
    CalleeX P w K mg base 3 "read" ["text"] (spReadT C6) := by
  refine D.okX sc_read (fun vs H Q E h => ?_) (fun f cdv A outer s H vs Q E hr h => ?_)
  · obtain ⟨t, rfl, _⟩ := h
    rfl
  obtain ⟨t, rfl, hl, q1, q2⟩ := h
  refine ⟨_, pss_cons (ps_set (i := 1) sc_read.nd rfl (Or.inl rfl) (PE.imp (t' := tWords 0) (pe_ifExp (pt_truth (pv 0) (fun _ => rfl)) (pe_bm PySem.F.plainAttrs_str PySem.F.slot_str_split PySem.F.type_str_split mt_split (pv 0) (pa_cons pe_str pa_nil)) (pe_lst pa_nil)) ?wd))
    (pss_cons (ps_if (pt_not (pt_val (pe_callB (call_all rfl) rfl m1 PyProof.Rows.boot_all (pa_cons
        (pe_comp (own := ["word"]) (N' := ["text", "words", "numbers"]) (comp_scope (defScope s_read) ["text", "words", "numbers"] rfl rfl (by decide +kernel)) rfl (pi_list (pv 1)) (fun _ _ _ _ => pg_own (i := 0) ["text", "words", "numbers"] (by decide +kernel) rfl rfl) (fun _ _ _ _ => pf_nil)
          (fun _ _ _ _ => pe_callD c1 (hr.mono (by decide)) rfl (pa_cons (pv 0) pa_nil))) pa_nil)))) (pss_one (ps_raise rto_cxOf rfl ⟨ec.m, ec.k⟩ (pa_cons pe_str pa_nil))) pss_nil)
    (pss_cons (ps_comp (own := ["word"]) (N' := ["text", "words", "numbers"]) (i := 2) (comp_scope (defScope s_read) ["text", "words", "numbers"] rfl rfl (by decide +kernel)) rfl sc_read.nd rfl (Or.inl rfl) (pi_list (pv 1)) (fun _ _ _ _ => pg_own (i := 0) ["text", "words", "numbers"] (by decide +kernel) rfl rfl) (fun _ _ _ _ => pf_nil)
        (fun _ _ _ _ => pe_callTy call_intT rfl m2 PySem.Pv.boot_int (pa_cons (pv 0) pa_nil)))
    (pss_cons (ps_if (pt_not (pt_val (pe_callD c2 hr rfl (pa_cons (pv 2) pa_nil)))) (pss_one (ps_raise rto_cxOf rfl ⟨ec.m, ec.k⟩ (pa_cons pe_str pa_nil))) pss_nil)
    (pss_one (ps_ret (pv 2)))))), ?_⟩
  case wd =>
    rintro σ H' Q' ⟨t, e1, hl, q'⟩
    refine ⟨_, e1, _, ⟨Nat.le_of_lt (small1000 (by omega)), rfl⟩, ?_⟩
    by_cases h0 : t.length = 0
    · have e := str_len0 h0
      rw [h0]
      refine iteF ⟨(by show 0 ≤ sizeLine; decide), fun p hp => ?_⟩
      have := q' p hp
      unfold Tx.wordsT at this
      rw [if_pos e] at this
      exact this
    · have e : ¬ t = ("" : Str) := fun z => by
        rw [z] at h0
        exact h0 (by decide +kernel)
      refine iteY ?_ ⟨_, e1, rfl, t, _, rfl, rfl, Tx.bl_len, by omega, fun p hp => ?_⟩
      · rw [bne_iff_ne]
        omega
      · have := q' p hp
        unfold Tx.wordsT at this
        rw [if_neg e] at this
        exact this
  have hwl := Tx.words_len (t := t)
  have hwf := Tx.words_few t
  refine ⟨t, rfl, hl, fun p hp => ?_⟩
  have s1 := same_upd hp (.lst ((Tx.wordsT t).map V.str))
  have hpw : upd H p (.lst ((Tx.wordsT t).map V.str)) p = some (.lst ((Tx.wordsT t).map V.str)) := upd_same
  generalize upd H p (.lst ((Tx.wordsT t).map V.str)) = H1 at s1 hpw
  have at_ : ∀ {i : Nat} {x : V}, ((Tx.wordsT t).map V.str)[i]? = some x → ∃ wd, (Tx.wordsT t)[i]? = some wd ∧ x = .str wd := fun {i x} h => by
    rw [List.getElem?_map] at h
    cases e : (Tx.wordsT t)[i]? with
    | none => rw [e] at h; cases h
    | some wd =>
      rw [e] at h
      cases h
      exact ⟨wd, rfl, rfl⟩
  refine ⟨_, rfl, p, rfl, ⟨_, SqL.of hpw⟩, ?_⟩
  refine comp_list (ys := (Tx.wordsT t).map V.str) (fun i xs H2 => Same H1 H2 ∧ xs = (((Tx.wordsT t).take i).map Tx.isNum).map V.bl) ⟨Same.refl _, rfl⟩ (by rw [List.length_map]; exact Nat.le_of_lt (small1000 (by omega)))
    (fun i xs H2 z => ?_) (fun i xs H2 _ z => SqL.of (z.1 _ _ hpw)) ?_ ?_
  · rw [z.2, List.length_map, List.length_map, List.length_take]
    omega
  · rintro i x xs H2 hx ⟨z1, rfl⟩
    obtain ⟨wd, hw, rfl⟩ := at_ hx
    have hm := List.mem_of_getElem? hw
    refine ⟨[some _], rfl, rfl, noTest ?_⟩
    refine ⟨_, rfl, wd, rfl, (by have := hwl wd hm; omega), fun H3 s3 => ⟨z1.trans s3, ?_⟩⟩
    rw [map_take_s Tx.isNum hw, List.map_append]
    rfl
  rintro xs H2 ⟨z1, rfl⟩ c0 hc0
  rw [List.take_of_length_le (by rw [List.length_map]; exact Nat.le_refl _)]
  have u2 := same_upd hc0 (.lst (((Tx.wordsT t).map Tx.isNum).map V.bl))
  have s2 := s1.trans (z1.trans u2)
  have hpw2 := u2 _ _ (z1 _ _ hpw)
  refine ⟨c0, (Tx.wordsT t).map Tx.isNum, rfl, SqL.of upd_same, _, rfl, ?_⟩
  have ea : ((Tx.wordsT t).map Tx.isNum).all id = (Tx.wordsT t).all Tx.isNum := by rw [List.all_map]; rfl
  rw [ea]
  generalize upd H2 c0 (.lst (((Tx.wordsT t).map Tx.isNum).map V.bl)) = H3 at s2 hpw2
  cases e : (Tx.wordsT t).all Tx.isNum with
  | false =>
    have en : Tx.readT t = none := by unfold Tx.readT; rw [e]; rfl
    exact iteT ⟨(by show 1 ≤ sizeLine; decide), q1 en H3 s2⟩
  | true =>
    refine iteF ?_
    have hall := List.all_eq_true.mp e
    refine ⟨_, rfl, p, rfl, ⟨_, SqL.of hpw2⟩, ?_⟩
    refine comp_list (ys := (Tx.wordsT t).map V.str) (fun i xs H4 => Same H3 H4 ∧ xs = vint (((Tx.wordsT t).take i).map Tx.val)) ⟨Same.refl _, rfl⟩ (by rw [List.length_map]; exact Nat.le_of_lt (small1000 (by omega)))
      (fun i xs H4 z => ?_) (fun i xs H4 _ z => SqL.of (z.1 _ _ hpw2)) ?_ ?_
    · rw [z.2, ints_len, List.length_map, List.length_take]
      omega
    · rintro i x xs H4 hx ⟨z4, rfl⟩
      obtain ⟨wd, hw, rfl⟩ := at_ hx
      have hm := List.mem_of_getElem? hw
      have hwl' := hwl wd hm
      refine ⟨[some _], rfl, rfl, noTest ?_⟩
      refine ⟨_, rfl, wd, Tx.val wd, rfl, Tx.isNum_text (hall wd hm) (by omega), by omega, z4, ?_⟩
      rw [map_take_s Tx.val hw, ints_snoc]
    rintro xs H4 ⟨z4, rfl⟩ pn hpn
    rw [List.take_of_length_le (by rw [List.length_map]; exact Nat.le_refl _)]
    have u4 := same_upd hpn (.lst (vint (Tx.valsT t)))
    have s4 := s2.trans (z4.trans u4)
    have hpnH : H pn = none := (s2.trans z4).free hpn
    show tSeq _ _ _ _ (upd H4 pn (.lst (vint (Tx.valsT t))))
    have hpn4 : upd H4 pn (.lst (vint (Tx.valsT t))) pn = some (.lst (vint (Tx.valsT t))) := upd_same
    generalize upd H4 pn (.lst (vint (Tx.valsT t))) = H5 at s4 hpn4
    refine ⟨_, rfl, pn, Tx.valsT t, rfl, SqL.of hpn4, (by unfold Tx.valsT; rw [List.length_map]; omega), fun H6 s6 => ⟨_, rfl, ?_⟩⟩
    cases er : Sl.isRow (Tx.valsT t) with
    | false => exact iteT ⟨(by show 1 ≤ sizeLine; decide), q1 (Tx.none_row er) H6 (s4.trans s6)⟩
    | true => exact iteF ⟨_, rfl, q2 _ (Tx.some_of hall er) pn H6 ⟨s4.trans s6, hpnH, s6 _ _ hpn4⟩⟩
end
section
variable {P : Program} {w : World} {K : PySem.W.Frag} {mg : Str → Option Value} {base : Heap}
theorem pickV {xs : List V} {i : Int} (h0 : 0 ≤ i) (h1 : i < (xs.length : Int)) : ∃ v, atI xs i = some v ∧ v ∈ xs := by
  obtain ⟨n, rfl⟩ := Int.eq_ofNat_of_zero_le h0
  have hn : n < xs.length := by omega
  exact ⟨xs[n], atI_nat (List.getElem?_eq_getElem hn), List.getElem_mem hn⟩
theorem pickMod {xs : List V} (c : Int) {n : Int} (h : n = (xs.length : Int)) (h0 : 0 < n) : ∃ v, atI xs (c % n) = some v ∧ v ∈ xs := pickV (Int.emod_nonneg c (by omega)) (by have := Int.emod_lt_of_pos c h0; omega)
theorem pickI {ns : List Int} (c : Int) {n : Int} (h : n = (ns.length : Int)) (h0 : 0 < n) : ∃ m, atI (vint ns) (c % n) = some (.int m) ∧ m ∈ ns := by
  obtain ⟨v, hv, hm⟩ := pickMod (xs := vint ns) c (n := n) (by rw [ints_len]; exact h) h0
  obtain ⟨m, hm', rfl⟩ := List.mem_map.mp hm
  exact ⟨m, hv, hm'⟩
theorem pickT {xs : List Str} (c : Int) {n : Int} (h : n = (xs.length : Int)) (h0 : 0 < n) : ∃ x, atI (xs.map V.str) (c % n) = some (.str x) ∧ x ∈ xs := by
  obtain ⟨v, hv, hm⟩ := pickMod (xs := xs.map V.str) c (n := n) (by rw [List.length_map]; exact h) h0
  obtain ⟨m, hm', rfl⟩ := List.mem_map.mp hm
  exact ⟨m, hv, hm'⟩
theorem LL.pick {H : Hp} {p : Addr} {mss : List (List Int)} (h : LL H p mss) : ∃ as : List Addr, H p = some (.lst (as.map V.ref)) ∧ as.length = mss.length ∧ ∀ i : Int, 0 ≤ i → i < (mss.length : Int) → ∃ b ms, atI (as.map V.ref) i = some (.ref b) ∧ H b = some (.lst (vint ms)) ∧ ms ∈ mss := by
  obtain ⟨as, h1, h2, h3⟩ := h
  refine ⟨as, h2, h1, fun i h0 hi => ?_⟩
  obtain ⟨n, rfl⟩ := Int.eq_ofNat_of_zero_le h0
  have hn : n < mss.length := by omega
  have hn' : n < as.length := by omega
  exact ⟨as[n], mss[n], atI_nat (by rw [List.getElem?_map, List.getElem?_eq_getElem hn']; rfl), h3 n _ _ (List.getElem?_eq_getElem hn') (List.getElem?_eq_getElem hn), List.getElem_mem hn⟩
theorem ll_of {H : Hp} {p : Addr} {as : List Addr} {mss : List (List Int)} (hp : H p = some (.lst (as.map V.ref))) (h : Paired (fun a ms => H a = some (.lst (vint ms))) as mss) : LL H p mss := by
  refine ⟨as, Paired.length h, hp, ?_⟩
  clear hp
  induction h with
  | nil => intro j a ms e; cases e
  | cons r _ ih =>
    intro j a ms e1 e2
    cases j with
    | zero => cases e1; cases e2; exact r
    | succ j => exact ih j a ms e1 e2
theorem ll_two {H : Hp} {p a b : Addr} {m1 m2 : List Int} (hp : H p = some (.lst [.ref a, .ref b])) (h1 : H a = some (.lst (vint m1))) (h2 : H b = some (.lst (vint m2))) : LL H p [m1, m2] := ll_of (as := [a, b]) hp (.cons h1 (.cons h2 .nil))
theorem ll_three {H : Hp} {p a b c : Addr} {m1 m2 m3 : List Int} (hp : H p = some (.lst [.ref a, .ref b, .ref c])) (h1 : H a = some (.lst (vint m1))) (h2 : H b = some (.lst (vint m2))) (h3 : H c = some (.lst (vint m3))) : LL H p [m1, m2, m3] := ll_of (as := [a, b, c]) hp (.cons h1 (.cons h2 (.cons h3 .nil)))
def spByRule (K : PySem.W.Frag) (C1 C2 : Addr) : Sp := fun vs H _ E => ∃ way a ns y n, vs = [.int way, .ref a, .str y, .int n] ∧ SqL K H a (vint ns) ∧ ns.length ≤ 1000 ∧ Refused y ns C1 C2 H E
theorem sc_by_rule : FnScope ["way", "row", "rule", "number"] ["way", "row", "rule", "number"] (defScope s__law_by_rule) := ⟨rfl, rfl, rfl, by decide +kernel, rfl, by decide +kernel, by decide +kernel⟩
theorem ok_by_rule {C1 C2 C3 C4 C5 : Addr} (D : DefOf K mg "_law_by_rule" s__law_by_rule ["way", "row", "rule", "number"]) (c1 : CalleeX P w K mg base 5 "keeps" ["row", "rule"] (spKeepsR K C1 C2)) (c2 : CalleeX P w K mg base 4 "breach" ["row", "rule"] (spBreachT K C1 C2))
    (c3 : CalleeX P w K mg base 6 "grown" ["row", "rule", "more"] (spGrownR K C1 C2 C3 C4 C5)) (c4 : CalleeX P w K mg base 6 "fell" ["row", "rule", "number"] (spFellR K C1 C2 C3 C5)) : CalleeX P w K mg base 7 "_law_by_rule" ["way", "row", "rule", "number"] (spByRule K C1 C2) := by
  refine D.okX sc_by_rule (fun vs H Q E h => ?_) (fun f cdv A outer s H vs Q E hr h => ?_)
  · obtain ⟨way, a, ns, y, n, rfl, _⟩ := h
    rfl
  obtain ⟨way, a, ns, y, n, rfl, hS, hl, q⟩ := h
  refine ⟨_, pss_one (ps_if (pt_cmpR op_eq (pv 0) pe_int (nomark _)) (pss_one (ps_expr (pe_callX rto_cxOf c1 (hr.mono (by decide)) rfl (pa_cons (pv 1) (pa_cons (pv 2) pa_nil)))))
    (pss_one (ps_if (pt_cmpR op_eq (pv 0) pe_int (nomark _)) (pss_one (ps_expr (pe_callX rto_cxOf c2 (hr.mono (by decide)) rfl (pa_cons (pv 1) (pa_cons (pv 2) pa_nil)))))
    (pss_one (ps_if (pt_cmpR op_eq (pv 0) pe_int (nomark _)) (pss_one (ps_expr (pe_callX rto_cxOf c3 hr rfl (pa_cons (pv 1) (pa_cons (pv 2) (pa_cons (pv 3) pa_nil))))))
      (pss_one (ps_expr (pe_callX rto_cxOf c4 hr rfl (pa_cons (pv 1) (pa_cons (pv 2) (pa_cons (pv 3) pa_nil))))))))))), ?_⟩
  refine ⟨_, rfl, rfl, _, rfl, ite2 (fun _ => ?_) (fun _ => ?_)⟩
  · exact ⟨_, rfl, _, rfl, a, ns, y, rfl, hS, hl, q⟩
  refine ⟨_, rfl, rfl, _, rfl, ite2 (fun _ => ?_) (fun _ => ?_)⟩
  · exact ⟨_, rfl, _, rfl, q.breach hS hl⟩
  refine ⟨_, rfl, rfl, _, rfl, ite2 (fun _ => ?_) (fun _ => ?_)⟩
  · exact ⟨_, rfl, _, rfl, _, rfl, a, ns, y, n, rfl, hS, hl, .inl q⟩
  · exact ⟨_, rfl, _, rfl, _, rfl, a, ns, y, n, rfl, hS, hl, .inl q⟩
def spNo (C : Addr) : Sp := fun vs H _ E => ∃ cell r far, vs = [.int cell, .str (rstr r), .int far] ∧ 0 ≤ far ∧ ∀ H', Same H H' → E (.ref C) none H'
theorem not_row {ns : List Int} (h : (∃ n ∈ ns, n < 0 ∨ 1000000000000 < n) ∨ 20 < ns.length) : Sl.isRow ns = false := by
  rw [Bool.eq_false_iff]
  intro e
  obtain ⟨h1, h2, _⟩ := Sl.isRow_iff.mp e
  rcases h with ⟨n, hn, z⟩ | z
  · have := h2 n hn
    omega
  · omega
theorem sc_no_row : FnScope ["cell", "rule", "far", "bad", "way"] ["cell", "rule", "far"] (defScope s__law_no_row) := ⟨rfl, rfl, rfl, by decide +kernel, rfl, by decide +kernel, by decide +kernel⟩
theorem ok_no_row {C1 C2 C5 : Addr} (D : DefOf K mg "_law_no_row" s__law_no_row ["cell", "rule", "far"]) (c1 : CalleeX P w K mg base 7 "_law_by_rule" ["way", "row", "rule", "number"] (spByRule K C1 C2))
    (c2 : CalleeX P w K mg base 4 "moved" ["row", "by", "times"] (spMovedT K C2 C5)) (c3 : CalleeX P w K mg base 4 "differences" ["row"] (spDiffN K C2)) (c4 : CalleeX P w K mg base 4 "shown" ["row"] (spShownT K C2))
    (m1 : mg "list" = none) (m2 : mg "range" = none) : CalleeX P w K mg base 8 "_law_no_row" ["cell", "rule", "far"] (spNo C2) := by
  refine D.okX sc_no_row (fun vs H Q E h => ?_) (fun f cdv A outer s H vs Q E hr h => ?_)
  · obtain ⟨cell, r, far, rfl, _⟩ := h
    rfl
  obtain ⟨cell, r, far, rfl, h0, q⟩ := h
  have hr4 : Room 4 _ := hr.mono (by decide)
  refine QSs.ex (qss_cons (qs_setQ (i := 3) sc_no_row.nd rfl (Or.inl rfl) (qe_ix ix_list (qe_lst (qa_cons (qe_lstC (vs := vint [0, 0]) (by decide +kernel) (by decide +kernel)) (qa_cons (qe_lstC (vs := vint [3, 1]) (by decide +kernel) (by decide +kernel))
      (qa_cons (qe (pe_lst (pa_cons (pe_op op_sub (pe_un un_neg pe_int) (pv 2)) (pa_cons pe_int pa_nil)))) (qa_cons (qe (pe_lst (pa_cons pe_int (pa_cons (pe_op op_add (pe_op op_add (pe_op op_pow pe_int pe_int) pe_int) (pv 2)) pa_nil))))
      (qa_cons (qe (pe_callTy (call_list_rng rfl) rfl m1 PySem.Pv.boot_list (pa_cons (pe_callTy call_rangeV rfl m2 PyProof.Rows.boot_range (pa_cons pe_int pa_nil)) pa_nil)))
      (qa_cons (qe_lstC (vs := vint [1, 5, 5, 9]) (by decide +kernel) (by decide +kernel)) (qa_cons (qe_lstC (vs := vint [7, 8, 2]) (by decide +kernel) (by decide +kernel)) qa_nil)))))))) (pe_op op_mod (pv 0) pe_int) (fun _ _ => rfl)))
    (qss_cons (qs (ps_set (i := 4) sc_no_row.nd rfl (Or.inl rfl) (pe_op op_mod (pe_op op_fdiv (pv 0) pe_int) pe_int)))
    (qss_one (qs (ps_if (pt_cmpR op_lt (pv 4) pe_int (nomark _)) (pss_one (ps_expr (pe_callX rto_cxOf c1 hr rfl (pa_cons (pv 4) (pa_cons (pv 3) (pa_cons (pv 1) (pa_cons (pe_ix ix_list (pe_lst (pa_cons (pe_un un_neg pe_int) (pa_cons pe_int pa_nil))) (pe_op op_mod (pe_op op_fdiv (pv 0) pe_int) pe_int) (fun _ _ => rfl)) pa_nil)))))))
    (pss_one (ps_if (pt_cmpR op_eq (pv 4) pe_int (nomark _)) (pss_one (ps_expr (pe_callX rto_cxOf c2 hr4 rfl (pa_cons (pv 3) (pa_cons pe_int (pa_cons pe_int pa_nil))))))
    (pss_one (ps_if (pt_cmpR op_eq (pv 4) pe_int (nomark _)) (pss_one (ps_expr (pe_callX rto_cxOf c3 hr4 rfl (pa_cons (pv 3) pa_nil)))) (pss_one (ps_expr (pe_callX rto_cxOf c4 hr4 rfl (pa_cons (pv 3) pa_nil))))))))))))) ?_
  refine fun p1 h1 p2 h2 => ?_
  have s1 := same_upd h1 (.lst (vint [0, 0]))
  have s2 := same_upd h2 (.lst (vint [3, 1]))
  refine ⟨1, rfl, _, rfl, _, _, rfl, rfl, by show 2 ≤ sizeLine; decide, fun p3 h3 => ?_⟩
  have s3 := same_upd h3 (.lst (vint [-1 - far, 2]))
  refine ⟨_, _, rfl, rfl, ⟨by decide, by decide, by decide⟩, _, _, rfl, rfl, _, rfl, _, _, rfl, rfl, by show 2 ≤ sizeLine; decide, fun p4 h4 => ?_⟩
  have s4 := same_upd h4 (.lst (vint [1, 10 ^ 12 + 1 + far]))
  refine ⟨21, rfl, fun pr hpr => ⟨pr, 21, rfl, upd_same, by decide, fun p5 h5 => ?_⟩⟩
  have s5 := (same_upd hpr (.rng 0 21)).trans (same_upd h5 (.lst (vint ((List.range 21).map fun i => ((i : Nat) : Int)))))
  refine fun p6 h6 p7 h7 => ?_
  have s6 := same_upd h6 (.lst (vint [1, 5, 5, 9]))
  have s7 := same_upd h7 (.lst (vint [7, 8, 2]))
  refine ⟨by show 7 ≤ sizeLine; decide, fun d hd => ?_⟩
  have s8 := same_upd hd (.lst [.ref p1, .ref p2, .ref p3, .ref p4, .ref p5, .ref p6, .ref p7])
  have l8 := ll_of (as := [p1, p2, p3, p4, p5, p6, p7]) (mss := [[0, 0], [3, 1], [-1 - far, 2], [1, 10 ^ 12 + 1 + far], (List.range 21).map fun i => ((i : Nat) : Int), [1, 5, 5, 9], [7, 8, 2]]) upd_same
    (.cons ((s2.trans (s3.trans (s4.trans (s5.trans (s6.trans (s7.trans s8)))))) _ _ upd_same) (.cons ((s3.trans (s4.trans (s5.trans (s6.trans (s7.trans s8))))) _ _ upd_same) (.cons ((s4.trans (s5.trans (s6.trans (s7.trans s8)))) _ _ upd_same)
    (.cons ((s5.trans (s6.trans (s7.trans s8))) _ _ upd_same) (.cons ((s6.trans (s7.trans s8)) _ _ upd_same) (.cons ((s7.trans s8) _ _ upd_same) (.cons (s8 _ _ upd_same) .nil)))))))
  have sA := s1.trans (s2.trans (s3.trans (s4.trans (s5.trans (s6.trans (s7.trans s8))))))
  obtain ⟨as, hd', hal, hat⟩ := l8.pick
  obtain ⟨p, ns, hv, hp, hm⟩ := hat (cell % 7) (Int.emod_nonneg _ (by decide)) (Int.emod_lt_of_pos _ (by decide))
  have hp := SqL.of (K := K) hp
  have fact : Sl.isRow ns = false ∧ ns.length ≤ 1000 := by
    simp only [List.mem_cons, List.not_mem_nil, or_false] at hm
    rcases hm with z | z | z | z | z | z | z
    · subst z; exact ⟨by decide +kernel, by decide⟩
    · subst z; exact ⟨by decide +kernel, by decide⟩
    · subst z; exact ⟨not_row (.inl ⟨-1 - far, List.mem_cons_self, .inl (by omega)⟩), by show 2 ≤ 1000; decide⟩
    · subst z; exact ⟨not_row (.inl ⟨10 ^ 12 + 1 + far, List.mem_cons_of_mem _ List.mem_cons_self, .inr (by omega)⟩), by show 2 ≤ 1000; decide⟩
    · subst z; exact ⟨by decide +kernel, by decide⟩
    · subst z; exact ⟨by decide +kernel, by decide⟩
    · subst z; exact ⟨by decide +kernel, by decide⟩
  obtain ⟨nrow, hl⟩ := fact
  refine ⟨_, rfl, _, _, rfl, rfl, (by show (0 : Int) < 7; decide), d, _, _, _, rfl, rfl, SqL.of hd', hv, ?_⟩
  refine ⟨_, rfl, _, _, rfl, rfl, ⟨by decide, by decide⟩, _, _, rfl, rfl, (by show (0 : Int) < 7; decide), ?_⟩
  refine ⟨_, rfl, _, _, rfl, rfl, _, rfl, ite2 (fun _ => ?_) (fun _ => ?_)⟩
  · refine ⟨_, rfl, _, rfl, _, rfl, 1, rfl, (by show 2 ≤ sizeLine; decide), fun d2 hd2 => ?_⟩
    have s9 := same_upd hd2 (.lst (vint [-1, 99]))
    obtain ⟨n, hv2, _⟩ := pickI (ns := [-1, 99]) (cell / 49) (n := 2) rfl (by decide)
    refine ⟨_, rfl, _, _, rfl, rfl, ⟨by decide, by decide⟩, _, _, rfl, rfl, (by show (0 : Int) < 2; decide), d2, _, _, _, rfl, rfl, SqL.of upd_same, hv2, ?_⟩
    exact ⟨_, p, ns, rstr r, n, rfl, s9.seq hp, hl, .inr ⟨isRule_rstr r, nrow, fun H' z => q H' (sA.trans (s9.trans z))⟩⟩
  have no : ∀ {Z : Prop}, Sl.isRow ns = true → Z := fun z => by rw [nrow] at z; cases z
  refine ⟨_, rfl, rfl, _, rfl, ite2 (fun _ => ?_) (fun _ => ?_)⟩
  · exact ⟨_, rfl, p, ns, 0, 0, rfl, hp, hl, fun _ H' z => q H' (sA.trans z), fun z => no z, fun z => no z⟩
  refine ⟨_, rfl, rfl, _, rfl, ite2 (fun _ => ?_) (fun _ => ?_)⟩
  · exact ⟨_, rfl, p, ns, rfl, hp, hl, nrow, fun H' z => q H' (sA.trans z)⟩
  · exact ⟨_, rfl, p, ns, rfl, hp, hl, fun _ H' z => q H' (sA.trans z), fun z => no z⟩
theorem rstr_eq (r s : Sl.Rule) : decide (V.str (rstr r) = V.str (rstr s)) = decide (r = s) := by
  cases r <;> cases s <;> decide +kernel
theorem set_same {σ : St} {i : Nat} {x : Option V} (h : σ[i]? = some x) : σ.set i x = σ := by
  apply List.ext_getElem?
  intro j
  rw [List.getElem?_set]
  by_cases e : i = j
  · subst e
    have hi := (List.getElem?_eq_some_iff.mp h).1
    rw [if_pos rfl, if_pos hi, h]
  · rw [if_neg e]
def tRows (s : Sl.Rule) (nss : List (List Int)) : TS := fun D σ H => ∃ r p0 mss, σ[1]? = some (some (.str (rstr r))) ∧ σ[3]? = some (some (.ref p0)) ∧ LL H p0 mss ∧ ∀ pk H', Same H H' → LL H' pk (if r = s then nss else mss) → D.nx (σ.set 3 (some (.ref pk))) H'
def bRows : Sl.Rule → List (List Int)
  | .even => [[0, 5, 10], [1, 2, 3, 40]]
  | .sums => [[0, 1, 5, 6], [3, 4, 5]]
  | .parts => [[0], [2, 3, 4], [5, 7, 12]]
theorem bRows_ok (r : Sl.Rule) : ∀ ms ∈ bRows r, Sl.isRow ms = true ∧ Sl.Brk r ms ∧ ms.length ≤ 1000 := by cases r <;> decide +kernel
theorem bRows_len (r : Sl.Rule) : 0 < (bRows r).length := by cases r <;> decide
theorem sc_broken : FnScope ["cell", "rule", "far", "rows", "row"] ["cell", "rule", "far"] (defScope s__law_broken) := ⟨rfl, rfl, rfl, by decide +kernel, rfl, by decide +kernel, by decide +kernel⟩
theorem ok_broken {C1 C2 C3 C4 C5 : Addr} (D : DefOf K mg "_law_broken" s__law_broken ["cell", "rule", "far"])
    (c3 : CalleeX P w K mg base 6 "grown" ["row", "rule", "more"] (spGrownR K C1 C2 C3 C4 C5)) (c4 : CalleeX P w K mg base 6 "fell" ["row", "rule", "number"] (spFellR K C1 C2 C3 C5)) (m1 : mg "len" = none) : CalleeX P w K mg base 7 "_law_broken" ["cell", "rule", "far"] (spNo C3) := by
  refine D.okX sc_broken (fun vs H Q E h => ?_) (fun f cdv A outer s H vs Q E hr h => ?_)
  · obtain ⟨cell, r, far, rfl, _⟩ := h
    rfl
  obtain ⟨cell, r, far, rfl, h0, q⟩ := h
  refine QSs.ex (qss_cons (qs_setQ (i := 3) sc_broken.nd rfl (Or.inl rfl) (qe_lst (qa_cons (qe_lstC (vs := vint [0, 5, 10]) (by decide +kernel) (by decide +kernel)) (qa_cons (qe_lstC (vs := vint [1, 2, 3, 40]) (by decide +kernel) (by decide +kernel)) qa_nil))))
    (qss_cons (QS.imp (t' := tRows .sums (bRows .sums)) (qs_if (pt_cmpR op_eq (pv 1) pe_str (nomark _)) (qss_one (qs_setQ (i := 3) sc_broken.nd rfl (Or.inl rfl) (qe_lst (qa_cons (qe_lstC (vs := vint [0, 1, 5, 6]) (by decide +kernel) (by decide +kernel)) (qa_cons (qe_lstC (vs := vint [3, 4, 5]) (by decide +kernel) (by decide +kernel)) qa_nil))))) qss_nil) ?r1)
    (qss_cons (QS.imp (t' := tRows .parts (bRows .parts)) (qs_if (pt_cmpR op_eq (pv 1) pe_str (nomark _)) (qss_one (qs_setQ (i := 3) sc_broken.nd rfl (Or.inl rfl) (qe_lst (qa_cons (qe_lstC (vs := vint [0]) (by decide +kernel) (by decide +kernel)) (qa_cons (qe_lstC (vs := vint [2, 3, 4]) (by decide +kernel) (by decide +kernel)) (qa_cons (qe_lstC (vs := vint [5, 7, 12]) (by decide +kernel) (by decide +kernel)) qa_nil)))))) qss_nil) ?r2)
    (qss_cons (qs (ps_set (i := 4) sc_broken.nd rfl (Or.inl rfl) (pe_ix ix_list (pv 3) (pe_op op_mod (pe_op op_fdiv (pv 0) pe_int) (pe_callB call_len_seq rfl m1 PySem.boot_len (pa_cons (pv 3) pa_nil))) (fun _ _ => rfl))))
    (qss_one (qs (ps_if (pt_cmpR op_eq (pe_op op_mod (pv 0) pe_int) pe_int (nomark _))
      (pss_one (ps_expr (pe_callX rto_cxOf c3 hr rfl (pa_cons (pv 4) (pa_cons (pv 1) (pa_cons (pe_ix ix_list (pe_lst (pa_cons (pe_un un_neg pe_int) (pa_cons pe_int (pa_cons pe_int pa_nil)))) (pe_op op_mod (pe_op op_fdiv (pv 0) pe_int) pe_int) (fun _ _ => rfl)) pa_nil))))))
      (pss_one (ps_expr (pe_callX rto_cxOf c4 hr rfl (pa_cons (pv 4) (pa_cons (pv 1) (pa_cons (pe_ix ix_list (pe_lst (pa_cons (pe_op op_sub (pe_un un_neg pe_int) (pv 2)) (pa_cons (pe_op op_add (pe_op op_pow pe_int pe_int) pe_int) (pa_cons pe_int pa_nil)))) (pe_op op_mod (pe_op op_fdiv (pv 0) pe_int) pe_int) (fun _ _ => rfl)) pa_nil))))))))))))) ?_
  case r1 =>
    rintro D σ H' ⟨r, p0, mss, e1, e3, hp0, k⟩
    refine ⟨_, e1, rfl, _, rfl, ite2 (fun c => ?_) (fun c => ?_)⟩
    · have c' : r = .sums := of_decide_eq_true ((rstr_eq r .sums).symm.trans c)
      refine fun a1 h1 a2 h2 => ⟨(by show 2 ≤ sizeLine; decide), fun pk hpk => ?_⟩
      have s1 := same_upd h1 (.lst (vint [0, 1, 5, 6]))
      have s2 := same_upd h2 (.lst (vint [3, 4, 5]))
      have s3 := same_upd hpk (.lst [.ref a1, .ref a2])
      refine k pk _ (s1.trans (s2.trans s3)) ?_
      rw [if_pos c']
      exact ll_two upd_same ((s2.trans s3) _ _ upd_same) (s3 _ _ upd_same)
    · have c' : ¬ r = .sums := fun z => c ((rstr_eq r .sums).trans (decide_eq_true z))
      have := k p0 H' (Same.refl _) (by rw [if_neg c']; exact hp0)
      rw [set_same e3] at this
      exact this
  case r2 =>
    rintro D σ H' ⟨r, p0, mss, e1, e3, hp0, k⟩
    refine ⟨_, e1, rfl, _, rfl, ite2 (fun c => ?_) (fun c => ?_)⟩
    · have c' : r = .parts := of_decide_eq_true ((rstr_eq r .parts).symm.trans c)
      refine fun a1 h1 a2 h2 a3 h3 => ⟨(by show 3 ≤ sizeLine; decide), fun pk hpk => ?_⟩
      have s1 := same_upd h1 (.lst (vint [0]))
      have s2 := same_upd h2 (.lst (vint [2, 3, 4]))
      have s3 := same_upd h3 (.lst (vint [5, 7, 12]))
      have s4 := same_upd hpk (.lst [.ref a1, .ref a2, .ref a3])
      refine k pk _ (s1.trans (s2.trans (s3.trans s4))) ?_
      rw [if_pos c']
      exact ll_three upd_same ((s2.trans (s3.trans s4)) _ _ upd_same) ((s3.trans s4) _ _ upd_same) (s4 _ _ upd_same)
    · have c' : ¬ r = .parts := fun z => c ((rstr_eq r .parts).trans (decide_eq_true z))
      have := k p0 H' (Same.refl _) (by rw [if_neg c']; exact hp0)
      rw [set_same e3] at this
      exact this
  refine fun a1 h1 a2 h2 => ⟨(by show 2 ≤ sizeLine; decide), fun pe hpe => ?_⟩
  have s1 := same_upd h1 (.lst (vint [0, 5, 10]))
  have s2 := same_upd h2 (.lst (vint [1, 2, 3, 40]))
  have s3 := same_upd hpe (.lst [.ref a1, .ref a2])
  refine ⟨r, pe, [[0, 5, 10], [1, 2, 3, 40]], rfl, rfl, ll_two upd_same ((s2.trans s3) _ _ upd_same) (s3 _ _ upd_same), fun pk1 H4 s4 l4 => ?_⟩
  refine ⟨r, pk1, _, rfl, rfl, l4, fun pk H5 s5 l5 => ?_⟩
  have ek : (if r = .parts then bRows .parts else if r = .sums then bRows .sums else [[0, 5, 10], [1, 2, 3, 40]]) = bRows r := by cases r <;> rfl
  rw [ek] at l5
  have sA := s1.trans (s2.trans (s3.trans (s4.trans s5)))
  obtain ⟨as, hpk, hal, hat⟩ := l5.pick
  have hlen := bRows_len r
  obtain ⟨b, ms, hb, hms, hmem⟩ := hat (cell / 2 % (((bRows r).length : Nat) : Int)) (Int.emod_nonneg _ (by omega)) (Int.emod_lt_of_pos _ (by omega))
  obtain ⟨hrow, hbrk, hl⟩ := bRows_ok r ms hmem
  refine ⟨_, rfl, _, rfl, _, _, rfl, rfl, ⟨by decide, by decide⟩, _, rfl, pk, _, rfl, .inl (SqL.of hpk), _, _, rfl, rfl, (by rw [List.length_map, hal]; omega), ?_⟩
  rw [List.length_map, hal]
  refine ⟨pk, _, _, _, rfl, rfl, SqL.of hpk, hb, ?_⟩
  refine ⟨_, rfl, _, _, rfl, rfl, (by show (0 : Int) < 2; decide), rfl, _, rfl, ite2 (fun _ => ?_) (fun _ => ?_)⟩
  · refine ⟨_, rfl, _, rfl, 1, rfl, (by show 3 ≤ sizeLine; decide), fun d2 hd2 => ?_⟩
    have s9 := same_upd hd2 (.lst (vint [-1, 99, 1]))
    obtain ⟨n, hv2, _⟩ := pickI (ns := [-1, 99, 1]) (cell / 6) (n := 3) rfl (by decide)
    refine ⟨_, rfl, _, _, rfl, rfl, ⟨by decide, by decide⟩, _, _, rfl, rfl, (by show (0 : Int) < 3; decide), d2, _, _, _, rfl, rfl, SqL.of upd_same, hv2, ?_⟩
    exact ⟨b, ms, rstr r, n, rfl, SqL.of (s9 _ _ hms), hl, .inr ⟨r, rfl, hrow, .inl ⟨hbrk, fun H' z => q H' (sA.trans (s9.trans z))⟩⟩⟩
  · refine ⟨_, rfl, _, rfl, 1, rfl, _, rfl, _, _, rfl, rfl, _, _, rfl, rfl, ⟨by decide, by decide, by decide⟩, _, _, rfl, rfl, (by show 3 ≤ sizeLine; decide), fun d2 hd2 => ?_⟩
    have s9 := same_upd hd2 (.lst (vint [-1 - far, 10 ^ 12 + 1, 7]))
    obtain ⟨n, hv2, _⟩ := pickI (ns := [-1 - far, 10 ^ 12 + 1, 7]) (cell / 6) (n := 3) rfl (by decide)
    refine ⟨_, rfl, _, _, rfl, rfl, ⟨by decide, by decide⟩, _, _, rfl, rfl, (by show (0 : Int) < 3; decide), d2, _, _, _, rfl, rfl, SqL.of upd_same, hv2, ?_⟩
    exact ⟨b, ms, rstr r, n, rfl, SqL.of (s9 _ _ hms), hl, .inr ⟨r, rfl, hrow, .inl ⟨hbrk, fun H' z => q H' (sA.trans (s9.trans z))⟩⟩⟩
theorem sc_no_size : FnScope ["cell", "rule", "far", "way", "row"] ["cell", "rule", "far"] (defScope s__law_no_size) := ⟨rfl, rfl, rfl, by decide +kernel, rfl, by decide +kernel, by decide +kernel⟩
theorem small_rows (r : Sl.Rule) : ∀ ms ∈ ([[], [1], [1, 4, 10]] : List (List Int)), Sl.isRow ms = true ∧ ¬ Sl.Brk r ms ∧ ms.length ≤ 3 := by cases r <;> decide +kernel
theorem ok_no_size {C1 C2 C3 C4 C5 : Addr} (D : DefOf K mg "_law_no_size" s__law_no_size ["cell", "rule", "far"]) (c3 : CalleeX P w K mg base 6 "grown" ["row", "rule", "more"] (spGrownR K C1 C2 C3 C4 C5))
    (c5 : CalleeX P w K mg base 2 "most" ["rule", "bound"] (spMostN C1 C4)) (c6 : CalleeX P w K mg base 1 "shortest" ["marks"] (spShortN C4)) (m1 : mg "len" = none) (m2 : mg "list" = none) : CalleeX P w K mg base 7 "_law_no_size" ["cell", "rule", "far"] (spNo C4) := by
  refine D.okX sc_no_size (fun vs H Q E h => ?_) (fun f cdv A outer s H vs Q E hr h => ?_)
  · obtain ⟨cell, r, far, rfl, _⟩ := h
    rfl
  obtain ⟨cell, r, far, rfl, h0, q⟩ := h
  refine ⟨_, pss_cons (ps_set (i := 3) sc_no_size.nd rfl (Or.inl rfl) (pe_op op_mod (pv 0) pe_int))
    (pss_one (ps_if (pt_cmpR op_eq (pv 3) pe_int (nomark _))
      (pss_cons (ps_set (i := 4) sc_no_size.nd rfl (Or.inl rfl) (pe_ix ix_list (pe_lst (pa_cons (pe_lst pa_nil) (pa_cons (pe_lst (pa_cons pe_int pa_nil)) (pa_cons (pe_callTy call_list_of rfl m2 PySem.Pv.boot_list (pa_cons (pe_lst (pa_cons pe_int (pa_cons pe_int (pa_cons pe_int pa_nil)))) pa_nil)) pa_nil)))) (pe_op op_mod (pe_op op_fdiv (pv 0) pe_int) pe_int) (fun _ _ => rfl)))
      (pss_one (ps_expr (pe_callX rto_cxOf c3 hr rfl (pa_cons (pv 4) (pa_cons (pv 1) (pa_cons (pe_ix ix_list (pe_lst (pa_cons (pe_op op_sub (pe_un un_neg pe_int) (pv 2)) (pa_cons (pe_op op_sub pe_int (pe_callB call_len_seq rfl m1 PySem.boot_len (pa_cons (pv 4) pa_nil))) (pa_cons (pe_op op_add pe_int (pv 2)) (pa_cons (pe_un un_neg pe_int) pa_nil))))) (pe_op op_mod (pe_op op_fdiv (pv 0) pe_int) pe_int) (fun _ _ => rfl)) pa_nil)))))))
    (pss_one (ps_if (pt_cmpR op_eq (pv 3) pe_int (nomark _))
      (pss_one (ps_expr (pe_callX rto_cxOf c5 (hr.mono (by decide)) rfl (pa_cons (pv 1) (pa_cons (pe_ix ix_list (pe_lst (pa_cons pe_int (pa_cons pe_int (pa_cons (pe_un un_neg (pv 2)) (pa_cons (pe_op op_add pe_int (pv 2)) pa_nil))))) (pe_op op_mod (pe_op op_fdiv (pv 0) pe_int) pe_int) (fun _ _ => rfl)) pa_nil)))))
      (pss_one (ps_expr (pe_callX rto_cxOf c6 (hr.mono (by decide)) rfl (pa_cons (pe_ix ix_list (pe_lst (pa_cons pe_int (pa_cons pe_int (pa_cons (pe_un un_neg (pv 2)) (pa_cons (pe_op op_add pe_int (pv 2)) pa_nil))))) (pe_op op_mod (pe_op op_fdiv (pv 0) pe_int) pe_int) (fun _ _ => rfl)) pa_nil)))))))), ?_⟩
  refine ⟨_, rfl, _, _, rfl, rfl, (by show (0 : Int) < 3; decide), ?_⟩
  refine ⟨_, rfl, rfl, _, rfl, ite2 (fun _ => ?_) (fun _ => ?_)⟩
  · refine ⟨(by show 0 ≤ sizeLine; decide), fun a1 h1 => ⟨(by show 1 ≤ sizeLine; decide), fun a2 h2 => ⟨(by show 3 ≤ sizeLine; decide), fun a0 g0 => ?_⟩⟩⟩
    have s1 := same_upd h1 (.lst (vint []))
    have s2 := same_upd h2 (.lst (vint [1]))
    have s0 := same_upd g0 (.lst (vint [1, 4, 10]))
    refine ⟨a0, _, rfl, .inl (SqL.of upd_same), fun a3 h3 => ⟨(by show 3 ≤ sizeLine; decide), fun pk hpk => ?_⟩⟩
    have s3 := same_upd h3 (.lst (vint [1, 4, 10]))
    have s4 := same_upd hpk (.lst [.ref a1, .ref a2, .ref a3])
    have sA := s1.trans (s2.trans (s0.trans (s3.trans s4)))
    have l5 := ll_three (H := upd _ pk (.lst [.ref a1, .ref a2, .ref a3])) (m1 := []) (m2 := [1]) (m3 := [1, 4, 10]) upd_same ((s2.trans (s0.trans (s3.trans s4))) _ _ upd_same) ((s0.trans (s3.trans s4)) _ _ upd_same) (s4 _ _ upd_same)
    obtain ⟨as, hpk', hal, hat⟩ := l5.pick
    obtain ⟨b, ms, hb, hms, hmem⟩ := hat (cell / 3 % 3) (Int.emod_nonneg _ (by decide)) (Int.emod_lt_of_pos _ (by decide))
    obtain ⟨hrow, hnb, hl⟩ := small_rows r ms hmem
    refine ⟨_, rfl, _, _, rfl, rfl, ⟨by decide, by decide⟩, _, _, rfl, rfl, (by show (0 : Int) < 3; decide), pk, _, _, _, rfl, rfl, SqL.of hpk', hb, ?_⟩
    refine ⟨_, rfl, _, rfl, 1, rfl, _, rfl, _, _, rfl, rfl, _, rfl, b, _, rfl, .inl (SqL.of hms), _, _, rfl, rfl, _, rfl, _, _, rfl, rfl, 1, rfl, (by show 4 ≤ sizeLine; decide), fun d2 hd2 => ?_⟩
    rw [ints_len]
    have s9 := same_upd hd2 (.lst (vint [-1 - far, 21 - ((ms.length : Nat) : Int), 21 + far, -1]))
    obtain ⟨n, hv2, hn⟩ := pickI (ns := [-1 - far, 21 - ((ms.length : Nat) : Int), 21 + far, -1]) (cell / 9) (n := 4) rfl (by decide)
    refine ⟨_, rfl, _, _, rfl, rfl, ⟨by decide, by decide⟩, _, _, rfl, rfl, (by show (0 : Int) < 4; decide), d2, _, _, _, rfl, rfl, SqL.of upd_same, hv2, ?_⟩
    refine ⟨b, ms, rstr r, n, rfl, SqL.of (s9 _ _ hms), by omega, .inr ⟨r, rfl, hrow, .inr (.inl ⟨hnb, ?_, fun H' z => q H' (sA.trans (s9.trans z))⟩)⟩⟩
    simp only [List.mem_cons, List.not_mem_nil, or_false] at hn
    omega
  refine ⟨_, rfl, rfl, _, rfl, ite2 (fun _ => ?_) (fun _ => ?_)⟩
  · refine ⟨_, rfl, _, rfl, far, rfl, _, rfl, _, _, rfl, rfl, (by show 4 ≤ sizeLine; decide), fun d2 hd2 => ?_⟩
    have s9 := same_upd hd2 (.lst (vint [0, 21, -far, 21 + far]))
    obtain ⟨n, hv2, hn⟩ := pickI (ns := [0, 21, -far, 21 + far]) (cell / 3) (n := 4) rfl (by decide)
    refine ⟨_, rfl, _, _, rfl, rfl, ⟨by decide, by decide⟩, _, _, rfl, rfl, (by show (0 : Int) < 4; decide), d2, _, _, _, rfl, rfl, SqL.of upd_same, hv2, ?_⟩
    simp only [List.mem_cons, List.not_mem_nil, or_false] at hn
    exact ⟨rstr r, n, rfl, (fun z => by rw [isRule_rstr] at z; cases z), fun _ => ⟨by omega, q _ s9⟩⟩
  · refine ⟨_, rfl, far, rfl, _, rfl, _, _, rfl, rfl, (by show 4 ≤ sizeLine; decide), fun d2 hd2 => ?_⟩
    have s9 := same_upd hd2 (.lst (vint [0, 7, -far, 7 + far]))
    obtain ⟨n, hv2, hn⟩ := pickI (ns := [0, 7, -far, 7 + far]) (cell / 3) (n := 4) rfl (by decide)
    refine ⟨_, rfl, _, _, rfl, rfl, ⟨by decide, by decide⟩, _, _, rfl, rfl, (by show (0 : Int) < 4; decide), d2, _, _, _, rfl, rfl, SqL.of upd_same, hv2, ?_⟩
    simp only [List.mem_cons, List.not_mem_nil, or_false] at hn
    exact ⟨n, rfl, by omega, q _ s9⟩
theorem sc_no_number : FnScope ["cell", "rule", "far", "way"] ["cell", "rule", "far"] (defScope s__law_no_number) := ⟨rfl, rfl, rfl, by decide +kernel, rfl, by decide +kernel, by decide +kernel⟩
theorem one_row (r : Sl.Rule) : Sl.isRow [1] = true ∧ ¬ Sl.Brk r [1] := by cases r <;> decide +kernel
theorem far_rows (r : Sl.Rule) : ∀ ms ∈ ([[1000000000000], [1, 999999999999]] : List (List Int)), Sl.isRow ms = true ∧ ¬ Sl.Brk r ms ∧ ms.length ≤ 2 ∧ 1000000000000 ≤ Sl.start ms := by cases r <;> decide +kernel
theorem far_next {r : Sl.Rule} {ms : List Int} (hrow : Sl.isRow ms = true) (nb : ¬ Sl.Brk r ms) (hl : ms.length ≤ 2) (hs : 1000000000000 ≤ Sl.start ms) : 1000000000000 < Sl.nxt r (Sl.grow r ms 1) := by
  have kp := kept_of_row hrow nb
  have n1 := (Sl.nxt_spec kp (by omega)).1
  have e : Sl.grow r ms 1 = ms ++ [Sl.nxt r ms] := rfl
  have kp1 := Sl.grow_kept kp 1 (by omega)
  have n2 := (Sl.nxt_spec kp1 (by rw [Sl.grow_len]; omega)).1
  have e2 : Sl.start (Sl.grow r ms 1) = Sl.nxt r ms + 1 := by rw [e]; exact Sl.start_snoc _ _
  omega
theorem img_out {ns : List Int} {b t : Int} (h : ∃ n ∈ ns, n * t + b < 0 ∨ 1000000000000 < n * t + b) : (img ns b t).all Sl.inB = false := by
  obtain ⟨n, hn, z⟩ := h
  rw [Bool.eq_false_iff]
  intro e
  have := List.all_eq_true.mp e (n * t + b) (List.mem_map.mpr ⟨n, hn, rfl⟩)
  unfold Sl.inB at this
  rw [Bool.and_eq_true, decide_eq_true_eq, decide_eq_true_eq] at this
  omega
theorem out_b {n : Int} (h : n < 0 ∨ 1000000000000 < n) : Sl.inB n = false := by
  rw [Bool.eq_false_iff]
  intro e
  unfold Sl.inB at e
  rw [Bool.and_eq_true, decide_eq_true_eq, decide_eq_true_eq] at e
  omega
theorem ok_no_number {C1 C2 C3 C4 C5 : Addr} (D : DefOf K mg "_law_no_number" s__law_no_number ["cell", "rule", "far"]) (c3 : CalleeX P w K mg base 6 "grown" ["row", "rule", "more"] (spGrownR K C1 C2 C3 C4 C5))
    (c4 : CalleeX P w K mg base 6 "fell" ["row", "rule", "number"] (spFellR K C1 C2 C3 C5)) (c2 : CalleeX P w K mg base 4 "moved" ["row", "by", "times"] (spMovedT K C2 C5)) : CalleeX P w K mg base 7 "_law_no_number" ["cell", "rule", "far"] (spNo C5) := by
  refine D.okX sc_no_number (fun vs H Q E h => ?_) (fun f cdv A outer s H vs Q E hr h => ?_)
  · obtain ⟨cell, r, far, rfl, _⟩ := h
    rfl
  obtain ⟨cell, r, far, rfl, h0, q⟩ := h
  have hr4 : Room 4 _ := hr.mono (by decide)
  refine ⟨_, pss_cons (ps_set (i := 3) sc_no_number.nd rfl (Or.inl rfl) (pe_op op_mod (pv 0) pe_int))
    (pss_one (ps_if (pt_cmpR op_eq (pv 3) pe_int (nomark _))
      (pss_one (ps_expr (pe_callX rto_cxOf c4 hr rfl (pa_cons (pe_lst (pa_cons pe_int pa_nil)) (pa_cons (pv 1) (pa_cons (pe_ix ix_list (pe_lst (pa_cons (pe_un un_neg pe_int) (pa_cons (pe_op op_add (pe_op op_pow pe_int pe_int) pe_int) (pa_cons (pe_op op_sub (pe_un un_neg pe_int) (pv 2)) (pa_cons (pe_op op_add (pe_op op_add (pe_op op_pow pe_int pe_int) pe_int) (pv 2)) pa_nil))))) (pe_op op_mod (pe_op op_fdiv (pv 0) pe_int) pe_int) (fun _ _ => rfl)) pa_nil))))))
    (pss_one (ps_if (pt_cmpR op_eq (pv 3) pe_int (nomark _))
      (pss_one (ps_expr (pe_callX rto_cxOf c3 hr rfl (pa_cons (pe_ix ix_list (pe_lst (pa_cons (pe_lst (pa_cons (pe_op op_pow pe_int pe_int) pa_nil)) (pa_cons (pe_lst (pa_cons pe_int (pa_cons (pe_op op_sub (pe_op op_pow pe_int pe_int) pe_int) pa_nil))) pa_nil))) (pe_op op_mod (pe_op op_fdiv (pv 0) pe_int) pe_int) (fun _ _ => rfl)) (pa_cons (pv 1) (pa_cons pe_int pa_nil))))))
    (pss_one (ps_if (pt_cmpR op_eq (pv 3) pe_int (nomark _))
      (pss_one (ps_expr (pe_callX rto_cxOf c2 hr4 rfl (pa_cons (pe_lst (pa_cons pe_int (pa_cons pe_int pa_nil))) (pa_cons (pe_ix ix_list (pe_lst (pa_cons pe_int (pa_cons pe_int pa_nil))) (pe_op op_mod (pe_op op_fdiv (pv 0) pe_int) pe_int) (fun _ _ => rfl)) (pa_cons (pe_ix ix_list (pe_lst (pa_cons pe_int (pa_cons (pe_op op_sub (pe_un un_neg pe_int) (pv 2)) pa_nil))) (pe_op op_mod (pe_op op_fdiv (pv 0) pe_int) pe_int) (fun _ _ => rfl)) pa_nil))))))
      (pss_one (ps_expr (pe_callX rto_cxOf c2 hr4 rfl (pa_cons (pe_lst (pa_cons pe_int (pa_cons (pe_op op_pow pe_int pe_int) pa_nil))) (pa_cons (pe_ix ix_list (pe_lst (pa_cons pe_int (pa_cons (pe_un un_neg pe_int) (pa_cons (pe_op op_sub (pe_un un_neg pe_int) (pv 2)) (pa_cons (pe_op op_add pe_int (pv 2)) pa_nil))))) (pe_op op_mod (pe_op op_fdiv (pv 0) pe_int) pe_int) (fun _ _ => rfl)) (pa_cons pe_int pa_nil)))))))))))), ?_⟩
  refine ⟨_, rfl, _, _, rfl, rfl, (by show (0 : Int) < 4; decide), ?_⟩
  refine ⟨_, rfl, rfl, _, rfl, ite2 (fun _ => ?_) (fun _ => ?_)⟩
  · refine ⟨(by show 1 ≤ sizeLine; decide), fun a1 h1 => ?_⟩
    have s1 := same_upd h1 (.lst (vint [1]))
    refine ⟨_, rfl, 1, rfl, _, _, rfl, rfl, ⟨by decide, by decide, by decide⟩, _, _, rfl, rfl, 1, rfl, _, rfl, _, _, rfl, rfl, _, _, rfl, rfl, ⟨by decide, by decide, by decide⟩, _, _, rfl, rfl, _, rfl, _, _, rfl, rfl, (by show 4 ≤ sizeLine; decide), fun d2 hd2 => ?_⟩
    have s9 := same_upd hd2 (.lst (vint [-1, 10 ^ 12 + 1, -1 - far, 10 ^ 12 + 1 + far]))
    obtain ⟨n, hv2, hn⟩ := pickI (ns := [-1, 10 ^ 12 + 1, -1 - far, 10 ^ 12 + 1 + far]) (cell / 4) (n := 4) rfl (by decide)
    refine ⟨_, rfl, _, _, rfl, rfl, ⟨by decide, by decide⟩, _, _, rfl, rfl, (by show (0 : Int) < 4; decide), d2, _, _, _, rfl, rfl, SqL.of upd_same, hv2, ?_⟩
    simp only [List.mem_cons, List.not_mem_nil, or_false] at hn
    exact ⟨a1, [1], rstr r, n, rfl, SqL.of (s9 _ _ upd_same), by decide, .inr ⟨r, rfl, (one_row r).1, .inr ⟨(one_row r).2, out_b (by omega), fun H' z => q H' (s1.trans (s9.trans z))⟩⟩⟩
  refine ⟨_, rfl, rfl, _, rfl, ite2 (fun _ => ?_) (fun _ => ?_)⟩
  · refine ⟨_, _, rfl, rfl, ⟨by decide, by decide, by decide⟩, (by show 1 ≤ sizeLine; decide), fun a1 h1 => ⟨_, _, rfl, rfl, ⟨by decide, by decide, by decide⟩, _, _, rfl, rfl, (by show 2 ≤ sizeLine; decide), fun a2 h2 => ⟨(by show 2 ≤ sizeLine; decide), fun pk hpk => ?_⟩⟩⟩
    have s1 := same_upd h1 (.lst (vint [1000000000000]))
    have s2 := same_upd h2 (.lst (vint [1, 999999999999]))
    have s3 := same_upd hpk (.lst [.ref a1, .ref a2])
    have sA := s1.trans (s2.trans s3)
    have l5 := ll_two (H := upd (upd (upd H a1 (.lst (vint [1000000000000]))) a2 (.lst (vint [1, 999999999999]))) pk (.lst [.ref a1, .ref a2])) (m1 := [1000000000000]) (m2 := [1, 999999999999]) upd_same ((s2.trans s3) _ _ upd_same) (s3 _ _ upd_same)
    obtain ⟨as, hpk', hal, hat⟩ := l5.pick
    obtain ⟨b, ms, hb, hms, hmem⟩ := hat (cell / 4 % 2) (Int.emod_nonneg _ (by decide)) (Int.emod_lt_of_pos _ (by decide))
    obtain ⟨hrow, hnb, hl, hst⟩ := far_rows r ms hmem
    refine ⟨_, rfl, _, _, rfl, rfl, ⟨by decide, by decide⟩, _, _, rfl, rfl, (by show (0 : Int) < 2; decide), pk, _, _, _, rfl, rfl, SqL.of hpk', hb, ?_⟩
    exact ⟨_, rfl, b, ms, rstr r, 3, rfl, SqL.of hms, by omega, .inr ⟨r, rfl, hrow, .inr (.inr ⟨hnb, 3, 1, rfl, by omega, by decide, far_next hrow hnb hl hst, fun H' z => q H' (sA.trans z)⟩)⟩⟩
  refine ⟨_, rfl, rfl, _, rfl, ite2 (fun _ => ?_) (fun _ => ?_)⟩
  · refine ⟨(by show 2 ≤ sizeLine; decide), fun a1 h1 => ⟨(by show 2 ≤ sizeLine; decide), fun d1 hd1 => ?_⟩⟩
    have s1 := same_upd h1 (.lst (vint [1, 2]))
    have s2 := same_upd hd1 (.lst (vint [0, 5]))
    obtain ⟨b, hvb, _⟩ := pickI (ns := [0, 5]) (cell / 4) (n := 2) rfl (by decide)
    refine ⟨_, rfl, _, _, rfl, rfl, ⟨by decide, by decide⟩, _, _, rfl, rfl, (by show (0 : Int) < 2; decide), d1, _, _, _, rfl, rfl, SqL.of upd_same, hvb, ?_⟩
    refine ⟨1, rfl, _, rfl, _, _, rfl, rfl, (by show 2 ≤ sizeLine; decide), fun d2 hd2 => ?_⟩
    have s9 := same_upd hd2 (.lst (vint [0, -1 - far]))
    obtain ⟨n, hv2, hn⟩ := pickI (ns := [0, -1 - far]) (cell / 8) (n := 2) rfl (by decide)
    refine ⟨_, rfl, _, _, rfl, rfl, ⟨by decide, by decide⟩, _, _, rfl, rfl, (by show (0 : Int) < 2; decide), d2, _, _, _, rfl, rfl, SqL.of upd_same, hv2, ?_⟩
    simp only [List.mem_cons, List.not_mem_nil, or_false] at hn
    exact ⟨a1, [1, 2], b, n, rfl, SqL.of ((s2.trans s9) _ _ upd_same), by decide, (fun z => absurd z (by decide +kernel)), fun _ _ H' z => q H' (s1.trans (s2.trans (s9.trans z))), fun _ h1 => by omega⟩
  · refine ⟨_, _, rfl, rfl, ⟨by decide, by decide, by decide⟩, (by show 2 ≤ sizeLine; decide), fun a1 h1 => ?_⟩
    have s1 := same_upd h1 (.lst (vint [3, 1000000000000]))
    refine ⟨4, rfl, 4, rfl, _, rfl, _, _, rfl, rfl, _, rfl, _, _, rfl, rfl, (by show 4 ≤ sizeLine; decide), fun d2 hd2 => ?_⟩
    have s9 := same_upd hd2 (.lst (vint [1, -4, -4 - far, 1 + far]))
    obtain ⟨b, hv2, hn⟩ := pickI (ns := [1, -4, -4 - far, 1 + far]) (cell / 4) (n := 4) rfl (by decide)
    refine ⟨_, rfl, _, _, rfl, rfl, ⟨by decide, by decide⟩, _, _, rfl, rfl, (by show (0 : Int) < 4; decide), d2, _, _, _, rfl, rfl, SqL.of upd_same, hv2, ?_⟩
    simp only [List.mem_cons, List.not_mem_nil, or_false] at hn
    have out : (img [3, 1000000000000] b 1).all Sl.inB = false := by
      by_cases hb : b < 0
      · exact img_out ⟨3, List.mem_cons_self, .inl (by omega)⟩
      · exact img_out ⟨1000000000000, List.mem_cons_of_mem _ List.mem_cons_self, .inr (by omega)⟩
    exact ⟨a1, [3, 1000000000000], b, 1, rfl, SqL.of (s9 _ _ upd_same), by decide, (fun z => absurd z (by decide +kernel)), fun _ _ H' z => q H' (s1.trans (s9.trans z)), fun _ _ h2 => by rw [out] at h2; cases h2⟩
def clOf (C1 C2 C3 C4 C5 C6 : Addr) : Nat → Addr
  | 0 => C1
  | 1 => C2
  | 2 => C3
  | 3 => C4
  | 4 => C5
  | _ => C6
def spDone (cl : Nat → Addr) : Sp := fun vs H _ E => ∃ (way : Nat) (cell : Int) (r : Sl.Rule) (far : Int), vs = [.int (way : Int), .int cell, .str (rstr r), .int far] ∧ way < 6 ∧ 0 ≤ far ∧ ∀ H', Same H H' → E (.ref (cl way)) none H'
abbrev badT : List Str := [" ", "1 1", "2 1", "01", "a", "1  2", "-1"]
theorem badT_read : ∀ x ∈ badT, Tx.readT x = none ∧ x.length ≤ 640 := by decide +kernel
abbrev badR4 : List Str := ["odd", "", "Even", "sum"]
abbrev badR5 : List Str := ["odd", "", "Even", "sums ", "part"]
instance (y : Str) : Decidable (RuleText y) := by unfold RuleText; exact inferInstance
theorem badR4_ok : ∀ x ∈ badR4, isRule x = false ∧ RuleText x := by decide +kernel
theorem badR5_ok : ∀ x ∈ badR5, isRule x = false ∧ RuleText x := by decide +kernel
theorem sc_done : FnScope ["way", "cell", "rule", "far"] ["way", "cell", "rule", "far"] (defScope s__law_done) := ⟨rfl, rfl, rfl, by decide +kernel, rfl, by decide +kernel, by decide +kernel⟩
theorem ok_done {C1 C2 C3 C4 C5 C6 : Addr} (D : DefOf K mg "_law_done" s__law_done ["way", "cell", "rule", "far"]) (c0 : CalleeX P w K mg base 2 "most" ["rule", "bound"] (spMostN C1 C4)) (c1 : CalleeX P w K mg base 7 "_law_by_rule" ["way", "row", "rule", "number"] (spByRule K C1 C2))
    (c2 : CalleeX P w K mg base 8 "_law_no_row" ["cell", "rule", "far"] (spNo C2)) (c3 : CalleeX P w K mg base 7 "_law_broken" ["cell", "rule", "far"] (spNo C3)) (c4 : CalleeX P w K mg base 7 "_law_no_size" ["cell", "rule", "far"] (spNo C4)) (c5 : CalleeX P w K mg base 7 "_law_no_number" ["cell", "rule", "far"] (spNo C5)) (c6 : CalleeX P w K mg base 3 "read" ["text"] (spReadT C6)) :
    CalleeX P w K mg base 9 "_law_done" ["way", "cell", "rule", "far"] (spDone (clOf C1 C2 C3 C4 C5 C6)) := by
  refine D.okX sc_done (fun vs H Q E h => ?_) (fun f cdv A outer s H vs Q E hr h => ?_)
  · obtain ⟨way, cell, r, far, rfl, _⟩ := h
    rfl
  obtain ⟨way, cell, r, far, rfl, hw, h0, q⟩ := h
  have hr25 : Room 2 _ := hr.mono (by decide)
  have hr8 : Room 8 _ := hr
  have hr7 : Room 7 _ := hr.mono (by decide)
  have hr3 : Room 3 _ := hr.mono (by decide)
  refine ⟨_, pss_one (ps_if (PW.pt (pw_and (pt_cmpR op_eq (pv 0) pe_int (nomark _)) (pw_and1 (pt_cmpR op_eq (pe_op op_mod (pe_op op_fdiv (pv 1) pe_int) pe_int) pe_int (nomark _)))))
      (pss_one (ps_expr (pe_callX rto_cxOf c0 hr25 rfl (pa_cons (pe_ix ix_list (pe_lst (pa_cons pe_str (pa_cons pe_str (pa_cons pe_str (pa_cons pe_str pa_nil))))) (pe_op op_mod (pv 1) pe_int) (fun _ _ => rfl)) (pa_cons pe_int pa_nil)))))
    (pss_one (ps_if (pt_cmpR op_eq (pv 0) pe_int (nomark _))
      (pss_one (ps_expr (pe_callX rto_cxOf c1 hr7 rfl (pa_cons (pe_op op_mod (pe_op op_fdiv (pv 1) pe_int) pe_int) (pa_cons (pe_lst (pa_cons pe_int (pa_cons pe_int pa_nil))) (pa_cons (pe_ix ix_list (pe_lst (pa_cons pe_str (pa_cons pe_str (pa_cons pe_str (pa_cons pe_str (pa_cons pe_str pa_nil)))))) (pe_op op_mod (pv 1) pe_int) (fun _ _ => rfl)) (pa_cons (pe_un un_neg pe_int) pa_nil)))))))
    (pss_one (ps_if (pt_cmpR op_eq (pv 0) pe_int (nomark _))
      (pss_one (ps_expr (pe_callX rto_cxOf c2 hr8 rfl (pa_cons (pv 1) (pa_cons (pv 2) (pa_cons (pv 3) pa_nil))))))
    (pss_one (ps_if (pt_cmpR op_eq (pv 0) pe_int (nomark _))
      (pss_one (ps_expr (pe_callX rto_cxOf c3 hr7 rfl (pa_cons (pv 1) (pa_cons (pv 2) (pa_cons (pv 3) pa_nil))))))
    (pss_one (ps_if (pt_cmpR op_eq (pv 0) pe_int (nomark _))
      (pss_one (ps_expr (pe_callX rto_cxOf c4 hr7 rfl (pa_cons (pv 1) (pa_cons (pv 2) (pa_cons (pv 3) pa_nil))))))
    (pss_one (ps_if (pt_cmpR op_eq (pv 0) pe_int (nomark _))
      (pss_one (ps_expr (pe_callX rto_cxOf c5 hr7 rfl (pa_cons (pv 1) (pa_cons (pv 2) (pa_cons (pv 3) pa_nil))))))
      (pss_one (ps_expr (pe_callX rto_cxOf c6 hr3 rfl (pa_cons (pe_ix ix_list (pe_lst (pa_cons pe_str (pa_cons pe_str (pa_cons pe_str (pa_cons pe_str (pa_cons pe_str (pa_cons pe_str (pa_cons pe_str pa_nil)))))))) (pe_op op_mod (pv 1) pe_int) (fun _ _ => rfl)) pa_nil))))))))))))))), ?_⟩
  have skip : ∀ {x : Int} {A B : Prop}, ((way : Nat) : Int) ≠ x → B → if decide (V.int ((way : Nat) : Int) = V.int x) = true then A else B := fun hx hB => iteN (fun z => hx (V.int.inj (of_decide_eq_true z))) hB
  have take : ∀ {x : Int} {A B : Prop}, ((way : Nat) : Int) = x → A → if decide (V.int ((way : Nat) : Int) = V.int x) = true then A else B := fun hx hA => iteY (decide_eq_true (by rw [hx])) hA
  by_cases w0 : way = 0
  · have q0 : ∀ H', Same H H' → E (.ref C1) none H' := fun H' z => by
      have := q H' z
      rw [w0] at this
      exact this
    refine ⟨_, rfl, rfl, _, rfl, take (by omega) ?_⟩
    refine ⟨_, rfl, _, _, rfl, rfl, ⟨by decide, by decide⟩, _, _, rfl, rfl, (by show (0 : Int) < 5; decide), rfl, _, rfl, ite2 (fun _ => ?_) (fun _ => ?_)⟩
    · refine ⟨(by show 4 ≤ sizeLine; decide), fun d1 hd1 => ?_⟩
      have s1 := same_upd hd1 (.lst (badR4.map V.str))
      obtain ⟨x, hv, hx⟩ := pickT (xs := badR4) cell (n := 4) rfl (by decide)
      obtain ⟨x1, x2⟩ := badR4_ok x hx
      refine ⟨_, rfl, _, _, rfl, rfl, (by show (0 : Int) < 4; decide), d1, _, _, _, rfl, rfl, SqL.of upd_same, hv, ?_⟩
      exact ⟨x, 0, rfl, fun _ => ⟨x2, q0 _ s1⟩, fun z => by rw [x1] at z; cases z⟩
    · refine ⟨_, rfl, rfl, _, rfl, take (by omega) ?_⟩
      refine ⟨_, rfl, _, _, rfl, rfl, ⟨by decide, by decide⟩, _, _, rfl, rfl, (by show (0 : Int) < 5; decide), (by show 2 ≤ sizeLine; decide), fun a1 h1 => ⟨(by show 5 ≤ sizeLine; decide), fun d1 hd1 => ?_⟩⟩
      have s0 := same_upd h1 (.lst (vint [3, 1]))
      have s1 := same_upd hd1 (.lst (badR5.map V.str))
      obtain ⟨x, hv, hx⟩ := pickT (xs := badR5) cell (n := 5) rfl (by decide)
      obtain ⟨x1, x2⟩ := badR5_ok x hx
      refine ⟨_, rfl, _, _, rfl, rfl, (by show (0 : Int) < 5; decide), d1, _, _, _, rfl, rfl, SqL.of upd_same, hv, ?_⟩
      exact ⟨1, rfl, _, a1, [3, 1], x, -1, rfl, SqL.of (s1 _ _ upd_same), by decide, .inl ⟨x1, x2, q0 _ (s0.trans s1)⟩⟩
  refine ⟨_, rfl, rfl, _, rfl, skip (by omega) (iteN (by decide) ?_)⟩
  refine ⟨_, rfl, rfl, _, rfl, skip (by omega) ?_⟩
  by_cases w1 : way = 1
  · refine ⟨_, rfl, rfl, _, rfl, take (by omega) ⟨_, rfl, _, rfl, _, rfl, cell, r, far, rfl, h0, fun H' z => ?_⟩⟩
    have := q H' z
    rw [w1] at this
    exact this
  refine ⟨_, rfl, rfl, _, rfl, skip (by omega) ?_⟩
  by_cases w2 : way = 2
  · refine ⟨_, rfl, rfl, _, rfl, take (by omega) ⟨_, rfl, _, rfl, _, rfl, cell, r, far, rfl, h0, fun H' z => ?_⟩⟩
    have := q H' z
    rw [w2] at this
    exact this
  refine ⟨_, rfl, rfl, _, rfl, skip (by omega) ?_⟩
  by_cases w3 : way = 3
  · refine ⟨_, rfl, rfl, _, rfl, take (by omega) ⟨_, rfl, _, rfl, _, rfl, cell, r, far, rfl, h0, fun H' z => ?_⟩⟩
    have := q H' z
    rw [w3] at this
    exact this
  refine ⟨_, rfl, rfl, _, rfl, skip (by omega) ?_⟩
  by_cases w4 : way = 4
  · refine ⟨_, rfl, rfl, _, rfl, take (by omega) ⟨_, rfl, _, rfl, _, rfl, cell, r, far, rfl, h0, fun H' z => ?_⟩⟩
    have := q H' z
    rw [w4] at this
    exact this
  refine ⟨_, rfl, rfl, _, rfl, skip (by omega) ?_⟩
  have w5 : way = 5 := by omega
  refine ⟨(by show 7 ≤ sizeLine; decide), fun d1 hd1 => ?_⟩
  have s1 := same_upd hd1 (.lst (badT.map V.str))
  obtain ⟨x, hv, hx⟩ := pickT (xs := badT) cell (n := 7) rfl (by decide)
  obtain ⟨x1, x2⟩ := badT_read x hx
  refine ⟨_, rfl, _, _, rfl, rfl, (by show (0 : Int) < 7; decide), d1, _, _, _, rfl, rfl, SqL.of upd_same, hv, ?_⟩
  refine ⟨x, rfl, x2, fun _ H' z => ?_, fun ns es => by rw [x1] at es; cases es⟩
  have := q H' (s1.trans z)
  rw [w5] at this
  exact this
structure WhichIs (K : PySem.W.Frag) (C1 C2 C3 C4 C5 C6 C : Addr) (bs : List Bool) : Prop where
  ask : ExcAsk K C
  k1 : PySem.W.kitOne K (.ref C) (.ref C1) = some (bs.getD 0 false)
  k2 : PySem.W.kitOne K (.ref C) (.ref C2) = some (bs.getD 1 false)
  k3 : PySem.W.kitOne K (.ref C) (.ref C3) = some (bs.getD 2 false)
  k4 : PySem.W.kitOne K (.ref C) (.ref C4) = some (bs.getD 3 false)
  k5 : PySem.W.kitOne K (.ref C) (.ref C5) = some (bs.getD 4 false)
  k6 : PySem.W.kitOne K (.ref C) (.ref C6) = some (bs.getD 5 false)
  kV : PySem.W.kitOne K (.ref C) (.type "ValueError") = some true
def spWhich (K : PySem.W.Frag) (C1 C2 C3 C4 C5 C6 : Addr) : Sp := fun vs H Q _ => ∃ ea C bs, vs = [.ref ea] ∧ H ea = some (ExcO (.ref C) ea) ∧ WhichIs K C1 C2 C3 C4 C5 C6 C bs ∧
  ∀ p H', Same H H' → H' p = some (.lst ([bs.getD 0 false, bs.getD 1 false, bs.getD 2 false, bs.getD 3 false, bs.getD 4 false, bs.getD 5 false, true].map V.bl)) → Q (.ref p) H'
theorem sc_which : FnScope ["e", "told"] ["e"] (defScope s__law_which) := ⟨rfl, rfl, rfl, by decide +kernel, rfl, by decide +kernel, by decide +kernel⟩
theorem ok_which {C1 C2 C3 C4 C5 C6 : Addr} (D : DefOf K mg "_law_which" s__law_which ["e"]) (e1 : mg "NoRule" = some (.ref C1)) (e2 : mg "NoRow" = some (.ref C2)) (e3 : mg "Broken" = some (.ref C3)) (e4 : mg "NoSize" = some (.ref C4)) (e5 : mg "NoNumber" = some (.ref C5)) (e6 : mg "NotRead" = some (.ref C6))
    (m3 : mg "isinstance" = none) (m4 : mg "ValueError" = none) : CalleeM P w K mg base 1 "_law_which" ["e"] (spWhich K C1 C2 C3 C4 C5 C6) := by
  refine D.okM sc_which (fun vs H Q E h => ?_) (fun f cdv A outer s H vs Q ev hr h => ?_)
  · obtain ⟨ea, C, bs, rfl, _⟩ := h
    rfl
  obtain ⟨ea, C, bs, rfl, he, W, q⟩ := h
  refine ⟨_, pss_cons (ps_set (i := 1) sc_which.nd rfl (Or.inl rfl) (pe_lst (pa_cons (pe_callB (isexcRK (K := K) rfl) rfl m3 PyProof.Rows.boot_isinstance (pa_cons (pv 0) (pa_cons (pe_gref rfl e1) pa_nil))) (pa_cons (pe_callB (isexcRK (K := K) rfl) rfl m3 PyProof.Rows.boot_isinstance (pa_cons (pv 0) (pa_cons (pe_gref rfl e2) pa_nil)))
      (pa_cons (pe_callB (isexcRK (K := K) rfl) rfl m3 PyProof.Rows.boot_isinstance (pa_cons (pv 0) (pa_cons (pe_gref rfl e3) pa_nil))) (pa_cons (pe_callB (isexcRK (K := K) rfl) rfl m3 PyProof.Rows.boot_isinstance (pa_cons (pv 0) (pa_cons (pe_gref rfl e4) pa_nil))) pa_nil))))))
    (pss_one (ps_ret (pe_op op_cat (pv 1) (pe_lst (pa_cons (pe_callB (isexcRK (K := K) rfl) rfl m3 PyProof.Rows.boot_isinstance (pa_cons (pv 0) (pa_cons (pe_gref rfl e5) pa_nil))) (pa_cons (pe_callB (isexcRK (K := K) rfl) rfl m3 PyProof.Rows.boot_isinstance (pa_cons (pv 0) (pa_cons (pe_gref rfl e6) pa_nil)))
      (pa_cons (pe_callB (isexcTK (K := K) rfl) rfl m3 PyProof.Rows.boot_isinstance (pa_cons (pv 0) (pa_cons (pe_bty rfl m4 boot_verr) pa_nil))) pa_nil))))))), ?_⟩
  refine ⟨_, rfl, ea, C, C1, _, rfl, he, W.ask, W.k1, ?_⟩
  refine ⟨_, rfl, ea, C, C2, _, rfl, he, W.ask, W.k2, ?_⟩
  refine ⟨_, rfl, ea, C, C3, _, rfl, he, W.ask, W.k3, ?_⟩
  refine ⟨_, rfl, ea, C, C4, _, rfl, he, W.ask, W.k4, ?_⟩
  refine ⟨(by show 4 ≤ sizeLine; decide), fun p1 h1 => ?_⟩
  have s1 := same_upd h1 (.lst [.bl (bs.getD 0 false), .bl (bs.getD 1 false), .bl (bs.getD 2 false), .bl (bs.getD 3 false)])
  have he1 := s1 _ _ he
  refine ⟨_, rfl, _, rfl, ea, C, C5, _, rfl, he1, W.ask, W.k5, ?_⟩
  refine ⟨_, rfl, ea, C, C6, _, rfl, he1, W.ask, W.k6, ?_⟩
  refine ⟨_, rfl, ea, C, "ValueError", _, rfl, he1, W.ask, W.kV, ?_⟩
  refine ⟨(by show 3 ≤ sizeLine; decide), fun p2 h2 => ?_⟩
  have s2 := same_upd h2 (.lst [.bl (bs.getD 4 false), .bl (bs.getD 5 false), .bl true])
  refine ⟨p1, p2, _, _, rfl, rfl, s2 _ _ upd_same, upd_same, (by show 7 ≤ sizeLine; decide), fun p3 h3 => ?_⟩
  exact q p3 _ (s1.trans (s2.trans (same_upd h3 _))) upd_same
end
section
variable {P : Program} {w : World} {K : PySem.W.Frag} {mg : Str → Option Value} {base : Heap}
def spLaw (K : PySem.W.Frag) : Sp := fun vs H Q _ => ∃ (a : Addr) (ns : List Int), vs = [.ref a] ∧ SqL K H a (vint ns) ∧ ns.length ≤ 63 ∧ ∀ H', Q (.bl true) H'
abbrev NL : List Str := ["script", "way", "far", "rule", "told", "e"]
theorem sc_law : FnScope NL ["script"] (defScope s_law) := ⟨rfl, rfl, rfl, by decide +kernel, rfl, by decide +kernel, by decide +kernel⟩
theorem three_str (k : Int) (h0 : 0 ≤ k) (h3 : k < 3) : ∃ r, atI [V.str (rstr .even), V.str (rstr .sums), V.str (rstr .parts)] k = some (.str (rstr r)) := by
  obtain ⟨n, rfl⟩ := Int.eq_ofNat_of_zero_le h0
  have hn : n < 3 := by omega
  match n, hn with
  | 0, _ => exact ⟨.even, rfl⟩
  | 1, _ => exact ⟨.sums, rfl⟩
  | 2, _ => exact ⟨.parts, rfl⟩
def due (way : Nat) (n : Nat) : List Bool := (List.range n).map fun (k : Nat) => decide ((k : Int) = (way : Int)) || decide ((k : Int) = 6)
theorem boolData {H : Hp} {p : Addr} {bs : List Bool} (h : H p = some (.lst (bs.map V.bl))) : DataV H (.ref p) (.list (bs.map PyData.bool)) := by
  refine .lst h (by rw [List.length_map, List.length_map]) fun i v d e1 e2 => ?_
  rw [List.getElem?_map] at e1 e2
  cases hb : bs[i]? with
  | none => rw [hb] at e1; cases e1
  | some b =>
    rw [hb] at e1 e2
    cases e1
    cases e2
    exact .bl b
def tTold (K : PySem.W.Frag) (a : Addr) (ns : List Int) (cl : Nat → Addr) : TS := fun D σ H => ∃ (way : Nat) (far : Int) (r : Sl.Rule) (v4 v5 : Option V), σ = [some (.ref a), some (.int (way : Int)), some (.int far), some (.str (rstr r)), v4, v5] ∧ way < 6 ∧ 0 ≤ far ∧ SqL K H a (vint ns) ∧
  ∀ p H', Same H H' → H' p = some (.lst ((due way 7).map V.bl)) → D.nx [some (.ref a), some (.int (way : Int)), some (.int far), some (.str (rstr r)), some (.ref p), none] H'
theorem ok_law {f : Addr} {fd : FuncData} {C1 C2 C3 C4 C5 C6 CS : Addr} (F : Fun K "law" "law" s_law f fd) (c1 : Callee P w K mg base 1 "_law_cell_at" ["script", "k"] (spCell K)) (c2 : CalleeX P w K mg base 9 "_law_done" ["way", "cell", "rule", "far"] (spDone (clOf C1 C2 C3 C4 C5 C6)))
    (c3 : CalleeM P w K mg base 1 "_law_which" ["e"] (spWhich K C1 C2 C3 C4 C5 C6)) (eS : mg "SlideError" = some (.ref CS)) (x1 : ∀ i, i < 6 → PySem.W.exmOne K (.ref (clOf C1 C2 C3 C4 C5 C6 i)) (.ref CS) = some true)
    (WI : ∀ i, i < 6 → WhichIs K C1 C2 C3 C4 C5 C6 (clOf C1 C2 C3 C4 C5 C6 i) (due i 7)) (m1 : mg "range" = none) : FnOk P w K mg base CX0 10 f fd ["script"] (spLaw K) := by
  refine F.ok sc_law (fun vs H Q E h => ?_) (fun cdv A outer s H vs Q E hr h => ?_)
  · obtain ⟨a, ns, rfl, _⟩ := h
    rfl
  obtain ⟨a, ns, rfl, hS, hlen, q⟩ := h
  have hr1 : Room 1 _ := hr.mono (by decide)
  refine ⟨_, pss_cons (ps_set (i := 1) sc_law.nd rfl (Or.inr rfl) (pe_op op_mod (pe_callD c1 hr1 rfl (pa_cons (pv 0) (pa_cons pe_int pa_nil))) pe_int))
    (pss_cons (ps_set (i := 2) sc_law.nd rfl (Or.inl rfl) (pe_op op_mod (pe_callD c1 hr1 rfl (pa_cons (pv 0) (pa_cons pe_int pa_nil))) (pe_op op_pow pe_int pe_int)))
    (pss_cons (ps_set (i := 3) sc_law.nd rfl (Or.inl rfl) (pe_ix ix_list (pe_lst (pa_cons pe_str (pa_cons pe_str (pa_cons pe_str pa_nil)))) (pe_op op_mod (pe_callD c1 hr1 rfl (pa_cons (pv 0) (pa_cons pe_int pa_nil))) pe_int) (fun _ _ => rfl)))
    (pss_cons (ps_set (i := 4) sc_law.nd rfl (Or.inl rfl) (pe_lst pa_nil))
    (pss_cons (PS.imp (t' := tTold K a ns (clOf C1 C2 C3 C4 C5 C6)) (ps_try (i := 5) rfl rfl rfl (psx_expr (pex_call c2 hr rfl (fun _ => pa_cons (pv 1) (pa_cons (pe_callD c1 hr1 rfl (pa_cons (pv 0) (pa_cons pe_int pa_nil))) (pa_cons (pv 3) (pa_cons (pv 2) pa_nil)))))) rfl eS sc_law.nd rfl rfl
        (fun _ => pss_one (ps_set (i := 4) sc_law.nd rfl (Or.inl rfl) (pe_callM c3 hr1 rfl (pa_cons (pv 5) pa_nil))))) ?tried)
    (pss_one (ps_ret (pe_cmpR (op_eqD hr.u64) (pv 4) (pe_comp (own := ["k"]) (N' := NL) (comp_scope (defScope s_law) NL rfl rfl (by decide +kernel)) rfl (pi_range1 rfl m1 (pa_cons pe_int pa_nil)) (fun _ _ _ _ => pg_own (i := 0) NL (by decide +kernel) rfl rfl) (fun _ _ _ _ => pf_nil)
        (fun _ _ _ _ => pe_or (pe_cmpR op_eq (pv 0) (pv 2) (nomark _)) (pe_one (pe_cmpR op_eq (pv 0) pe_int (nomark _))))) (nomark _)))))))), ?_⟩
  case tried =>
    rintro D σ H1 ⟨way, far, r, v4, v5, rfl, hw, h0, hS1, k⟩
    refine ⟨_, rfl, _, rfl, a, ns, 1, rfl, hS1, _, rfl, _, rfl, way, ns.getD 1 0, r, far, rfl, hw, h0, fun H2 s2 => ?_⟩
    refine ⟨x1 way hw, fun ea hea => ?_⟩
    have se := same_upd hea (ExcO (.ref (clOf C1 C2 C3 C4 C5 C6 way)) ea)
    refine ⟨_, rfl, ea, _, due way 7, rfl, upd_same, WI way hw, fun p H3 s3 hp => ?_⟩
    refine k p H3 (s2.trans (se.trans s3)) ?_
    rw [hp]
    match way, hw with
    | 0, _ => rfl
    | 1, _ => rfl
    | 2, _ => rfl
    | 3, _ => rfl
    | 4, _ => rfl
    | 5, _ => rfl
  refine ⟨_, rfl, a, ns, 0, rfl, hS, _, _, rfl, rfl, (by show (0 : Int) < 6; decide), ?_⟩
  obtain ⟨way, ew, hw⟩ : ∃ way : Nat, ns.getD 0 0 % 6 = (way : Int) ∧ way < 6 := by
    have h1 := Int.emod_nonneg (ns.getD 0 0) (show (6 : Int) ≠ 0 by decide)
    have h2 := Int.emod_lt_of_pos (ns.getD 0 0) (show (0 : Int) < 6 by decide)
    exact ⟨(ns.getD 0 0 % 6).toNat, by omega, by omega⟩
  dsimp only
  rw [ew]
  refine ⟨_, rfl, a, ns, 2, rfl, hS, _, _, rfl, rfl, ⟨by decide, by decide, by decide⟩, _, _, rfl, rfl, (by show (0 : Int) < 10 ^ 59; decide), ?_⟩
  have hf : 0 ≤ ns.getD 2 0 % (10 : Int) ^ Int.toNat 59 := Int.emod_nonneg _ (by decide)
  refine ⟨(by show 3 ≤ sizeLine; decide), fun p0 hp0 => ?_⟩
  have s0 := same_upd hp0 (.lst [V.str (rstr .even), V.str (rstr .sums), V.str (rstr .parts)])
  obtain ⟨r, hr'⟩ := three_str (ns.getD 3 0 % 3) (Int.emod_nonneg _ (by decide)) (Int.emod_lt_of_pos _ (by decide))
  refine ⟨_, rfl, a, ns, 3, rfl, s0.seq hS, _, _, rfl, rfl, (by show (0 : Int) < 3; decide), p0, _, _, _, rfl, rfl, SqL.of upd_same, hr', ?_⟩
  refine ⟨(by show 0 ≤ sizeLine; decide), fun p1 hp1 => ?_⟩
  have s1 := same_upd hp1 (.lst [])
  refine ⟨way, _, r, _, _, rfl, hw, hf, (s0.trans s1).seq hS, fun pt H2 s2 hpt => ?_⟩
  refine ⟨_, rfl, 7, rfl, by decide, by decide, ?_⟩
  refine comp_range (lo := 0) (n := (7 : Int).toNat) (fun i xs H3 => H3 = H2 ∧ xs = (due way i).map V.bl) ⟨rfl, rfl⟩ (by decide) (fun i xs H3 z => by unfold due at z; rw [z.2, List.length_map, List.length_map, List.length_range]; exact Nat.le_refl _) ?_ ?_
  · rintro i xs H3 hi ⟨rfl, rfl⟩
    have e0 : (0 : Int) + (i : Int) = ((i : Nat) : Int) := by omega
    rw [e0]
    have ed : due way (i + 1) = due way i ++ [decide ((i : Int) = (way : Int)) || decide ((i : Int) = 6)] := by
      unfold due
      rw [List.range_succ, List.map_append]
      rfl
    refine ⟨[some _], rfl, rfl, noTest ?_⟩
    refine ⟨_, rfl, _, rfl, rfl, _, rfl, ite2 (fun c => ?_) (fun c => ?_)⟩
    · have c' : decide ((i : Int) = (way : Int)) = true := decide_eq_true (V.int.inj (of_decide_eq_true c))
      refine ⟨rfl, ?_⟩
      rw [ed, c', List.map_append]
      rfl
    · have c' : decide ((i : Int) = (way : Int)) = false := decide_eq_false fun z => c (decide_eq_true (by rw [z]))
      refine ⟨_, rfl, rfl, rfl, ?_⟩
      have e6 : decide (V.int (i : Int) = V.int 6) = decide ((i : Int) = 6) := decide_eq_decide.mpr ⟨V.int.inj, fun z => by rw [z]⟩
      rw [ed, c', e6, List.map_append]
      rfl
  rintro xs H3 ⟨rfl, rfl⟩ c0 hc0
  have u3 := same_upd hc0 (.lst ((due way 7).map V.bl))
  refine ⟨_, _, boolData (u3 _ _ hpt), boolData (bs := due way 7) upd_same, ?_, ?_, ?_, ?_⟩
  all_goals
    match way, hw with
    | 0, _ => first | rfl | exact q _
    | 1, _ => first | rfl | exact q _
    | 2, _ => first | rfl | exact q _
    | 3, _ => first | rfl | exact q _
    | 4, _ => first | rfl | exact q _
    | 5, _ => first | rfl | exact q _
end
theorem all_mk {l : PySem.W.OpenLaw} {w : World} {K : PySem.W.Frag} {h : Heap} {mg : Str → Option Value} {fa : Addr} (X : K.In h) (G : h.Ns mainGlobals mg) (hfa : mg "law" = some (.ref fa))
    {od0 an0 : Option Addr} {sl0 : Array (Option Value)} {oc0 kV0 dc0 pm0 cd0 ct0 : Value} {f0 : Addr}
    {od1 an1 : Option Addr} {sl1 : Array (Option Value)} {oc1 kV1 dc1 pm1 cd1 ct1 : Value} {f1 : Addr}
    {od2 an2 : Option Addr} {sl2 : Array (Option Value)} {oc2 kV2 dc2 pm2 cd2 ct2 : Value} {f2 : Addr}
    {od3 an3 : Option Addr} {sl3 : Array (Option Value)} {oc3 kV3 dc3 pm3 cd3 ct3 : Value} {f3 : Addr}
    {od4 an4 : Option Addr} {sl4 : Array (Option Value)} {oc4 kV4 dc4 pm4 cd4 ct4 : Value} {f4 : Addr}
    {od5 an5 : Option Addr} {sl5 : Array (Option Value)} {oc5 kV5 dc5 pm5 cd5 ct5 : Value} {f5 : Addr}
    {od6 an6 : Option Addr} {sl6 : Array (Option Value)} {oc6 kV6 dc6 pm6 cd6 ct6 : Value} {f6 : Addr}
    {od7 an7 : Option Addr} {sl7 : Array (Option Value)} {oc7 kV7 dc7 pm7 cd7 ct7 : Value} {f7 : Addr}
    {od8 an8 : Option Addr} {sl8 : Array (Option Value)} {oc8 kV8 dc8 pm8 cd8 ct8 : Value} {f8 : Addr}
    {od9 an9 : Option Addr} {sl9 : Array (Option Value)} {oc9 kV9 dc9 pm9 cd9 ct9 : Value} {f9 : Addr}
    {od10 an10 : Option Addr} {sl10 : Array (Option Value)} {oc10 kV10 dc10 pm10 cd10 ct10 : Value} {f10 : Addr}
    {od11 an11 : Option Addr} {sl11 : Array (Option Value)} {oc11 kV11 dc11 pm11 cd11 ct11 : Value} {f11 : Addr}
    {od12 an12 : Option Addr} {sl12 : Array (Option Value)} {oc12 kV12 dc12 pm12 cd12 ct12 : Value} {f12 : Addr}
    {od13 an13 : Option Addr} {sl13 : Array (Option Value)} {oc13 kV13 dc13 pm13 cd13 ct13 : Value} {f13 : Addr}
    {od14 an14 : Option Addr} {sl14 : Array (Option Value)} {oc14 kV14 dc14 pm14 cd14 ct14 : Value} {f14 : Addr}
    {od15 an15 : Option Addr} {sl15 : Array (Option Value)} {oc15 kV15 dc15 pm15 cd15 ct15 : Value} {f15 : Addr}
    {od16 an16 : Option Addr} {sl16 : Array (Option Value)} {oc16 kV16 dc16 pm16 cd16 ct16 : Value} {f16 : Addr}
    {od17 an17 : Option Addr} {sl17 : Array (Option Value)} {oc17 kV17 dc17 pm17 cd17 ct17 : Value} {f17 : Addr}
    {od18 an18 : Option Addr} {sl18 : Array (Option Value)} {oc18 kV18 dc18 pm18 cd18 ct18 : Value} {f18 : Addr}
    {od19 an19 : Option Addr} {sl19 : Array (Option Value)} {oc19 kV19 dc19 pm19 cd19 ct19 : Value} {f19 : Addr}
    {od20 an20 : Option Addr} {sl20 : Array (Option Value)} {oc20 kV20 dc20 pm20 cd20 ct20 : Value} {f20 : Addr}
    {od21 an21 : Option Addr} {sl21 : Array (Option Value)} {oc21 kV21 dc21 pm21 cd21 ct21 : Value} {f21 : Addr}
    {od22 an22 : Option Addr} {sl22 : Array (Option Value)} {oc22 kV22 dc22 pm22 cd22 ct22 : Value} {f22 : Addr}
    {od23 an23 : Option Addr} {sl23 : Array (Option Value)} {oc23 kV23 dc23 pm23 cd23 ct23 : Value} {f23 : Addr}
    {od24 an24 : Option Addr} {sl24 : Array (Option Value)} {oc24 kV24 dc24 pm24 cd24 ct24 : Value} {f24 : Addr}
    {od25 an25 : Option Addr} {sl25 : Array (Option Value)} {oc25 kV25 dc25 pm25 cd25 ct25 : Value} {f25 : Addr}
    {od26 an26 : Option Addr} {sl26 : Array (Option Value)} {oc26 kV26 dc26 pm26 cd26 ct26 : Value} {f26 : Addr}
    {od27 an27 : Option Addr} {sl27 : Array (Option Value)} {oc27 kV27 dc27 pm27 cd27 ct27 : Value} {f27 : Addr}
    {od28 an28 : Option Addr} {sl28 : Array (Option Value)} {oc28 kV28 dc28 pm28 cd28 ct28 : Value} {f28 : Addr}
    {od29 an29 : Option Addr} {sl29 : Array (Option Value)} {oc29 kV29 dc29 pm29 cd29 ct29 : Value} {f29 : Addr}
    {od30 an30 : Option Addr} {sl30 : Array (Option Value)} {oc30 kV30 dc30 pm30 cd30 ct30 : Value} {f30 : Addr} {t_MOST_NUMBERS : Tok} {t_GREATEST : Tok} {t_GREATEST_BOUND : Tok} {t_MOST_MARKS : Tok} {t_FIGURES : Tok} {r_RULES : Addr} {od_RULES : Option Addr} {n_RULES : Nat} {sl_RULES : Array (Option Value)} {t_RULES0 t_RULES1 t_RULES2 : Tok} {C_SlideError : Addr} {cd_SlideError : ClassData} {C_NoRule : Addr} {cd_NoRule : ClassData} {C_NoRow : Addr} {cd_NoRow : ClassData} {C_Broken : Addr} {cd_Broken : ClassData} {C_NoSize : Addr} {cd_NoSize : ClassData} {C_NoNumber : Addr} {cd_NoNumber : ClassData} {C_NotRead : Addr} {cd_NotRead : ClassData}
    (a0 : PySem.W.nsIn K mainGlobals "is_row" = some (some (.ref f0)))
    (l0 : K.lookup f0 = some ⟨oc0, od0, .func (PySem.W.fnOf "is_row" "is_row" (defArgs s_is_row) (defBody s_is_row) (defScope s_is_row) .none kV0 dc0 pm0 an0 cd0 ct0), sl0⟩)
    (c0 : PySem.W.codeIn K cd0 "is_row" = true)
    (k0 : PySem.W.keepIn K (.ref f0) = true)
    (a1 : PySem.W.nsIn K mainGlobals "keeps" = some (some (.ref f1)))
    (l1 : K.lookup f1 = some ⟨oc1, od1, .func (PySem.W.fnOf "keeps" "keeps" (defArgs s_keeps) (defBody s_keeps) (defScope s_keeps) .none kV1 dc1 pm1 an1 cd1 ct1), sl1⟩)
    (c1 : PySem.W.codeIn K cd1 "keeps" = true)
    (k1 : PySem.W.keepIn K (.ref f1) = true)
    (a2 : PySem.W.nsIn K mainGlobals "breach" = some (some (.ref f2)))
    (l2 : K.lookup f2 = some ⟨oc2, od2, .func (PySem.W.fnOf "breach" "breach" (defArgs s_breach) (defBody s_breach) (defScope s_breach) .none kV2 dc2 pm2 an2 cd2 ct2), sl2⟩)
    (c2 : PySem.W.codeIn K cd2 "breach" = true)
    (k2 : PySem.W.keepIn K (.ref f2) = true)
    (a3 : PySem.W.nsIn K mainGlobals "in_bounds" = some (some (.ref f3)))
    (l3 : K.lookup f3 = some ⟨oc3, od3, .func (PySem.W.fnOf "in_bounds" "in_bounds" (defArgs s_in_bounds) (defBody s_in_bounds) (defScope s_in_bounds) .none kV3 dc3 pm3 an3 cd3 ct3), sl3⟩)
    (c3 : PySem.W.codeIn K cd3 "in_bounds" = true)
    (k3 : PySem.W.keepIn K (.ref f3) = true)
    (a4 : PySem.W.nsIn K mainGlobals "rises" = some (some (.ref f4)))
    (l4 : K.lookup f4 = some ⟨oc4, od4, .func (PySem.W.fnOf "rises" "rises" (defArgs s_rises) (defBody s_rises) (defScope s_rises) .none kV4 dc4 pm4 an4 cd4 ct4), sl4⟩)
    (c4 : PySem.W.codeIn K cd4 "rises" = true)
    (k4 : PySem.W.keepIn K (.ref f4) = true)
    (a5 : PySem.W.nsIn K mainGlobals "check_rule" = some (some (.ref f5)))
    (l5 : K.lookup f5 = some ⟨oc5, od5, .func (PySem.W.fnOf "check_rule" "check_rule" (defArgs s_check_rule) (defBody s_check_rule) (defScope s_check_rule) .none kV5 dc5 pm5 an5 cd5 ct5), sl5⟩)
    (c5 : PySem.W.codeIn K cd5 "check_rule" = true)
    (k5 : PySem.W.keepIn K (.ref f5) = true)
    (a6 : PySem.W.nsIn K mainGlobals "check_row" = some (some (.ref f6)))
    (l6 : K.lookup f6 = some ⟨oc6, od6, .func (PySem.W.fnOf "check_row" "check_row" (defArgs s_check_row) (defBody s_check_row) (defScope s_check_row) .none kV6 dc6 pm6 an6 cd6 ct6), sl6⟩)
    (c6 : PySem.W.codeIn K cd6 "check_row" = true)
    (k6 : PySem.W.keepIn K (.ref f6) = true)
    (a7 : PySem.W.nsIn K mainGlobals "found_breach" = some (some (.ref f7)))
    (l7 : K.lookup f7 = some ⟨oc7, od7, .func (PySem.W.fnOf "found_breach" "found_breach" (defArgs s_found_breach) (defBody s_found_breach) (defScope s_found_breach) .none kV7 dc7 pm7 an7 cd7 ct7), sl7⟩)
    (c7 : PySem.W.codeIn K cd7 "found_breach" = true)
    (k7 : PySem.W.keepIn K (.ref f7) = true)
    (a8 : PySem.W.nsIn K mainGlobals "even_breach" = some (some (.ref f8)))
    (l8 : K.lookup f8 = some ⟨oc8, od8, .func (PySem.W.fnOf "even_breach" "even_breach" (defArgs s_even_breach) (defBody s_even_breach) (defScope s_even_breach) .none kV8 dc8 pm8 an8 cd8 ct8), sl8⟩)
    (c8 : PySem.W.codeIn K cd8 "even_breach" = true)
    (k8 : PySem.W.keepIn K (.ref f8) = true)
    (a9 : PySem.W.nsIn K mainGlobals "sums_breach" = some (some (.ref f9)))
    (l9 : K.lookup f9 = some ⟨oc9, od9, .func (PySem.W.fnOf "sums_breach" "sums_breach" (defArgs s_sums_breach) (defBody s_sums_breach) (defScope s_sums_breach) .none kV9 dc9 pm9 an9 cd9 ct9), sl9⟩)
    (c9 : PySem.W.codeIn K cd9 "sums_breach" = true)
    (k9 : PySem.W.keepIn K (.ref f9) = true)
    (a10 : PySem.W.nsIn K mainGlobals "parts_breach" = some (some (.ref f10)))
    (l10 : K.lookup f10 = some ⟨oc10, od10, .func (PySem.W.fnOf "parts_breach" "parts_breach" (defArgs s_parts_breach) (defBody s_parts_breach) (defScope s_parts_breach) .none kV10 dc10 pm10 an10 cd10 ct10), sl10⟩)
    (c10 : PySem.W.codeIn K cd10 "parts_breach" = true)
    (k10 : PySem.W.keepIn K (.ref f10) = true)
    (a11 : PySem.W.nsIn K mainGlobals "grown" = some (some (.ref f11)))
    (l11 : K.lookup f11 = some ⟨oc11, od11, .func (PySem.W.fnOf "grown" "grown" (defArgs s_grown) (defBody s_grown) (defScope s_grown) .none kV11 dc11 pm11 an11 cd11 ct11), sl11⟩)
    (c11 : PySem.W.codeIn K cd11 "grown" = true)
    (k11 : PySem.W.keepIn K (.ref f11) = true)
    (a12 : PySem.W.nsIn K mainGlobals "fell" = some (some (.ref f12)))
    (l12 : K.lookup f12 = some ⟨oc12, od12, .func (PySem.W.fnOf "fell" "fell" (defArgs s_fell) (defBody s_fell) (defScope s_fell) .none kV12 dc12 pm12 an12 cd12 ct12), sl12⟩)
    (c12 : PySem.W.codeIn K cd12 "fell" = true)
    (k12 : PySem.W.keepIn K (.ref f12) = true)
    (a13 : PySem.W.nsIn K mainGlobals "check_kept" = some (some (.ref f13)))
    (l13 : K.lookup f13 = some ⟨oc13, od13, .func (PySem.W.fnOf "check_kept" "check_kept" (defArgs s_check_kept) (defBody s_check_kept) (defScope s_check_kept) .none kV13 dc13 pm13 an13 cd13 ct13), sl13⟩)
    (c13 : PySem.W.codeIn K cd13 "check_kept" = true)
    (k13 : PySem.W.keepIn K (.ref f13) = true)
    (a14 : PySem.W.nsIn K mainGlobals "least_above" = some (some (.ref f14)))
    (l14 : K.lookup f14 = some ⟨oc14, od14, .func (PySem.W.fnOf "least_above" "least_above" (defArgs s_least_above) (defBody s_least_above) (defScope s_least_above) .none kV14 dc14 pm14 an14 cd14 ct14), sl14⟩)
    (c14 : PySem.W.codeIn K cd14 "least_above" = true)
    (k14 : PySem.W.keepIn K (.ref f14) = true)
    (a15 : PySem.W.nsIn K mainGlobals "moved" = some (some (.ref f15)))
    (l15 : K.lookup f15 = some ⟨oc15, od15, .func (PySem.W.fnOf "moved" "moved" (defArgs s_moved) (defBody s_moved) (defScope s_moved) .none kV15 dc15 pm15 an15 cd15 ct15), sl15⟩)
    (c15 : PySem.W.codeIn K cd15 "moved" = true)
    (k15 : PySem.W.keepIn K (.ref f15) = true)
    (a16 : PySem.W.nsIn K mainGlobals "differences" = some (some (.ref f16)))
    (l16 : K.lookup f16 = some ⟨oc16, od16, .func (PySem.W.fnOf "differences" "differences" (defArgs s_differences) (defBody s_differences) (defScope s_differences) .none kV16 dc16 pm16 an16 cd16 ct16), sl16⟩)
    (c16 : PySem.W.codeIn K cd16 "differences" = true)
    (k16 : PySem.W.keepIn K (.ref f16) = true)
    (a17 : PySem.W.nsIn K mainGlobals "most" = some (some (.ref f17)))
    (l17 : K.lookup f17 = some ⟨oc17, od17, .func (PySem.W.fnOf "most" "most" (defArgs s_most) (defBody s_most) (defScope s_most) .none kV17 dc17 pm17 an17 cd17 ct17), sl17⟩)
    (c17 : PySem.W.codeIn K cd17 "most" = true)
    (k17 : PySem.W.keepIn K (.ref f17) = true)
    (a18 : PySem.W.nsIn K mainGlobals "shortest" = some (some (.ref f18)))
    (l18 : K.lookup f18 = some ⟨oc18, od18, .func (PySem.W.fnOf "shortest" "shortest" (defArgs s_shortest) (defBody s_shortest) (defScope s_shortest) .none kV18 dc18 pm18 an18 cd18 ct18), sl18⟩)
    (c18 : PySem.W.codeIn K cd18 "shortest" = true)
    (k18 : PySem.W.keepIn K (.ref f18) = true)
    (a19 : PySem.W.nsIn K mainGlobals "shown" = some (some (.ref f19)))
    (l19 : K.lookup f19 = some ⟨oc19, od19, .func (PySem.W.fnOf "shown" "shown" (defArgs s_shown) (defBody s_shown) (defScope s_shown) .none kV19 dc19 pm19 an19 cd19 ct19), sl19⟩)
    (c19 : PySem.W.codeIn K cd19 "shown" = true)
    (k19 : PySem.W.keepIn K (.ref f19) = true)
    (a20 : PySem.W.nsIn K mainGlobals "read" = some (some (.ref f20)))
    (l20 : K.lookup f20 = some ⟨oc20, od20, .func (PySem.W.fnOf "read" "read" (defArgs s_read) (defBody s_read) (defScope s_read) .none kV20 dc20 pm20 an20 cd20 ct20), sl20⟩)
    (c20 : PySem.W.codeIn K cd20 "read" = true)
    (k20 : PySem.W.keepIn K (.ref f20) = true)
    (a21 : PySem.W.nsIn K mainGlobals "is_number" = some (some (.ref f21)))
    (l21 : K.lookup f21 = some ⟨oc21, od21, .func (PySem.W.fnOf "is_number" "is_number" (defArgs s_is_number) (defBody s_is_number) (defScope s_is_number) .none kV21 dc21 pm21 an21 cd21 ct21), sl21⟩)
    (c21 : PySem.W.codeIn K cd21 "is_number" = true)
    (k21 : PySem.W.keepIn K (.ref f21) = true)
    (a22 : PySem.W.nsIn K mainGlobals "_law_cell_at" = some (some (.ref f22)))
    (l22 : K.lookup f22 = some ⟨oc22, od22, .func (PySem.W.fnOf "_law_cell_at" "_law_cell_at" (defArgs s__law_cell_at) (defBody s__law_cell_at) (defScope s__law_cell_at) .none kV22 dc22 pm22 an22 cd22 ct22), sl22⟩)
    (c22 : PySem.W.codeIn K cd22 "_law_cell_at" = true)
    (k22 : PySem.W.keepIn K (.ref f22) = true)
    (a23 : PySem.W.nsIn K mainGlobals "_law_which" = some (some (.ref f23)))
    (l23 : K.lookup f23 = some ⟨oc23, od23, .func (PySem.W.fnOf "_law_which" "_law_which" (defArgs s__law_which) (defBody s__law_which) (defScope s__law_which) .none kV23 dc23 pm23 an23 cd23 ct23), sl23⟩)
    (c23 : PySem.W.codeIn K cd23 "_law_which" = true)
    (k23 : PySem.W.keepIn K (.ref f23) = true)
    (a24 : PySem.W.nsIn K mainGlobals "_law_by_rule" = some (some (.ref f24)))
    (l24 : K.lookup f24 = some ⟨oc24, od24, .func (PySem.W.fnOf "_law_by_rule" "_law_by_rule" (defArgs s__law_by_rule) (defBody s__law_by_rule) (defScope s__law_by_rule) .none kV24 dc24 pm24 an24 cd24 ct24), sl24⟩)
    (c24 : PySem.W.codeIn K cd24 "_law_by_rule" = true)
    (k24 : PySem.W.keepIn K (.ref f24) = true)
    (a25 : PySem.W.nsIn K mainGlobals "_law_no_row" = some (some (.ref f25)))
    (l25 : K.lookup f25 = some ⟨oc25, od25, .func (PySem.W.fnOf "_law_no_row" "_law_no_row" (defArgs s__law_no_row) (defBody s__law_no_row) (defScope s__law_no_row) .none kV25 dc25 pm25 an25 cd25 ct25), sl25⟩)
    (c25 : PySem.W.codeIn K cd25 "_law_no_row" = true)
    (k25 : PySem.W.keepIn K (.ref f25) = true)
    (a26 : PySem.W.nsIn K mainGlobals "_law_broken" = some (some (.ref f26)))
    (l26 : K.lookup f26 = some ⟨oc26, od26, .func (PySem.W.fnOf "_law_broken" "_law_broken" (defArgs s__law_broken) (defBody s__law_broken) (defScope s__law_broken) .none kV26 dc26 pm26 an26 cd26 ct26), sl26⟩)
    (c26 : PySem.W.codeIn K cd26 "_law_broken" = true)
    (k26 : PySem.W.keepIn K (.ref f26) = true)
    (a27 : PySem.W.nsIn K mainGlobals "_law_no_size" = some (some (.ref f27)))
    (l27 : K.lookup f27 = some ⟨oc27, od27, .func (PySem.W.fnOf "_law_no_size" "_law_no_size" (defArgs s__law_no_size) (defBody s__law_no_size) (defScope s__law_no_size) .none kV27 dc27 pm27 an27 cd27 ct27), sl27⟩)
    (c27 : PySem.W.codeIn K cd27 "_law_no_size" = true)
    (k27 : PySem.W.keepIn K (.ref f27) = true)
    (a28 : PySem.W.nsIn K mainGlobals "_law_no_number" = some (some (.ref f28)))
    (l28 : K.lookup f28 = some ⟨oc28, od28, .func (PySem.W.fnOf "_law_no_number" "_law_no_number" (defArgs s__law_no_number) (defBody s__law_no_number) (defScope s__law_no_number) .none kV28 dc28 pm28 an28 cd28 ct28), sl28⟩)
    (c28 : PySem.W.codeIn K cd28 "_law_no_number" = true)
    (k28 : PySem.W.keepIn K (.ref f28) = true)
    (a29 : PySem.W.nsIn K mainGlobals "_law_done" = some (some (.ref f29)))
    (l29 : K.lookup f29 = some ⟨oc29, od29, .func (PySem.W.fnOf "_law_done" "_law_done" (defArgs s__law_done) (defBody s__law_done) (defScope s__law_done) .none kV29 dc29 pm29 an29 cd29 ct29), sl29⟩)
    (c29 : PySem.W.codeIn K cd29 "_law_done" = true)
    (k29 : PySem.W.keepIn K (.ref f29) = true)
    (a30 : PySem.W.nsIn K mainGlobals "law" = some (some (.ref f30)))
    (l30 : K.lookup f30 = some ⟨oc30, od30, .func (PySem.W.fnOf "law" "law" (defArgs s_law) (defBody s_law) (defScope s_law) .none kV30 dc30 pm30 an30 cd30 ct30), sl30⟩)
    (c30 : PySem.W.codeIn K cd30 "law" = true)
    (k30 : PySem.W.keepIn K (.ref f30) = true)
    (g_MOST_NUMBERS : PySem.W.nsIn K mainGlobals "MOST_NUMBERS" = some (some (.int 20 t_MOST_NUMBERS)))
    (g_GREATEST : PySem.W.nsIn K mainGlobals "GREATEST" = some (some (.int 1000000000000 t_GREATEST)))
    (g_GREATEST_BOUND : PySem.W.nsIn K mainGlobals "GREATEST_BOUND" = some (some (.int 20 t_GREATEST_BOUND)))
    (g_MOST_MARKS : PySem.W.nsIn K mainGlobals "MOST_MARKS" = some (some (.int 6 t_MOST_MARKS)))
    (g_FIGURES : PySem.W.nsIn K mainGlobals "FIGURES" = some (some (.str "0123456789" t_FIGURES)))
    (g_RULES : PySem.W.nsIn K mainGlobals "RULES" = some (some (.ref r_RULES)))
    (h_RULES : K.lookup r_RULES = some ⟨.type "tuple", od_RULES, .seq #[.str "even" t_RULES0, .str "sums" t_RULES1, .str "parts" t_RULES2] n_RULES, sl_RULES⟩)
    (z_len : PySem.W.nsIn K mainGlobals "len" = some none)
    (z_all : PySem.W.nsIn K mainGlobals "all" = some none)
    (z_zip : PySem.W.nsIn K mainGlobals "zip" = some none)
    (z_range : PySem.W.nsIn K mainGlobals "range" = some none)
    (z_list : PySem.W.nsIn K mainGlobals "list" = some none)
    (z_isinstance : PySem.W.nsIn K mainGlobals "isinstance" = some none)
    (z_int : PySem.W.nsIn K mainGlobals "int" = some none)
    (z_str : PySem.W.nsIn K mainGlobals "str" = some none)
    (z_enumerate : PySem.W.nsIn K mainGlobals "enumerate" = some none)
    (z_sorted : PySem.W.nsIn K mainGlobals "sorted" = some none)
    (z_ValueError : PySem.W.nsIn K mainGlobals "ValueError" = some none)
    (gnX : PySem.W.specialIn K (.builtin "object.__class__") "__get__" = some (some (.builtin "getset_descriptor.__get__")))
    (tkX : PySem.W.takesIn K (.builtin "object.__class__") = some true)
    (x_SlideError : PySem.W.nsIn K mainGlobals "SlideError" = some (some (.ref C_SlideError)))
    (e_SlideError : PySem.W.excIn K C_SlideError mroV newV = true)
    (cl_SlideError : PySem.W.clsIn K C_SlideError = some cd_SlideError)
    (ty_SlideError : PySem.W.typeIn K (.ref C_SlideError) = some (.type "type"))
    (sb_SlideError : PySem.W.subIn K (.ref C_SlideError) (.type "BaseException") = some true)
    (sv_SlideError : PySem.W.subIn K (.ref C_SlideError) (.type "ValueError") = some true)
    (ga_SlideError : PySem.W.findIn K (.ref C_SlideError) "__getattribute__" = some (some (.builtin "BaseException.__getattribute__")))
    (gt_SlideError : PySem.W.findIn K (.ref C_SlideError) "__getattr__" = some none)
    (ca_SlideError : PySem.W.findIn K (.ref C_SlideError) "__class__" = some (some (.builtin "object.__class__")))
    (mo_SlideError : PySem.W.mroIn K C_SlideError (.type "object") = some true)
    (mb_SlideError : PySem.W.mroIn K C_SlideError (.type "BaseException") = some true)
    (x_NoRule : PySem.W.nsIn K mainGlobals "NoRule" = some (some (.ref C_NoRule)))
    (e_NoRule : PySem.W.excIn K C_NoRule mroV newV = true)
    (cl_NoRule : PySem.W.clsIn K C_NoRule = some cd_NoRule)
    (ty_NoRule : PySem.W.typeIn K (.ref C_NoRule) = some (.type "type"))
    (sb_NoRule : PySem.W.subIn K (.ref C_NoRule) (.type "BaseException") = some true)
    (sv_NoRule : PySem.W.subIn K (.ref C_NoRule) (.type "ValueError") = some true)
    (ga_NoRule : PySem.W.findIn K (.ref C_NoRule) "__getattribute__" = some (some (.builtin "BaseException.__getattribute__")))
    (gt_NoRule : PySem.W.findIn K (.ref C_NoRule) "__getattr__" = some none)
    (ca_NoRule : PySem.W.findIn K (.ref C_NoRule) "__class__" = some (some (.builtin "object.__class__")))
    (mo_NoRule : PySem.W.mroIn K C_NoRule (.type "object") = some true)
    (mb_NoRule : PySem.W.mroIn K C_NoRule (.type "BaseException") = some true)
    (x_NoRow : PySem.W.nsIn K mainGlobals "NoRow" = some (some (.ref C_NoRow)))
    (e_NoRow : PySem.W.excIn K C_NoRow mroV newV = true)
    (cl_NoRow : PySem.W.clsIn K C_NoRow = some cd_NoRow)
    (ty_NoRow : PySem.W.typeIn K (.ref C_NoRow) = some (.type "type"))
    (sb_NoRow : PySem.W.subIn K (.ref C_NoRow) (.type "BaseException") = some true)
    (sv_NoRow : PySem.W.subIn K (.ref C_NoRow) (.type "ValueError") = some true)
    (ga_NoRow : PySem.W.findIn K (.ref C_NoRow) "__getattribute__" = some (some (.builtin "BaseException.__getattribute__")))
    (gt_NoRow : PySem.W.findIn K (.ref C_NoRow) "__getattr__" = some none)
    (ca_NoRow : PySem.W.findIn K (.ref C_NoRow) "__class__" = some (some (.builtin "object.__class__")))
    (mo_NoRow : PySem.W.mroIn K C_NoRow (.type "object") = some true)
    (mb_NoRow : PySem.W.mroIn K C_NoRow (.type "BaseException") = some true)
    (x_Broken : PySem.W.nsIn K mainGlobals "Broken" = some (some (.ref C_Broken)))
    (e_Broken : PySem.W.excIn K C_Broken mroV newV = true)
    (cl_Broken : PySem.W.clsIn K C_Broken = some cd_Broken)
    (ty_Broken : PySem.W.typeIn K (.ref C_Broken) = some (.type "type"))
    (sb_Broken : PySem.W.subIn K (.ref C_Broken) (.type "BaseException") = some true)
    (sv_Broken : PySem.W.subIn K (.ref C_Broken) (.type "ValueError") = some true)
    (ga_Broken : PySem.W.findIn K (.ref C_Broken) "__getattribute__" = some (some (.builtin "BaseException.__getattribute__")))
    (gt_Broken : PySem.W.findIn K (.ref C_Broken) "__getattr__" = some none)
    (ca_Broken : PySem.W.findIn K (.ref C_Broken) "__class__" = some (some (.builtin "object.__class__")))
    (mo_Broken : PySem.W.mroIn K C_Broken (.type "object") = some true)
    (mb_Broken : PySem.W.mroIn K C_Broken (.type "BaseException") = some true)
    (x_NoSize : PySem.W.nsIn K mainGlobals "NoSize" = some (some (.ref C_NoSize)))
    (e_NoSize : PySem.W.excIn K C_NoSize mroV newV = true)
    (cl_NoSize : PySem.W.clsIn K C_NoSize = some cd_NoSize)
    (ty_NoSize : PySem.W.typeIn K (.ref C_NoSize) = some (.type "type"))
    (sb_NoSize : PySem.W.subIn K (.ref C_NoSize) (.type "BaseException") = some true)
    (sv_NoSize : PySem.W.subIn K (.ref C_NoSize) (.type "ValueError") = some true)
    (ga_NoSize : PySem.W.findIn K (.ref C_NoSize) "__getattribute__" = some (some (.builtin "BaseException.__getattribute__")))
    (gt_NoSize : PySem.W.findIn K (.ref C_NoSize) "__getattr__" = some none)
    (ca_NoSize : PySem.W.findIn K (.ref C_NoSize) "__class__" = some (some (.builtin "object.__class__")))
    (mo_NoSize : PySem.W.mroIn K C_NoSize (.type "object") = some true)
    (mb_NoSize : PySem.W.mroIn K C_NoSize (.type "BaseException") = some true)
    (x_NoNumber : PySem.W.nsIn K mainGlobals "NoNumber" = some (some (.ref C_NoNumber)))
    (e_NoNumber : PySem.W.excIn K C_NoNumber mroV newV = true)
    (cl_NoNumber : PySem.W.clsIn K C_NoNumber = some cd_NoNumber)
    (ty_NoNumber : PySem.W.typeIn K (.ref C_NoNumber) = some (.type "type"))
    (sb_NoNumber : PySem.W.subIn K (.ref C_NoNumber) (.type "BaseException") = some true)
    (sv_NoNumber : PySem.W.subIn K (.ref C_NoNumber) (.type "ValueError") = some true)
    (ga_NoNumber : PySem.W.findIn K (.ref C_NoNumber) "__getattribute__" = some (some (.builtin "BaseException.__getattribute__")))
    (gt_NoNumber : PySem.W.findIn K (.ref C_NoNumber) "__getattr__" = some none)
    (ca_NoNumber : PySem.W.findIn K (.ref C_NoNumber) "__class__" = some (some (.builtin "object.__class__")))
    (mo_NoNumber : PySem.W.mroIn K C_NoNumber (.type "object") = some true)
    (mb_NoNumber : PySem.W.mroIn K C_NoNumber (.type "BaseException") = some true)
    (x_NotRead : PySem.W.nsIn K mainGlobals "NotRead" = some (some (.ref C_NotRead)))
    (e_NotRead : PySem.W.excIn K C_NotRead mroV newV = true)
    (cl_NotRead : PySem.W.clsIn K C_NotRead = some cd_NotRead)
    (ty_NotRead : PySem.W.typeIn K (.ref C_NotRead) = some (.type "type"))
    (sb_NotRead : PySem.W.subIn K (.ref C_NotRead) (.type "BaseException") = some true)
    (sv_NotRead : PySem.W.subIn K (.ref C_NotRead) (.type "ValueError") = some true)
    (ga_NotRead : PySem.W.findIn K (.ref C_NotRead) "__getattribute__" = some (some (.builtin "BaseException.__getattribute__")))
    (gt_NotRead : PySem.W.findIn K (.ref C_NotRead) "__getattr__" = some none)
    (ca_NotRead : PySem.W.findIn K (.ref C_NotRead) "__class__" = some (some (.builtin "object.__class__")))
    (mo_NotRead : PySem.W.mroIn K C_NotRead (.type "object") = some true)
    (mb_NotRead : PySem.W.mroIn K C_NotRead (.type "BaseException") = some true)
    (s_NoRule_NoRule : PySem.W.subIn K (.ref C_NoRule) (.ref C_NoRule) = some true)
    (s_NoRule_NoRow : PySem.W.subIn K (.ref C_NoRule) (.ref C_NoRow) = some false)
    (s_NoRule_Broken : PySem.W.subIn K (.ref C_NoRule) (.ref C_Broken) = some false)
    (s_NoRule_NoSize : PySem.W.subIn K (.ref C_NoRule) (.ref C_NoSize) = some false)
    (s_NoRule_NoNumber : PySem.W.subIn K (.ref C_NoRule) (.ref C_NoNumber) = some false)
    (s_NoRule_NotRead : PySem.W.subIn K (.ref C_NoRule) (.ref C_NotRead) = some false)
    (s_NoRow_NoRule : PySem.W.subIn K (.ref C_NoRow) (.ref C_NoRule) = some false)
    (s_NoRow_NoRow : PySem.W.subIn K (.ref C_NoRow) (.ref C_NoRow) = some true)
    (s_NoRow_Broken : PySem.W.subIn K (.ref C_NoRow) (.ref C_Broken) = some false)
    (s_NoRow_NoSize : PySem.W.subIn K (.ref C_NoRow) (.ref C_NoSize) = some false)
    (s_NoRow_NoNumber : PySem.W.subIn K (.ref C_NoRow) (.ref C_NoNumber) = some false)
    (s_NoRow_NotRead : PySem.W.subIn K (.ref C_NoRow) (.ref C_NotRead) = some false)
    (s_Broken_NoRule : PySem.W.subIn K (.ref C_Broken) (.ref C_NoRule) = some false)
    (s_Broken_NoRow : PySem.W.subIn K (.ref C_Broken) (.ref C_NoRow) = some false)
    (s_Broken_Broken : PySem.W.subIn K (.ref C_Broken) (.ref C_Broken) = some true)
    (s_Broken_NoSize : PySem.W.subIn K (.ref C_Broken) (.ref C_NoSize) = some false)
    (s_Broken_NoNumber : PySem.W.subIn K (.ref C_Broken) (.ref C_NoNumber) = some false)
    (s_Broken_NotRead : PySem.W.subIn K (.ref C_Broken) (.ref C_NotRead) = some false)
    (s_NoSize_NoRule : PySem.W.subIn K (.ref C_NoSize) (.ref C_NoRule) = some false)
    (s_NoSize_NoRow : PySem.W.subIn K (.ref C_NoSize) (.ref C_NoRow) = some false)
    (s_NoSize_Broken : PySem.W.subIn K (.ref C_NoSize) (.ref C_Broken) = some false)
    (s_NoSize_NoSize : PySem.W.subIn K (.ref C_NoSize) (.ref C_NoSize) = some true)
    (s_NoSize_NoNumber : PySem.W.subIn K (.ref C_NoSize) (.ref C_NoNumber) = some false)
    (s_NoSize_NotRead : PySem.W.subIn K (.ref C_NoSize) (.ref C_NotRead) = some false)
    (s_NoNumber_NoRule : PySem.W.subIn K (.ref C_NoNumber) (.ref C_NoRule) = some false)
    (s_NoNumber_NoRow : PySem.W.subIn K (.ref C_NoNumber) (.ref C_NoRow) = some false)
    (s_NoNumber_Broken : PySem.W.subIn K (.ref C_NoNumber) (.ref C_Broken) = some false)
    (s_NoNumber_NoSize : PySem.W.subIn K (.ref C_NoNumber) (.ref C_NoSize) = some false)
    (s_NoNumber_NoNumber : PySem.W.subIn K (.ref C_NoNumber) (.ref C_NoNumber) = some true)
    (s_NoNumber_NotRead : PySem.W.subIn K (.ref C_NoNumber) (.ref C_NotRead) = some false)
    (s_NotRead_NoRule : PySem.W.subIn K (.ref C_NotRead) (.ref C_NoRule) = some false)
    (s_NotRead_NoRow : PySem.W.subIn K (.ref C_NotRead) (.ref C_NoRow) = some false)
    (s_NotRead_Broken : PySem.W.subIn K (.ref C_NotRead) (.ref C_Broken) = some false)
    (s_NotRead_NoSize : PySem.W.subIn K (.ref C_NotRead) (.ref C_NoSize) = some false)
    (s_NotRead_NoNumber : PySem.W.subIn K (.ref C_NotRead) (.ref C_NoNumber) = some false)
    (s_NotRead_NotRead : PySem.W.subIn K (.ref C_NotRead) (.ref C_NotRead) = some true)
    (s_NoRule_SlideError : PySem.W.subIn K (.ref C_NoRule) (.ref C_SlideError) = some true)
    (s_NoRow_SlideError : PySem.W.subIn K (.ref C_NoRow) (.ref C_SlideError) = some true)
    (s_Broken_SlideError : PySem.W.subIn K (.ref C_Broken) (.ref C_SlideError) = some true)
    (s_NoSize_SlideError : PySem.W.subIn K (.ref C_NoSize) (.ref C_SlideError) = some true)
    (s_NoNumber_SlideError : PySem.W.subIn K (.ref C_NoNumber) (.ref C_SlideError) = some true)
    (s_NotRead_SlideError : PySem.W.subIn K (.ref C_NotRead) (.ref C_SlideError) = some true)
    : ∃ fd : FuncData, (∀ (s : Shared) (v : Value), BindsTo s fd ⟨[v], []⟩ [("script", v)]) ∧ ∀ base : Heap, K.In base → base.Ns mainGlobals mg → FnOk l.prog w K mg base CX0 10 fa fd ["script"] (spLaw K) := by
  have e := hfa.symm.trans (PySem.W.mg_of X G a30)
  cases e
  have F0 := fun_mk (st := s_is_row) l0 c0 k0
  have b0 := F0.binds (ps := ["some"]) fun _ _ _ _ _ _ us hl => match us, hl with | [_], _ => rfl
  have D_is_row : DefOf K mg "is_row" s_is_row ["some"] := ⟨_, _, F0, b0, PySem.W.mg_of X G a0⟩
  have F1 := fun_mk (st := s_keeps) l1 c1 k1
  have b1 := F1.binds (ps := ["row", "rule"]) fun _ _ _ _ _ _ us hl => match us, hl with | [_, _], _ => rfl
  have D_keeps : DefOf K mg "keeps" s_keeps ["row", "rule"] := ⟨_, _, F1, b1, PySem.W.mg_of X G a1⟩
  have F2 := fun_mk (st := s_breach) l2 c2 k2
  have b2 := F2.binds (ps := ["row", "rule"]) fun _ _ _ _ _ _ us hl => match us, hl with | [_, _], _ => rfl
  have D_breach : DefOf K mg "breach" s_breach ["row", "rule"] := ⟨_, _, F2, b2, PySem.W.mg_of X G a2⟩
  have F3 := fun_mk (st := s_in_bounds) l3 c3 k3
  have b3 := F3.binds (ps := ["number"]) fun _ _ _ _ _ _ us hl => match us, hl with | [_], _ => rfl
  have D_in_bounds : DefOf K mg "in_bounds" s_in_bounds ["number"] := ⟨_, _, F3, b3, PySem.W.mg_of X G a3⟩
  have F4 := fun_mk (st := s_rises) l4 c4 k4
  have b4 := F4.binds (ps := ["numbers"]) fun _ _ _ _ _ _ us hl => match us, hl with | [_], _ => rfl
  have D_rises : DefOf K mg "rises" s_rises ["numbers"] := ⟨_, _, F4, b4, PySem.W.mg_of X G a4⟩
  have F5 := fun_mk (st := s_check_rule) l5 c5 k5
  have b5 := F5.binds (ps := ["rule"]) fun _ _ _ _ _ _ us hl => match us, hl with | [_], _ => rfl
  have D_check_rule : DefOf K mg "check_rule" s_check_rule ["rule"] := ⟨_, _, F5, b5, PySem.W.mg_of X G a5⟩
  have F6 := fun_mk (st := s_check_row) l6 c6 k6
  have b6 := F6.binds (ps := ["row"]) fun _ _ _ _ _ _ us hl => match us, hl with | [_], _ => rfl
  have D_check_row : DefOf K mg "check_row" s_check_row ["row"] := ⟨_, _, F6, b6, PySem.W.mg_of X G a6⟩
  have F7 := fun_mk (st := s_found_breach) l7 c7 k7
  have b7 := F7.binds (ps := ["numbers", "rule"]) fun _ _ _ _ _ _ us hl => match us, hl with | [_, _], _ => rfl
  have D_found_breach : DefOf K mg "found_breach" s_found_breach ["numbers", "rule"] := ⟨_, _, F7, b7, PySem.W.mg_of X G a7⟩
  have F8 := fun_mk (st := s_even_breach) l8 c8 k8
  have b8 := F8.binds (ps := ["numbers"]) fun _ _ _ _ _ _ us hl => match us, hl with | [_], _ => rfl
  have D_even_breach : DefOf K mg "even_breach" s_even_breach ["numbers"] := ⟨_, _, F8, b8, PySem.W.mg_of X G a8⟩
  have F9 := fun_mk (st := s_sums_breach) l9 c9 k9
  have b9 := F9.binds (ps := ["numbers"]) fun _ _ _ _ _ _ us hl => match us, hl with | [_], _ => rfl
  have D_sums_breach : DefOf K mg "sums_breach" s_sums_breach ["numbers"] := ⟨_, _, F9, b9, PySem.W.mg_of X G a9⟩
  have F10 := fun_mk (st := s_parts_breach) l10 c10 k10
  have b10 := F10.binds (ps := ["numbers"]) fun _ _ _ _ _ _ us hl => match us, hl with | [_], _ => rfl
  have D_parts_breach : DefOf K mg "parts_breach" s_parts_breach ["numbers"] := ⟨_, _, F10, b10, PySem.W.mg_of X G a10⟩
  have F11 := fun_mk (st := s_grown) l11 c11 k11
  have b11 := F11.binds (ps := ["row", "rule", "more"]) fun _ _ _ _ _ _ us hl => match us, hl with | [_, _, _], _ => rfl
  have D_grown : DefOf K mg "grown" s_grown ["row", "rule", "more"] := ⟨_, _, F11, b11, PySem.W.mg_of X G a11⟩
  have F12 := fun_mk (st := s_fell) l12 c12 k12
  have b12 := F12.binds (ps := ["row", "rule", "number"]) fun _ _ _ _ _ _ us hl => match us, hl with | [_, _, _], _ => rfl
  have D_fell : DefOf K mg "fell" s_fell ["row", "rule", "number"] := ⟨_, _, F12, b12, PySem.W.mg_of X G a12⟩
  have F13 := fun_mk (st := s_check_kept) l13 c13 k13
  have b13 := F13.binds (ps := ["row", "rule"]) fun _ _ _ _ _ _ us hl => match us, hl with | [_, _], _ => rfl
  have D_check_kept : DefOf K mg "check_kept" s_check_kept ["row", "rule"] := ⟨_, _, F13, b13, PySem.W.mg_of X G a13⟩
  have F14 := fun_mk (st := s_least_above) l14 c14 k14
  have b14 := F14.binds (ps := ["numbers", "rule"]) fun _ _ _ _ _ _ us hl => match us, hl with | [_, _], _ => rfl
  have D_least_above : DefOf K mg "least_above" s_least_above ["numbers", "rule"] := ⟨_, _, F14, b14, PySem.W.mg_of X G a14⟩
  have F15 := fun_mk (st := s_moved) l15 c15 k15
  have b15 := F15.binds (ps := ["row", "by", "times"]) fun _ _ _ _ _ _ us hl => match us, hl with | [_, _, _], _ => rfl
  have D_moved : DefOf K mg "moved" s_moved ["row", "by", "times"] := ⟨_, _, F15, b15, PySem.W.mg_of X G a15⟩
  have F16 := fun_mk (st := s_differences) l16 c16 k16
  have b16 := F16.binds (ps := ["row"]) fun _ _ _ _ _ _ us hl => match us, hl with | [_], _ => rfl
  have D_differences : DefOf K mg "differences" s_differences ["row"] := ⟨_, _, F16, b16, PySem.W.mg_of X G a16⟩
  have F17 := fun_mk (st := s_most) l17 c17 k17
  have b17 := F17.binds (ps := ["rule", "bound"]) fun _ _ _ _ _ _ us hl => match us, hl with | [_, _], _ => rfl
  have D_most : DefOf K mg "most" s_most ["rule", "bound"] := ⟨_, _, F17, b17, PySem.W.mg_of X G a17⟩
  have F18 := fun_mk (st := s_shortest) l18 c18 k18
  have b18 := F18.binds (ps := ["marks"]) fun _ _ _ _ _ _ us hl => match us, hl with | [_], _ => rfl
  have D_shortest : DefOf K mg "shortest" s_shortest ["marks"] := ⟨_, _, F18, b18, PySem.W.mg_of X G a18⟩
  have F19 := fun_mk (st := s_shown) l19 c19 k19
  have b19 := F19.binds (ps := ["row"]) fun _ _ _ _ _ _ us hl => match us, hl with | [_], _ => rfl
  have D_shown : DefOf K mg "shown" s_shown ["row"] := ⟨_, _, F19, b19, PySem.W.mg_of X G a19⟩
  have F20 := fun_mk (st := s_read) l20 c20 k20
  have b20 := F20.binds (ps := ["text"]) fun _ _ _ _ _ _ us hl => match us, hl with | [_], _ => rfl
  have D_read : DefOf K mg "read" s_read ["text"] := ⟨_, _, F20, b20, PySem.W.mg_of X G a20⟩
  have F21 := fun_mk (st := s_is_number) l21 c21 k21
  have b21 := F21.binds (ps := ["word"]) fun _ _ _ _ _ _ us hl => match us, hl with | [_], _ => rfl
  have D_is_number : DefOf K mg "is_number" s_is_number ["word"] := ⟨_, _, F21, b21, PySem.W.mg_of X G a21⟩
  have F22 := fun_mk (st := s__law_cell_at) l22 c22 k22
  have b22 := F22.binds (ps := ["script", "k"]) fun _ _ _ _ _ _ us hl => match us, hl with | [_, _], _ => rfl
  have D__law_cell_at : DefOf K mg "_law_cell_at" s__law_cell_at ["script", "k"] := ⟨_, _, F22, b22, PySem.W.mg_of X G a22⟩
  have F23 := fun_mk (st := s__law_which) l23 c23 k23
  have b23 := F23.binds (ps := ["e"]) fun _ _ _ _ _ _ us hl => match us, hl with | [_], _ => rfl
  have D__law_which : DefOf K mg "_law_which" s__law_which ["e"] := ⟨_, _, F23, b23, PySem.W.mg_of X G a23⟩
  have F24 := fun_mk (st := s__law_by_rule) l24 c24 k24
  have b24 := F24.binds (ps := ["way", "row", "rule", "number"]) fun _ _ _ _ _ _ us hl => match us, hl with | [_, _, _, _], _ => rfl
  have D__law_by_rule : DefOf K mg "_law_by_rule" s__law_by_rule ["way", "row", "rule", "number"] := ⟨_, _, F24, b24, PySem.W.mg_of X G a24⟩
  have F25 := fun_mk (st := s__law_no_row) l25 c25 k25
  have b25 := F25.binds (ps := ["cell", "rule", "far"]) fun _ _ _ _ _ _ us hl => match us, hl with | [_, _, _], _ => rfl
  have D__law_no_row : DefOf K mg "_law_no_row" s__law_no_row ["cell", "rule", "far"] := ⟨_, _, F25, b25, PySem.W.mg_of X G a25⟩
  have F26 := fun_mk (st := s__law_broken) l26 c26 k26
  have b26 := F26.binds (ps := ["cell", "rule", "far"]) fun _ _ _ _ _ _ us hl => match us, hl with | [_, _, _], _ => rfl
  have D__law_broken : DefOf K mg "_law_broken" s__law_broken ["cell", "rule", "far"] := ⟨_, _, F26, b26, PySem.W.mg_of X G a26⟩
  have F27 := fun_mk (st := s__law_no_size) l27 c27 k27
  have b27 := F27.binds (ps := ["cell", "rule", "far"]) fun _ _ _ _ _ _ us hl => match us, hl with | [_, _, _], _ => rfl
  have D__law_no_size : DefOf K mg "_law_no_size" s__law_no_size ["cell", "rule", "far"] := ⟨_, _, F27, b27, PySem.W.mg_of X G a27⟩
  have F28 := fun_mk (st := s__law_no_number) l28 c28 k28
  have b28 := F28.binds (ps := ["cell", "rule", "far"]) fun _ _ _ _ _ _ us hl => match us, hl with | [_, _, _], _ => rfl
  have D__law_no_number : DefOf K mg "_law_no_number" s__law_no_number ["cell", "rule", "far"] := ⟨_, _, F28, b28, PySem.W.mg_of X G a28⟩
  have F29 := fun_mk (st := s__law_done) l29 c29 k29
  have b29 := F29.binds (ps := ["way", "cell", "rule", "far"]) fun _ _ _ _ _ _ us hl => match us, hl with | [_, _, _, _], _ => rfl
  have D__law_done : DefOf K mg "_law_done" s__law_done ["way", "cell", "rule", "far"] := ⟨_, _, F29, b29, PySem.W.mg_of X G a29⟩
  have F30 := fun_mk (st := s_law) l30 c30 k30
  have G_MOST_NUMBERS : ∃ t, mg "MOST_NUMBERS" = some (.int 20 t) := ⟨_, PySem.W.mg_of X G g_MOST_NUMBERS⟩
  have G_GREATEST : ∃ t, mg "GREATEST" = some (.int 1000000000000 t) := ⟨_, PySem.W.mg_of X G g_GREATEST⟩
  have G_GREATEST_BOUND : ∃ t, mg "GREATEST_BOUND" = some (.int 20 t) := ⟨_, PySem.W.mg_of X G g_GREATEST_BOUND⟩
  have G_MOST_MARKS : ∃ t, mg "MOST_MARKS" = some (.int 6 t) := ⟨_, PySem.W.mg_of X G g_MOST_MARKS⟩
  have G_FIGURES : ∃ t, mg "FIGURES" = some (.str "0123456789" t) := ⟨_, PySem.W.mg_of X G g_FIGURES⟩
  have G_RULES : ∃ r, mg "RULES" = some (.ref r) ∧ ∀ H, SqT K H r [.str "even", .str "sums", .str "parts"] := ⟨_, PySem.W.mg_of X G g_RULES, fun H => .inr ⟨_, _, _, h_RULES, rfl, rfl, (by show 3 ≤ sizeLine; decide), .cons ⟨_, rfl⟩ (.cons ⟨_, rfl⟩ (.cons ⟨_, rfl⟩ (.nil)))⟩⟩
  have Z_len := PySem.W.mg_none_of X G z_len
  have Z_all := PySem.W.mg_none_of X G z_all
  have Z_zip := PySem.W.mg_none_of X G z_zip
  have Z_range := PySem.W.mg_none_of X G z_range
  have Z_list := PySem.W.mg_none_of X G z_list
  have Z_isinstance := PySem.W.mg_none_of X G z_isinstance
  have Z_int := PySem.W.mg_none_of X G z_int
  have Z_str := PySem.W.mg_none_of X G z_str
  have Z_enumerate := PySem.W.mg_none_of X G z_enumerate
  have Z_sorted := PySem.W.mg_none_of X G z_sorted
  have Z_ValueError := PySem.W.mg_none_of X G z_ValueError
  have EC_SlideError : EC K mg "SlideError" C_SlideError := ⟨PySem.W.mg_of X G x_SlideError, e_SlideError⟩
  have AK_SlideError : ExcAsk K C_SlideError := ⟨ga_SlideError, gt_SlideError, ca_SlideError, gnX, tkX, mo_SlideError, mb_SlideError, by rw [cl_SlideError]; rfl⟩
  have KV_SlideError := kit_ty sv_SlideError
  have EC_NoRule : EC K mg "NoRule" C_NoRule := ⟨PySem.W.mg_of X G x_NoRule, e_NoRule⟩
  have AK_NoRule : ExcAsk K C_NoRule := ⟨ga_NoRule, gt_NoRule, ca_NoRule, gnX, tkX, mo_NoRule, mb_NoRule, by rw [cl_NoRule]; rfl⟩
  have KV_NoRule := kit_ty sv_NoRule
  have EC_NoRow : EC K mg "NoRow" C_NoRow := ⟨PySem.W.mg_of X G x_NoRow, e_NoRow⟩
  have AK_NoRow : ExcAsk K C_NoRow := ⟨ga_NoRow, gt_NoRow, ca_NoRow, gnX, tkX, mo_NoRow, mb_NoRow, by rw [cl_NoRow]; rfl⟩
  have KV_NoRow := kit_ty sv_NoRow
  have EC_Broken : EC K mg "Broken" C_Broken := ⟨PySem.W.mg_of X G x_Broken, e_Broken⟩
  have AK_Broken : ExcAsk K C_Broken := ⟨ga_Broken, gt_Broken, ca_Broken, gnX, tkX, mo_Broken, mb_Broken, by rw [cl_Broken]; rfl⟩
  have KV_Broken := kit_ty sv_Broken
  have EC_NoSize : EC K mg "NoSize" C_NoSize := ⟨PySem.W.mg_of X G x_NoSize, e_NoSize⟩
  have AK_NoSize : ExcAsk K C_NoSize := ⟨ga_NoSize, gt_NoSize, ca_NoSize, gnX, tkX, mo_NoSize, mb_NoSize, by rw [cl_NoSize]; rfl⟩
  have KV_NoSize := kit_ty sv_NoSize
  have EC_NoNumber : EC K mg "NoNumber" C_NoNumber := ⟨PySem.W.mg_of X G x_NoNumber, e_NoNumber⟩
  have AK_NoNumber : ExcAsk K C_NoNumber := ⟨ga_NoNumber, gt_NoNumber, ca_NoNumber, gnX, tkX, mo_NoNumber, mb_NoNumber, by rw [cl_NoNumber]; rfl⟩
  have KV_NoNumber := kit_ty sv_NoNumber
  have EC_NotRead : EC K mg "NotRead" C_NotRead := ⟨PySem.W.mg_of X G x_NotRead, e_NotRead⟩
  have AK_NotRead : ExcAsk K C_NotRead := ⟨ga_NotRead, gt_NotRead, ca_NotRead, gnX, tkX, mo_NotRead, mb_NotRead, by rw [cl_NotRead]; rfl⟩
  have KV_NotRead := kit_ty sv_NotRead
  have KO_NoRule_NoRule := kit_ref cl_NoRule ty_NoRule s_NoRule_NoRule s_NoRule_NoRule
  have XM_NoRule_NoRule := exm_ref cl_NoRule ty_NoRule s_NoRule_NoRule sb_NoRule
  have KO_NoRule_NoRow := kit_ref cl_NoRow ty_NoRow s_NoRule_NoRow s_NoRule_NoRule
  have XM_NoRule_NoRow := exm_ref cl_NoRow ty_NoRow s_NoRule_NoRow sb_NoRow
  have KO_NoRule_Broken := kit_ref cl_Broken ty_Broken s_NoRule_Broken s_NoRule_NoRule
  have XM_NoRule_Broken := exm_ref cl_Broken ty_Broken s_NoRule_Broken sb_Broken
  have KO_NoRule_NoSize := kit_ref cl_NoSize ty_NoSize s_NoRule_NoSize s_NoRule_NoRule
  have XM_NoRule_NoSize := exm_ref cl_NoSize ty_NoSize s_NoRule_NoSize sb_NoSize
  have KO_NoRule_NoNumber := kit_ref cl_NoNumber ty_NoNumber s_NoRule_NoNumber s_NoRule_NoRule
  have XM_NoRule_NoNumber := exm_ref cl_NoNumber ty_NoNumber s_NoRule_NoNumber sb_NoNumber
  have KO_NoRule_NotRead := kit_ref cl_NotRead ty_NotRead s_NoRule_NotRead s_NoRule_NoRule
  have XM_NoRule_NotRead := exm_ref cl_NotRead ty_NotRead s_NoRule_NotRead sb_NotRead
  have KO_NoRow_NoRule := kit_ref cl_NoRule ty_NoRule s_NoRow_NoRule s_NoRow_NoRow
  have XM_NoRow_NoRule := exm_ref cl_NoRule ty_NoRule s_NoRow_NoRule sb_NoRule
  have KO_NoRow_NoRow := kit_ref cl_NoRow ty_NoRow s_NoRow_NoRow s_NoRow_NoRow
  have XM_NoRow_NoRow := exm_ref cl_NoRow ty_NoRow s_NoRow_NoRow sb_NoRow
  have KO_NoRow_Broken := kit_ref cl_Broken ty_Broken s_NoRow_Broken s_NoRow_NoRow
  have XM_NoRow_Broken := exm_ref cl_Broken ty_Broken s_NoRow_Broken sb_Broken
  have KO_NoRow_NoSize := kit_ref cl_NoSize ty_NoSize s_NoRow_NoSize s_NoRow_NoRow
  have XM_NoRow_NoSize := exm_ref cl_NoSize ty_NoSize s_NoRow_NoSize sb_NoSize
  have KO_NoRow_NoNumber := kit_ref cl_NoNumber ty_NoNumber s_NoRow_NoNumber s_NoRow_NoRow
  have XM_NoRow_NoNumber := exm_ref cl_NoNumber ty_NoNumber s_NoRow_NoNumber sb_NoNumber
  have KO_NoRow_NotRead := kit_ref cl_NotRead ty_NotRead s_NoRow_NotRead s_NoRow_NoRow
  have XM_NoRow_NotRead := exm_ref cl_NotRead ty_NotRead s_NoRow_NotRead sb_NotRead
  have KO_Broken_NoRule := kit_ref cl_NoRule ty_NoRule s_Broken_NoRule s_Broken_Broken
  have XM_Broken_NoRule := exm_ref cl_NoRule ty_NoRule s_Broken_NoRule sb_NoRule
  have KO_Broken_NoRow := kit_ref cl_NoRow ty_NoRow s_Broken_NoRow s_Broken_Broken
  have XM_Broken_NoRow := exm_ref cl_NoRow ty_NoRow s_Broken_NoRow sb_NoRow
  have KO_Broken_Broken := kit_ref cl_Broken ty_Broken s_Broken_Broken s_Broken_Broken
  have XM_Broken_Broken := exm_ref cl_Broken ty_Broken s_Broken_Broken sb_Broken
  have KO_Broken_NoSize := kit_ref cl_NoSize ty_NoSize s_Broken_NoSize s_Broken_Broken
  have XM_Broken_NoSize := exm_ref cl_NoSize ty_NoSize s_Broken_NoSize sb_NoSize
  have KO_Broken_NoNumber := kit_ref cl_NoNumber ty_NoNumber s_Broken_NoNumber s_Broken_Broken
  have XM_Broken_NoNumber := exm_ref cl_NoNumber ty_NoNumber s_Broken_NoNumber sb_NoNumber
  have KO_Broken_NotRead := kit_ref cl_NotRead ty_NotRead s_Broken_NotRead s_Broken_Broken
  have XM_Broken_NotRead := exm_ref cl_NotRead ty_NotRead s_Broken_NotRead sb_NotRead
  have KO_NoSize_NoRule := kit_ref cl_NoRule ty_NoRule s_NoSize_NoRule s_NoSize_NoSize
  have XM_NoSize_NoRule := exm_ref cl_NoRule ty_NoRule s_NoSize_NoRule sb_NoRule
  have KO_NoSize_NoRow := kit_ref cl_NoRow ty_NoRow s_NoSize_NoRow s_NoSize_NoSize
  have XM_NoSize_NoRow := exm_ref cl_NoRow ty_NoRow s_NoSize_NoRow sb_NoRow
  have KO_NoSize_Broken := kit_ref cl_Broken ty_Broken s_NoSize_Broken s_NoSize_NoSize
  have XM_NoSize_Broken := exm_ref cl_Broken ty_Broken s_NoSize_Broken sb_Broken
  have KO_NoSize_NoSize := kit_ref cl_NoSize ty_NoSize s_NoSize_NoSize s_NoSize_NoSize
  have XM_NoSize_NoSize := exm_ref cl_NoSize ty_NoSize s_NoSize_NoSize sb_NoSize
  have KO_NoSize_NoNumber := kit_ref cl_NoNumber ty_NoNumber s_NoSize_NoNumber s_NoSize_NoSize
  have XM_NoSize_NoNumber := exm_ref cl_NoNumber ty_NoNumber s_NoSize_NoNumber sb_NoNumber
  have KO_NoSize_NotRead := kit_ref cl_NotRead ty_NotRead s_NoSize_NotRead s_NoSize_NoSize
  have XM_NoSize_NotRead := exm_ref cl_NotRead ty_NotRead s_NoSize_NotRead sb_NotRead
  have KO_NoNumber_NoRule := kit_ref cl_NoRule ty_NoRule s_NoNumber_NoRule s_NoNumber_NoNumber
  have XM_NoNumber_NoRule := exm_ref cl_NoRule ty_NoRule s_NoNumber_NoRule sb_NoRule
  have KO_NoNumber_NoRow := kit_ref cl_NoRow ty_NoRow s_NoNumber_NoRow s_NoNumber_NoNumber
  have XM_NoNumber_NoRow := exm_ref cl_NoRow ty_NoRow s_NoNumber_NoRow sb_NoRow
  have KO_NoNumber_Broken := kit_ref cl_Broken ty_Broken s_NoNumber_Broken s_NoNumber_NoNumber
  have XM_NoNumber_Broken := exm_ref cl_Broken ty_Broken s_NoNumber_Broken sb_Broken
  have KO_NoNumber_NoSize := kit_ref cl_NoSize ty_NoSize s_NoNumber_NoSize s_NoNumber_NoNumber
  have XM_NoNumber_NoSize := exm_ref cl_NoSize ty_NoSize s_NoNumber_NoSize sb_NoSize
  have KO_NoNumber_NoNumber := kit_ref cl_NoNumber ty_NoNumber s_NoNumber_NoNumber s_NoNumber_NoNumber
  have XM_NoNumber_NoNumber := exm_ref cl_NoNumber ty_NoNumber s_NoNumber_NoNumber sb_NoNumber
  have KO_NoNumber_NotRead := kit_ref cl_NotRead ty_NotRead s_NoNumber_NotRead s_NoNumber_NoNumber
  have XM_NoNumber_NotRead := exm_ref cl_NotRead ty_NotRead s_NoNumber_NotRead sb_NotRead
  have KO_NotRead_NoRule := kit_ref cl_NoRule ty_NoRule s_NotRead_NoRule s_NotRead_NotRead
  have XM_NotRead_NoRule := exm_ref cl_NoRule ty_NoRule s_NotRead_NoRule sb_NoRule
  have KO_NotRead_NoRow := kit_ref cl_NoRow ty_NoRow s_NotRead_NoRow s_NotRead_NotRead
  have XM_NotRead_NoRow := exm_ref cl_NoRow ty_NoRow s_NotRead_NoRow sb_NoRow
  have KO_NotRead_Broken := kit_ref cl_Broken ty_Broken s_NotRead_Broken s_NotRead_NotRead
  have XM_NotRead_Broken := exm_ref cl_Broken ty_Broken s_NotRead_Broken sb_Broken
  have KO_NotRead_NoSize := kit_ref cl_NoSize ty_NoSize s_NotRead_NoSize s_NotRead_NotRead
  have XM_NotRead_NoSize := exm_ref cl_NoSize ty_NoSize s_NotRead_NoSize sb_NoSize
  have KO_NotRead_NoNumber := kit_ref cl_NoNumber ty_NoNumber s_NotRead_NoNumber s_NotRead_NotRead
  have XM_NotRead_NoNumber := exm_ref cl_NoNumber ty_NoNumber s_NotRead_NoNumber sb_NoNumber
  have KO_NotRead_NotRead := kit_ref cl_NotRead ty_NotRead s_NotRead_NotRead s_NotRead_NotRead
  have XM_NotRead_NotRead := exm_ref cl_NotRead ty_NotRead s_NotRead_NotRead sb_NotRead
  have KO_NoRule_SlideError := kit_ref cl_SlideError ty_SlideError s_NoRule_SlideError s_NoRule_NoRule
  have XM_NoRule_SlideError := exm_ref cl_SlideError ty_SlideError s_NoRule_SlideError sb_SlideError
  have KO_NoRow_SlideError := kit_ref cl_SlideError ty_SlideError s_NoRow_SlideError s_NoRow_NoRow
  have XM_NoRow_SlideError := exm_ref cl_SlideError ty_SlideError s_NoRow_SlideError sb_SlideError
  have KO_Broken_SlideError := kit_ref cl_SlideError ty_SlideError s_Broken_SlideError s_Broken_Broken
  have XM_Broken_SlideError := exm_ref cl_SlideError ty_SlideError s_Broken_SlideError sb_SlideError
  have KO_NoSize_SlideError := kit_ref cl_SlideError ty_SlideError s_NoSize_SlideError s_NoSize_NoSize
  have XM_NoSize_SlideError := exm_ref cl_SlideError ty_SlideError s_NoSize_SlideError sb_SlideError
  have KO_NoNumber_SlideError := kit_ref cl_SlideError ty_SlideError s_NoNumber_SlideError s_NoNumber_NoNumber
  have XM_NoNumber_SlideError := exm_ref cl_SlideError ty_SlideError s_NoNumber_SlideError sb_SlideError
  have KO_NotRead_SlideError := kit_ref cl_SlideError ty_SlideError s_NotRead_SlideError s_NotRead_NotRead
  have XM_NotRead_SlideError := exm_ref cl_SlideError ty_SlideError s_NotRead_SlideError sb_SlideError
  refine ⟨PySem.W.fnOf "law" "law" (defArgs s_law) (defBody s_law) (defScope s_law) .none kV30 dc30 pm30 an30 cd30 ct30, fun s v => .of_eq rfl, fun base _ _ => ?_⟩
  have C1 := ok_cell_at (P := l.prog) (w := w) (base := base) D__law_cell_at Z_len
  have CI := ok_in_bounds (P := l.prog) (w := w) (base := base) D_in_bounds G_GREATEST
  have C4 := ok_is_row D_is_row CI (ok_rises (P := l.prog) (w := w) (base := base) D_rises Z_all Z_zip) G_MOST_NUMBERS Z_len Z_all
  have CF := ok_found_breach D_found_breach (ok_even_breach (P := l.prog) (w := w) (base := base) D_even_breach Z_enumerate) (ok_sums_breach (P := l.prog) (w := w) (base := base) D_sums_breach Z_enumerate) (ok_parts_breach (P := l.prog) (w := w) (base := base) D_parts_breach Z_enumerate)
  have CRu := ok_check_ruleT (P := l.prog) (w := w) (base := base) D_check_rule G_RULES EC_NoRule
  have CRo := ok_check_rowT D_check_row C4 EC_NoRow
  have CBr := ok_breachT D_breach CRu CRo CF
  have CKe := ok_keepsR D_keeps CBr
  have CK := ok_check_keptT D_check_kept CBr EC_Broken
  have CG := ok_grownR D_grown CK (ok_least_aboveT D_least_above CF G_GREATEST EC_NoNumber) G_MOST_NUMBERS Z_len Z_list EC_NoSize
  have CFe := ok_fellR D_fell CK CI CF Z_sorted EC_NoNumber
  have CM := ok_movedT D_moved CRo CI Z_all EC_NoNumber
  have CD := ok_diffN D_differences CRo
  have CS := ok_shownT D_shown CRo Z_str
  have CMo := ok_mostN D_most CRu G_GREATEST_BOUND EC_NoSize
  have CSh := ok_shortN (P := l.prog) (w := w) (base := base) D_shortest G_MOST_MARKS EC_NoSize
  have CRd := ok_readT D_read (ok_is_number (P := l.prog) (w := w) (base := base) D_is_number G_FIGURES Z_all) C4 Z_all Z_int EC_NotRead
  have CB := ok_by_rule D__law_by_rule CKe CBr CG CFe
  have CN1 := ok_no_row D__law_no_row CB CM CD CS Z_list Z_range
  have CN2 := ok_broken D__law_broken CG CFe Z_len
  have CN3 := ok_no_size D__law_no_size CG CMo CSh Z_len Z_list
  have CN4 := ok_no_number D__law_no_number CG CFe CM
  have CDo := ok_done D__law_done CMo CB CN1 CN2 CN3 CN4 CRd
  have CWh := ok_which (P := l.prog) (w := w) (base := base) D__law_which EC_NoRule.m EC_NoRow.m EC_Broken.m EC_NoSize.m EC_NoNumber.m EC_NotRead.m Z_isinstance Z_ValueError
  refine ok_law F30 C1 CDo CWh EC_SlideError.m (fun i hi => ?x1) (fun i hi => ?wi) Z_range
  case x1 => exact match i, hi with | 0, _ => XM_NoRule_SlideError | 1, _ => XM_NoRow_SlideError | 2, _ => XM_Broken_SlideError | 3, _ => XM_NoSize_SlideError | 4, _ => XM_NoNumber_SlideError | 5, _ => XM_NotRead_SlideError
  case wi => exact match i, hi with | 0, _ => ⟨AK_NoRule, KO_NoRule_NoRule, KO_NoRule_NoRow, KO_NoRule_Broken, KO_NoRule_NoSize, KO_NoRule_NoNumber, KO_NoRule_NotRead, KV_NoRule⟩ | 1, _ => ⟨AK_NoRow, KO_NoRow_NoRule, KO_NoRow_NoRow, KO_NoRow_Broken, KO_NoRow_NoSize, KO_NoRow_NoNumber, KO_NoRow_NotRead, KV_NoRow⟩ | 2, _ => ⟨AK_Broken, KO_Broken_NoRule, KO_Broken_NoRow, KO_Broken_Broken, KO_Broken_NoSize, KO_Broken_NoNumber, KO_Broken_NotRead, KV_Broken⟩ | 3, _ => ⟨AK_NoSize, KO_NoSize_NoRule, KO_NoSize_NoRow, KO_NoSize_Broken, KO_NoSize_NoSize, KO_NoSize_NoNumber, KO_NoSize_NotRead, KV_NoSize⟩ | 4, _ => ⟨AK_NoNumber, KO_NoNumber_NoRule, KO_NoNumber_NoRow, KO_NoNumber_Broken, KO_NoNumber_NoSize, KO_NoNumber_NoNumber, KO_NoNumber_NotRead, KV_NoNumber⟩ | 5, _ => ⟨AK_NotRead, KO_NotRead_NoRule, KO_NotRead_NoRow, KO_NotRead_Broken, KO_NotRead_NoSize, KO_NotRead_NoNumber, KO_NotRead_NotRead, KV_NotRead⟩
theorem walk {l : PySem.W.OpenLaw} {q : Program} {loose : List Str} {XP : (Str → Option Value) → Heap → Prop} {YP : World → Heap → Prop} {d : DefRec} {K : Params → PySem.W.Frag} (hn : l.most = some 63) (hdf : d.params.defaults = [])
    (hY : ∀ (w : World) (h : Heap), YP w h → (K w.params).In h)
    (F : ∀ (w : World) (mg : Str → Option Value) (fa : Addr) (h : Heap), (K w.params).In h → h.Ns mainGlobals mg → mg d.name = some (.ref fa) →
      ∃ fd : FuncData, (∀ (s : Shared) (u : Value), BindsTo s fd ⟨[u], []⟩ [("script", u)]) ∧ ∀ base : Heap, (K w.params).In base → base.Ns mainGlobals mg → FnOk l.prog w (K w.params) mg base CX0 10 fa fd ["script"] (spLaw (K w.params))) :
    PySem.W.WalkO q loose XP YP l.row.toRowW d [] (fun f vs => PySem.call f vs) :=
  L2.walk_of (n := 63) (k := 10) (x := "script") (CX := fun _ => CX0) (sp := fun w => spLaw (K w.params)) hn (by decide) hdf ⟨rfl, by decide, by decide⟩ hY F (fun _ _ a ns hl _ hS => ⟨a, ns, rfl, hS, hl, fun _ => rfl⟩) fun _ _ _ _ _ z => z
end Sp
open PySem PySem.W PyProof.Rows
set_option maxRecDepth 100000 in
set_option maxHeartbeats 0 in
theorem PySem.Challenge.cw_sliderings_k14_each_refusal_its_own_holds : PySem.Challenge.rw_sliderings_k14_each_refusal_its_own.Holds := by
  w_on; o_law; k_head; (case hw => w_witness2)
  k_fill
  refine Sp.walk (l := PySem.Challenge.rw_sliderings_k14_each_refusal_its_own) rfl rfl (fun w h Y => PySem.W.kIn_of Y) ?F
  case F =>
    intro w mg fa h KX G hmg
    refine' Sp.all_mk KX G hmg ?a0 ?l0 ?c0 ?k0 ?a1 ?l1 ?c1 ?k1 ?a2 ?l2 ?c2 ?k2 ?a3 ?l3 ?c3 ?k3 ?a4 ?l4 ?c4 ?k4 ?a5 ?l5 ?c5 ?k5 ?a6 ?l6 ?c6 ?k6 ?a7 ?l7 ?c7 ?k7 ?a8 ?l8 ?c8 ?k8 ?a9 ?l9 ?c9 ?k9 ?a10 ?l10 ?c10 ?k10 ?a11 ?l11 ?c11 ?k11 ?a12 ?l12 ?c12 ?k12 ?a13 ?l13 ?c13 ?k13 ?a14 ?l14 ?c14 ?k14 ?a15 ?l15 ?c15 ?k15 ?a16 ?l16 ?c16 ?k16 ?a17 ?l17 ?c17 ?k17 ?a18 ?l18 ?c18 ?k18 ?a19 ?l19 ?c19 ?k19 ?a20 ?l20 ?c20 ?k20 ?a21 ?l21 ?c21 ?k21 ?a22 ?l22 ?c22 ?k22 ?a23 ?l23 ?c23 ?k23 ?a24 ?l24 ?c24 ?k24 ?a25 ?l25 ?c25 ?k25 ?a26 ?l26 ?c26 ?k26 ?a27 ?l27 ?c27 ?k27 ?a28 ?l28 ?c28 ?k28 ?a29 ?l29 ?c29 ?k29 ?a30 ?l30 ?c30 ?k30 ?g_MOST_NUMBERS ?g_GREATEST ?g_GREATEST_BOUND ?g_MOST_MARKS ?g_FIGURES ?g_RULES ?h_RULES ?z_len ?z_all ?z_zip ?z_range ?z_list ?z_isinstance ?z_int ?z_str ?z_enumerate ?z_sorted ?z_ValueError ?gnX ?tkX ?x_SlideError ?e_SlideError ?cl_SlideError ?ty_SlideError ?sb_SlideError ?sv_SlideError ?ga_SlideError ?gt_SlideError ?ca_SlideError ?mo_SlideError ?mb_SlideError ?x_NoRule ?e_NoRule ?cl_NoRule ?ty_NoRule ?sb_NoRule ?sv_NoRule ?ga_NoRule ?gt_NoRule ?ca_NoRule ?mo_NoRule ?mb_NoRule ?x_NoRow ?e_NoRow ?cl_NoRow ?ty_NoRow ?sb_NoRow ?sv_NoRow ?ga_NoRow ?gt_NoRow ?ca_NoRow ?mo_NoRow ?mb_NoRow ?x_Broken ?e_Broken ?cl_Broken ?ty_Broken ?sb_Broken ?sv_Broken ?ga_Broken ?gt_Broken ?ca_Broken ?mo_Broken ?mb_Broken ?x_NoSize ?e_NoSize ?cl_NoSize ?ty_NoSize ?sb_NoSize ?sv_NoSize ?ga_NoSize ?gt_NoSize ?ca_NoSize ?mo_NoSize ?mb_NoSize ?x_NoNumber ?e_NoNumber ?cl_NoNumber ?ty_NoNumber ?sb_NoNumber ?sv_NoNumber ?ga_NoNumber ?gt_NoNumber ?ca_NoNumber ?mo_NoNumber ?mb_NoNumber ?x_NotRead ?e_NotRead ?cl_NotRead ?ty_NotRead ?sb_NotRead ?sv_NotRead ?ga_NotRead ?gt_NotRead ?ca_NotRead ?mo_NotRead ?mb_NotRead ?s_NoRule_NoRule ?s_NoRule_NoRow ?s_NoRule_Broken ?s_NoRule_NoSize ?s_NoRule_NoNumber ?s_NoRule_NotRead ?s_NoRow_NoRule ?s_NoRow_NoRow ?s_NoRow_Broken ?s_NoRow_NoSize ?s_NoRow_NoNumber ?s_NoRow_NotRead ?s_Broken_NoRule ?s_Broken_NoRow ?s_Broken_Broken ?s_Broken_NoSize ?s_Broken_NoNumber ?s_Broken_NotRead ?s_NoSize_NoRule ?s_NoSize_NoRow ?s_NoSize_Broken ?s_NoSize_NoSize ?s_NoSize_NoNumber ?s_NoSize_NotRead ?s_NoNumber_NoRule ?s_NoNumber_NoRow ?s_NoNumber_Broken ?s_NoNumber_NoSize ?s_NoNumber_NoNumber ?s_NoNumber_NotRead ?s_NotRead_NoRule ?s_NotRead_NoRow ?s_NotRead_Broken ?s_NotRead_NoSize ?s_NotRead_NoNumber ?s_NotRead_NotRead ?s_NoRule_SlideError ?s_NoRow_SlideError ?s_Broken_SlideError ?s_NoSize_SlideError ?s_NoNumber_SlideError ?s_NotRead_SlideError
    (case a0 => k_is)
    (case l0 => k_is)
    (case c0 => k_is)
    (case k0 => k_is)
    (case a1 => k_is)
    (case l1 => k_is)
    (case c1 => k_is)
    (case k1 => k_is)
    (case a2 => k_is)
    (case l2 => k_is)
    (case c2 => k_is)
    (case k2 => k_is)
    (case a3 => k_is)
    (case l3 => k_is)
    (case c3 => k_is)
    (case k3 => k_is)
    (case a4 => k_is)
    (case l4 => k_is)
    (case c4 => k_is)
    (case k4 => k_is)
    (case a5 => k_is)
    (case l5 => k_is)
    (case c5 => k_is)
    (case k5 => k_is)
    (case a6 => k_is)
    (case l6 => k_is)
    (case c6 => k_is)
    (case k6 => k_is)
    (case a7 => k_is)
    (case l7 => k_is)
    (case c7 => k_is)
    (case k7 => k_is)
    (case a8 => k_is)
    (case l8 => k_is)
    (case c8 => k_is)
    (case k8 => k_is)
    (case a9 => k_is)
    (case l9 => k_is)
    (case c9 => k_is)
    (case k9 => k_is)
    (case a10 => k_is)
    (case l10 => k_is)
    (case c10 => k_is)
    (case k10 => k_is)
    (case a11 => k_is)
    (case l11 => k_is)
    (case c11 => k_is)
    (case k11 => k_is)
    (case a12 => k_is)
    (case l12 => k_is)
    (case c12 => k_is)
    (case k12 => k_is)
    (case a13 => k_is)
    (case l13 => k_is)
    (case c13 => k_is)
    (case k13 => k_is)
    (case a14 => k_is)
    (case l14 => k_is)
    (case c14 => k_is)
    (case k14 => k_is)
    (case a15 => k_is)
    (case l15 => k_is)
    (case c15 => k_is)
    (case k15 => k_is)
    (case a16 => k_is)
    (case l16 => k_is)
    (case c16 => k_is)
    (case k16 => k_is)
    (case a17 => k_is)
    (case l17 => k_is)
    (case c17 => k_is)
    (case k17 => k_is)
    (case a18 => k_is)
    (case l18 => k_is)
    (case c18 => k_is)
    (case k18 => k_is)
    (case a19 => k_is)
    (case l19 => k_is)
    (case c19 => k_is)
    (case k19 => k_is)
    (case a20 => k_is)
    (case l20 => k_is)
    (case c20 => k_is)
    (case k20 => k_is)
    (case a21 => k_is)
    (case l21 => k_is)
    (case c21 => k_is)
    (case k21 => k_is)
    (case a22 => k_is)
    (case l22 => k_is)
    (case c22 => k_is)
    (case k22 => k_is)
    (case a23 => k_is)
    (case l23 => k_is)
    (case c23 => k_is)
    (case k23 => k_is)
    (case a24 => k_is)
    (case l24 => k_is)
    (case c24 => k_is)
    (case k24 => k_is)
    (case a25 => k_is)
    (case l25 => k_is)
    (case c25 => k_is)
    (case k25 => k_is)
    (case a26 => k_is)
    (case l26 => k_is)
    (case c26 => k_is)
    (case k26 => k_is)
    (case a27 => k_is)
    (case l27 => k_is)
    (case c27 => k_is)
    (case k27 => k_is)
    (case a28 => k_is)
    (case l28 => k_is)
    (case c28 => k_is)
    (case k28 => k_is)
    (case a29 => k_is)
    (case l29 => k_is)
    (case c29 => k_is)
    (case k29 => k_is)
    (case a30 => k_is)
    (case l30 => k_is)
    (case c30 => k_is)
    (case k30 => k_is)
    (case g_MOST_NUMBERS => k_is)
    (case g_GREATEST => k_is)
    (case g_GREATEST_BOUND => k_is)
    (case g_MOST_MARKS => k_is)
    (case g_FIGURES => k_is)
    (case g_RULES => k_is)
    (case h_RULES => k_is)
    (case z_len => k_is)
    (case z_all => k_is)
    (case z_zip => k_is)
    (case z_range => k_is)
    (case z_list => k_is)
    (case z_isinstance => k_is)
    (case z_int => k_is)
    (case z_str => k_is)
    (case z_enumerate => k_is)
    (case z_sorted => k_is)
    (case z_ValueError => k_is)
    (case gnX => k_is)
    (case tkX => k_is)
    (case x_SlideError => k_is)
    (case e_SlideError => k_exc)
    (case cl_SlideError => k_is)
    (case ty_SlideError => k_is)
    (case sb_SlideError => k_is)
    (case sv_SlideError => k_is)
    (case ga_SlideError => k_is)
    (case gt_SlideError => k_is)
    (case ca_SlideError => k_is)
    (case mo_SlideError => k_is)
    (case mb_SlideError => k_is)
    (case x_NoRule => k_is)
    (case e_NoRule => k_exc)
    (case cl_NoRule => k_is)
    (case ty_NoRule => k_is)
    (case sb_NoRule => k_is)
    (case sv_NoRule => k_is)
    (case ga_NoRule => k_is)
    (case gt_NoRule => k_is)
    (case ca_NoRule => k_is)
    (case mo_NoRule => k_is)
    (case mb_NoRule => k_is)
    (case x_NoRow => k_is)
    (case e_NoRow => k_exc)
    (case cl_NoRow => k_is)
    (case ty_NoRow => k_is)
    (case sb_NoRow => k_is)
    (case sv_NoRow => k_is)
    (case ga_NoRow => k_is)
    (case gt_NoRow => k_is)
    (case ca_NoRow => k_is)
    (case mo_NoRow => k_is)
    (case mb_NoRow => k_is)
    (case x_Broken => k_is)
    (case e_Broken => k_exc)
    (case cl_Broken => k_is)
    (case ty_Broken => k_is)
    (case sb_Broken => k_is)
    (case sv_Broken => k_is)
    (case ga_Broken => k_is)
    (case gt_Broken => k_is)
    (case ca_Broken => k_is)
    (case mo_Broken => k_is)
    (case mb_Broken => k_is)
    (case x_NoSize => k_is)
    (case e_NoSize => k_exc)
    (case cl_NoSize => k_is)
    (case ty_NoSize => k_is)
    (case sb_NoSize => k_is)
    (case sv_NoSize => k_is)
    (case ga_NoSize => k_is)
    (case gt_NoSize => k_is)
    (case ca_NoSize => k_is)
    (case mo_NoSize => k_is)
    (case mb_NoSize => k_is)
    (case x_NoNumber => k_is)
    (case e_NoNumber => k_exc)
    (case cl_NoNumber => k_is)
    (case ty_NoNumber => k_is)
    (case sb_NoNumber => k_is)
    (case sv_NoNumber => k_is)
    (case ga_NoNumber => k_is)
    (case gt_NoNumber => k_is)
    (case ca_NoNumber => k_is)
    (case mo_NoNumber => k_is)
    (case mb_NoNumber => k_is)
    (case x_NotRead => k_is)
    (case e_NotRead => k_exc)
    (case cl_NotRead => k_is)
    (case ty_NotRead => k_is)
    (case sb_NotRead => k_is)
    (case sv_NotRead => k_is)
    (case ga_NotRead => k_is)
    (case gt_NotRead => k_is)
    (case ca_NotRead => k_is)
    (case mo_NotRead => k_is)
    (case mb_NotRead => k_is)
    (case s_NoRule_NoRule => k_is)
    (case s_NoRule_NoRow => k_is)
    (case s_NoRule_Broken => k_is)
    (case s_NoRule_NoSize => k_is)
    (case s_NoRule_NoNumber => k_is)
    (case s_NoRule_NotRead => k_is)
    (case s_NoRow_NoRule => k_is)
    (case s_NoRow_NoRow => k_is)
    (case s_NoRow_Broken => k_is)
    (case s_NoRow_NoSize => k_is)
    (case s_NoRow_NoNumber => k_is)
    (case s_NoRow_NotRead => k_is)
    (case s_Broken_NoRule => k_is)
    (case s_Broken_NoRow => k_is)
    (case s_Broken_Broken => k_is)
    (case s_Broken_NoSize => k_is)
    (case s_Broken_NoNumber => k_is)
    (case s_Broken_NotRead => k_is)
    (case s_NoSize_NoRule => k_is)
    (case s_NoSize_NoRow => k_is)
    (case s_NoSize_Broken => k_is)
    (case s_NoSize_NoSize => k_is)
    (case s_NoSize_NoNumber => k_is)
    (case s_NoSize_NotRead => k_is)
    (case s_NoNumber_NoRule => k_is)
    (case s_NoNumber_NoRow => k_is)
    (case s_NoNumber_Broken => k_is)
    (case s_NoNumber_NoSize => k_is)
    (case s_NoNumber_NoNumber => k_is)
    (case s_NoNumber_NotRead => k_is)
    (case s_NotRead_NoRule => k_is)
    (case s_NotRead_NoRow => k_is)
    (case s_NotRead_Broken => k_is)
    (case s_NotRead_NoSize => k_is)
    (case s_NotRead_NoNumber => k_is)
    (case s_NotRead_NotRead => k_is)
    (case s_NoRule_SlideError => k_is)
    (case s_NoRow_SlideError => k_is)
    (case s_Broken_SlideError => k_is)
    (case s_NoSize_SlideError => k_is)
    (case s_NoNumber_SlideError => k_is)
    (case s_NotRead_SlideError => k_is)
